import Derived.Shelf.Bits.Mul64
import Derived.Test.YthpipedifekmpaaGreatDoorJPo
import Derived.WalkKit
import Derived.ProofKit
import Derived.Deep.Light
import Derived.Lib.Hide
import Derived.Below
import Derived.Deep.QuietTactic
import Derived.BigQuiet
import Derived.Deep.RegionHeld3
set_option maxHeartbeats 8000000
set_option maxRecDepth 100000
set_option linter.unusedVariables false
namespace Go.Proofs.YthpipedifekmpaaGreatDoor
namespace Cal
def fits(n:Int):Bool:=decide (-9223372036854775808<=n)&&decide (n<=9223372036854775807)
def addV(a b:Int):Int:=if fits (a+b)then a+b else 0
def addE(a b:Int):Int:=if fits (a+b)then 0 else 6
def mulV(a b:Int):Int:=if fits (a*b)then a*b else 0
def mulE(a b:Int):Int:=if fits (a*b)then 0 else 6
def divV(a b:Int):Int:=if b<=0 then 0 else a / b
def divE(b:Int):Int:=if b<=0 then 1 else 0
def modV(a b:Int):Int:=if b<=0 then 0 else a % b
def force{α:Type}(n:Nat)(f:Nat->α):α:=match n with|0=>f 0|k+1=>f (Nat.succ k)
theorem force_eq{α:Type}(n:Nat)(f:Nat->α):force n f=f n:=by cases n <;> rfl
def allUpto(f:Nat->Bool):Nat->Nat->Bool
 |0,lo=>f lo
 |k+1,lo=>and (allUpto f k lo) (force (Nat.add lo (Nat.pow 2 k)) (allUpto f k))
theorem allUpto_spec(f:Nat->Bool)(k:Nat):∀lo,allUpto f k lo=true->∀n,lo<=n->n<lo+2 ^ k->f n=true:=by
 induction k with
 | zero => intro lo h n h1 h2;simp at h2;have:n=lo:=by omega
           subst this;exact h
 |succ k ih=>
  intro lo h n h1 h2
  simp only [allUpto,force_eq]at h
  rw [Bool.and_eq_true]at h
  by_cases hn:n<lo+2 ^ k
  ·exact ih lo h.1 n h1 hn
  ·exact ih (lo+2 ^ k) h.2 n (by omega) (by rw [Nat.pow_succ]at h2;omega)
theorem div_down(a b:Int)(hb:0<b)(h:a.tmod b<0):a.tdiv b-1=a / b/\a.tmod b+b=a % b:=by
 have h1:=Int.tmod_add_mul_tdiv a b
 have h2:=Int.lt_tmod_of_pos a hb
 have h3:=(Int.ediv_emod_unique (a:=a) (r:=a.tmod b+b) (q:=a.tdiv b-1) hb).2 ⟨by rw [Int.mul_sub];omega,by omega,by omega⟩
 exact⟨h3.1.symm,h3.2.symm⟩
theorem div_down'(a b:Int)(hb:0<b)(h:0<=a.tmod b):a.tdiv b=a / b/\a.tmod b=a % b:=by
 have h1:=Int.tmod_add_mul_tdiv a b
 have h2:=Int.tmod_lt_of_pos a hb
 have h3:=(Int.ediv_emod_unique (a:=a) (r:=a.tmod b) (q:=a.tdiv b) hb).2 ⟨by omega,h,h2⟩
 exact⟨h3.1.symm,h3.2.symm⟩
def leap(y:Int):Bool:=decide ((7*y+1) % 19<7)
def months(y:Int):Int:=if leap y then 13 else 12
def before(y:Int):Int:=(235*y-234) / 19
def reck(y:Int):Bool:=decide (0<=y)&&decide (y<=10001)
def leapV(y:Int):Bool:=reck y&&leap y
def reckE(y:Int):Int:=if reck y then 0 else 2
def monthsV(y:Int):Int:=if reck y then months y else 0
def beforeV(y:Int):Int:=if reck y then before y else 0
def moonDay(n:Int):Int:=(5604+765433*n) / 25920-1373427
def moonPart(n:Int):Int:=(5604+765433*n) % 25920
def moonIn(n:Int):Bool:=decide (-200000<=n)&&decide (n<=200000)
def moonE(n:Int):Int:=if moonIn n then 0 else 2
def moonD(n:Int):Int:=if moonIn n then moonDay n else 0
def moonP(n:Int):Int:=if moonIn n then moonPart n else 0
def ofIn(y m:Int):Bool:=decide (1<=m)&&decide (m<=months y)
def ofE(y m:Int):Int:=if reck y then(if ofIn y m then 0 else 3)else 2
def ofD(y m:Int):Int:=if reck y&&ofIn y m then moonDay (before y+m-1)else 0
def ofP(y m:Int):Int:=if reck y&&ofIn y m then moonPart (before y+m-1)else 0
def delay0(w p:Int)(leap after:Bool):Int:=
 if 19440<=p then 1 else if(!leap&&(w==2)&&decide (9924<=p))then 1 else if(after&&(w==1)&&decide (16789<=p))then 1 else 0
def delay(d p:Int)(leap after:Bool):Int:=
 let n:=delay0 (d % 7) p leap after
 if(d % 7+n) % 7=0∨(d % 7+n) % 7=3∨(d % 7+n) % 7=5 then n+1 else n
def first(y:Int):Int:=moonDay (before y)+delay (moonDay (before y)) (moonPart (before y)) (leap y) (leap (y-1))
def firstV(y:Int):Int:=if reck y then first y else 0
def nearly0(m:Int):Int:=29*m+(12084+13753*m) / 25920
def nearly(y:Int):Int:=let d:=nearly0 (before y);if(3*d+3) % 7<3 then d+1 else d
def nearIn(y:Int):Bool:=decide (-1<=y)&&decide (y<=10002)
def nearE(y:Int):Int:=if nearIn y then 0 else 2
def nearV(y:Int):Int:=if nearIn y then nearly y else 0
def first2(y:Int):Int:=
 if nearly (y+1)-nearly y=356 then nearly y+2-1373427 else if nearly y-nearly (y-1)=382 then nearly y+1-1373427 else nearly y-1373427
def lpN(y:Nat):Bool:=Nat.blt (Nat.mod (Nat.add (Nat.mul 7 y) 1) 19) 7
def befN(y:Nat):Nat:=Nat.div (Nat.sub (Nat.mul 235 y) 234) 19
def delayN(w p:Nat)(lp af:Bool):Nat:=cond (Nat.ble 19440 p) 1 (cond (and (not lp) (and (Nat.beq w 2) (Nat.ble 9924 p))) 1 (cond (and af (and (Nat.beq w 1) (Nat.ble 16789 p))) 1 0))
def badN(w:Nat):Bool:=or (Nat.beq w 0) (or (Nat.beq w 3) (Nat.beq w 5))
def firstK{α:Type}(y:Nat)(k:Nat->α):α:=
 force (befN y) fun mo=>force (Nat.add 5604 (Nat.mul 765433 mo)) fun mm=>force (Nat.div mm 25920) fun d=>force (Nat.mod mm 25920) fun p=>
 force (Nat.mod (Nat.add d 1) 7) fun w=>force (delayN w p (lpN y) (lpN (Nat.sub y 1))) fun n=>force (Nat.mod (Nat.add w n) 7) fun w2=>
 force (Nat.add d (Nat.add n (cond (badN w2) 1 0))) k
def nearK{α:Type}(y:Nat)(k:Nat->α):α:=
 force (befN y) fun mo=>force (Nat.add (Nat.mul 29 mo) (Nat.div (Nat.add 12084 (Nat.mul 13753 mo)) 25920)) fun d=>
 force (cond (Nat.blt (Nat.mod (Nat.add (Nat.mul 3 d) 3) 7) 3) (Nat.add d 1) d) k
def firstN(y:Nat):Nat:=firstK y id
def nearN(y:Nat):Nat:=nearK y id
theorem firstK_eq{α:Type}(y:Nat)(k:Nat->α):firstK y k=k (firstN y):=by simp only [firstN,firstK,force_eq,id]
theorem nearK_eq{α:Type}(y:Nat)(k:Nat->α):nearK y k=k (nearN y):=by simp only [nearN,nearK,force_eq,id]
def okN(y:Nat):Bool:=
 firstK y fun a=>firstK (Nat.succ y) fun b=>force (cond (lpN y) (Nat.sub (Nat.sub b a) 30) (Nat.sub b a)) fun n=>force (Nat.mod (Nat.add a 1) 7) fun w=>
 nearK (Nat.pred y) fun n0=>nearK y fun n1=>nearK (Nat.succ y) fun n2=>
 and (or (Nat.beq n 353) (or (Nat.beq n 354) (Nat.beq n 355))) (and (not (badN w)) (Nat.beq a (cond (Nat.beq (Nat.sub n2 n1) 356) (Nat.add n1 2) (cond (Nat.beq (Nat.sub n1 n0) 382) (Nat.add n1 1) n1))))
theorem okN1:allUpto okN 13 2=true:=by decide+kernel
theorem okN2:allUpto okN 11 8194=true:=by decide+kernel
theorem okN_all(y:Nat)(h0:2<=y)(h1:y<=10001):okN y=true:=by
 by_cases h:y<8194
 ·exact allUpto_spec _ _ _ okN1 y h0 (by omega)
 ·exact allUpto_spec _ _ _ okN2 y (by omega) (by omega)
theorem okN_spec(y:Nat)(h0:2<=y)(h1:y<=10001):
  ((firstN (y+1)-firstN y-(if lpN y then 30 else 0)=353∨firstN (y+1)-firstN y-(if lpN y then 30 else 0)=354∨firstN (y+1)-firstN y-(if lpN y then 30 else 0)=355)/\
   ((firstN y+1) % 7≠0/\(firstN y+1) % 7≠3/\(firstN y+1) % 7≠5))/\
   firstN y=if nearN (y+1)-nearN y=356 then nearN y+2 else if nearN y-nearN (y-1)=382 then nearN y+1 else nearN y:=by
 have h:=okN_all y h0 h1
 unfold okN at h
 simp only [firstK_eq,nearK_eq,force_eq]at h
 rw [Bool.and_eq_true,Bool.and_eq_true]at h
 obtain⟨h1,h2,h3⟩:=h
 refine⟨⟨?_, ?_⟩, ?_⟩
 ·simp only [Bool.or_eq_true,Nat.beq_eq]at h1
  cases hl:lpN y <;> rw [hl]at h1 <;> simpa using h1
 ·simp only [badN,Bool.not_eq_true',Bool.or_eq_false_iff]at h2
  exact⟨Nat.ne_of_beq_eq_false h2.1,Nat.ne_of_beq_eq_false h2.2.1,Nat.ne_of_beq_eq_false h2.2.2⟩
 ·rw [Nat.beq_eq]at h3
  simp only [Bool.cond_eq_ite,Nat.beq_eq]at h3
  exact h3
theorem cast_div(a b c m:Nat):(((a+b*m) / c:Nat):Int)=((a:Int)+b*m) / c:=by rw [Int.natCast_ediv,Int.natCast_add,Int.natCast_mul]
theorem cast_mod(a b c m:Nat):(((a+b*m) % c:Nat):Int)=((a:Int)+b*m) % c:=by rw [Int.natCast_emod,Int.natCast_add,Int.natCast_mul]
theorem cast_mod'(a b c m:Nat):(((b*m+a) % c:Nat):Int)=((b:Int)*m+a) % c:=by rw [Int.natCast_emod,Int.natCast_add,Int.natCast_mul]
theorem lp_nat(y:Nat):leap (y:Int)=lpN y:=by
 rw [Bool.eq_iff_iff]
 unfold leap lpN
 rw [decide_eq_true_eq,Nat.blt_eq]
 show(7*(y:Int)+1) % 19<7↔(7*y+1) % 19<7
 have e:(((7*y+1) % 19:Nat):Int)=(7*(y:Int)+1) % 19:=cast_mod' 1 7 19 y
 omega
theorem bef_nat(y:Nat)(h:1<=y):before (y:Int)=(befN y:Int):=by
 show(235*(y:Int)-234) / 19=(((235*y-234) / 19:Nat):Int)
 omega
theorem delay_nat(w p:Nat)(lp af:Bool):delay0 (w:Int) (p:Int) lp af=(delayN w p lp af:Int):=by
 have e1:Nat.ble 19440 p=decide (19440<=(p:Int)):=by rw [Bool.eq_iff_iff,Nat.ble_eq,decide_eq_true_eq];omega
 have e2:Nat.ble 9924 p=decide (9924<=(p:Int)):=by rw [Bool.eq_iff_iff,Nat.ble_eq,decide_eq_true_eq];omega
 have e3:Nat.ble 16789 p=decide (16789<=(p:Int)):=by rw [Bool.eq_iff_iff,Nat.ble_eq,decide_eq_true_eq];omega
 have e4:Nat.beq w 2=((w:Int)==2):=by rw [Bool.eq_iff_iff,Nat.beq_eq,beq_iff_eq];omega
 have e5:Nat.beq w 1=((w:Int)==1):=by rw [Bool.eq_iff_iff,Nat.beq_eq,beq_iff_eq];omega
 unfold delay0 delayN
 rw [e1,e2,e3,e4,e5]
 simp only [Bool.cond_eq_ite,decide_eq_true_eq,Bool.and_assoc]
 split
 ·rfl
 ·split
  ·rfl
  ·split <;> rfl
theorem bad_nat(w:Nat):badN w=decide (w=0∨w=3∨w=5):=by
 rw [Bool.eq_iff_iff]
 unfold badN
 simp only [Bool.or_eq_true,Nat.beq_eq,decide_eq_true_eq]
theorem first_nat(y:Nat)(h:2<=y):first (y:Int)=(firstN y:Int)-1373427:=by
 have hn:firstN y=(5604+765433*befN y) / 25920+(delayN (((5604+765433*befN y) / 25920+1) % 7) ((5604+765433*befN y) % 25920) (lpN y) (lpN (y-1))+
   cond (badN ((((5604+765433*befN y) / 25920+1) % 7+delayN (((5604+765433*befN y) / 25920+1) % 7) ((5604+765433*befN y) % 25920) (lpN y) (lpN (y-1))) % 7)) 1 0):=by
  simp only [firstN,firstK,force_eq,id]
  rfl
 rw [hn]
 unfold first delay
 rw [bef_nat y (by omega),lp_nat y,show((y:Int)-1)=((y-1:Nat):Int) by omega,lp_nat (y-1)]
 generalize befN y=m
 generalize lpN y=lp
 generalize lpN (y-1)=af
 have hd:moonDay (m:Int)=(((5604+765433*m) / 25920:Nat):Int)-1373427:=by unfold moonDay;rw [show(((5604+765433*m) / 25920:Nat):Int)=(5604+765433*(m:Int)) / 25920 from cast_div 5604 765433 25920 m]
 have hp:moonPart (m:Int)=(((5604+765433*m) % 25920:Nat):Int):=by(exact(cast_mod 5604 765433 25920 m).symm)
 have hw:moonDay (m:Int) % 7=((((5604+765433*m) / 25920+1) % 7:Nat):Int):=by
  rw [hd]
  generalize (5604+765433*m) / 25920=d
  omega
 simp only [hw,hp,delay_nat]
 rw [hd]
 generalize (5604+765433*m) % 25920=p
 generalize (5604+765433*m) / 25920=d
 generalize delayN ((d+1) % 7) p lp af=n
 rw [bad_nat,Bool.cond_eq_ite]
 simp only [decide_eq_true_eq]
 split <;> split <;> omega
theorem near_nat(y:Nat)(h:1<=y):nearly (y:Int)=(nearN y:Int):=by
 have hn:nearN y=cond (Nat.blt ((3*(29*befN y+(12084+13753*befN y) / 25920)+3) % 7) 3) (29*befN y+(12084+13753*befN y) / 25920+1) (29*befN y+(12084+13753*befN y) / 25920):=by
  simp only [nearN,nearK,force_eq,id]
  rfl
 rw [hn]
 unfold nearly nearly0
 rw [bef_nat y h]
 generalize befN y=m
 have e0:(((12084+13753*m) / 25920:Nat):Int)=(12084+13753*(m:Int)) / 25920:=cast_div 12084 13753 25920 m
 have e:(29*(m:Int)+(12084+13753*(m:Int)) / 25920)=((29*m+(12084+13753*m) / 25920:Nat):Int):=by
  rw [←e0];omega
 simp only [e]
 generalize 29*m+(12084+13753*m) / 25920=d
 have e2:(((3*d+3) % 7:Nat):Int)=(3*(d:Int)+3) % 7:=cast_mod' 3 3 7 d
 simp only [Bool.cond_eq_ite,Nat.blt_eq]
 split <;> split <;> omega
theorem year_long(y:Int)(h0:0<=y)(h1:y<=10000):
  first (y+1)-first y-(if leap y then 30 else 0)=353∨first (y+1)-first y-(if leap y then 30 else 0)=354∨first (y+1)-first y-(if leap y then 30 else 0)=355:=by
 by_cases h2:y<2
 ·have:y=0∨y=1:=by omega
  rcases this with rfl|rfl <;> decide+kernel
 ·obtain⟨n,rfl⟩:=Int.eq_ofNat_of_zero_le h0
  have h:=(okN_spec n (by omega) (by omega)).1.1
  have e:((n:Int)+1)=((n+1:Nat):Int):=by omega
  rw [e,first_nat n (by omega),first_nat (n+1) (by omega),lp_nat n]
  cases hl:lpN n <;> rw [hl]at h <;> simp only [Bool.false_eq_true,if_true,if_false]at h⊢ <;> omega
theorem year_same(y:Int)(h0:0<=y)(h1:y<=10001):first2 y=first y:=by
 by_cases h2:y<2
 ·have:y=0∨y=1:=by omega
  rcases this with rfl|rfl <;> decide+kernel
 ·obtain⟨n,rfl⟩:=Int.eq_ofNat_of_zero_le h0
  have h:=(okN_spec n (by omega) (by omega)).2
  have e:((n:Int)+1)=((n+1:Nat):Int):=by omega
  have e':((n:Int)-1)=((n-1:Nat):Int):=by omega
  unfold first2
  rw [e,e',first_nat n (by omega),near_nat n (by omega),near_nat (n+1) (by omega),near_nat (n-1) (by omega)]
  split at h
  ·rw [h,if_pos (by omega)];omega
  ·rw [if_neg (by omega)]
   split at h
   ·rw [h,if_pos (by omega)];omega
   ·rw [h,if_neg (by omega)]
end Cal
end Go.Proofs.YthpipedifekmpaaGreatDoor
namespace Go.Proofs.YthpipedifekmpaaGreatDoor
namespace Cal
def partsIn(d h p:Int):Bool:=fits (d*25920)&&fits (h*1080)&&fits (d*25920+h*1080)&&fits (d*25920+h*1080+p)
def partsV(d h p:Int):Int:=if partsIn d h p then d*25920+h*1080+p else 0
def partsE(d h p:Int):Int:=if partsIn d h p then 0 else 6
theorem parts_no(d h p:Int)(hx:(fits (d*25920)&&fits (h*1080)&&fits (d*25920+h*1080))=false):partsV d h p=0/\partsE d h p=6:=by
 unfold partsV partsE partsIn
 rw [hx]
 exact⟨rfl,rfl⟩
theorem parts_ok(d h p:Int)(h1:fits (d*25920)=true)(h2:fits (h*1080)=true)(h3:fits (d*25920+h*1080)=true):
  partsV d h p=addV (d*25920+h*1080) p/\partsE d h p=addE (d*25920+h*1080) p:=by
 unfold partsV partsE partsIn addV addE
 rw [h1,h2,h3]
 exact⟨rfl,rfl⟩
end Cal
end Go.Proofs.YthpipedifekmpaaGreatDoor
namespace Go.Proofs
open Go.Shelf
namespace YthpipedifekmpaaGreatDoor
def lays264_ren:Go.Shelf.Ren:=⟨fun|264=>168|n=>n,fun|53=>145|46=>121|n=>n,fun|n=>n⟩
theorem lays264:Go.Proofs.Lays.n264 Tryo.prog lays264_ren:={
 mixed:=by kernel_rfl
 f264:=Tryo.func168.trans (congrArg some (by kernel_rfl))
 t46:=(und_o Tryz.underlying121)
 a46:=(run_o (Tryo.isAgg 121) Tryz.isAgg121)
 z46:=(run_o (Tryo.sizeOf 121) Tryz.sizeOf121)
 v46:=(run_o (Tryo.zeroValue 121) Tryz.zeroValue121)
 t53:=(und_o Tryz.underlying145)
 a53:=(run_o (Tryo.isAgg 145) Tryz.isAgg145)
 z53:=(run_o (Tryo.sizeOf 145) Tryz.sizeOf145)
 v53:=(run_o (Tryo.zeroValue 145) Tryz.zeroValue145)}
open Go.RowKit Go.Lib in
theorem bits_Mul64(x y:Nat)(hx:x<18446744073709551616)(hy:y<18446744073709551616)(w:World):
  Calls Tryo.prog 168 #[.int .u64 x,.int .u64 y] w fun e w'=>e= .returned (.tuple #[.int .u64 ((x*y / 18446744073709551616:Nat):Int),.int .u64 ((x*y % 18446744073709551616:Nat):Int)])/\w'=w:=Any.bits_Mul64 lays264 x y hx hy w
end YthpipedifekmpaaGreatDoor
end Go.Proofs
namespace Go.Proofs.YthpipedifekmpaaGreatDoor
open Go.ChangeShapes Go.WideShapes Go.ChangeAt Go.RowKit
def I64(a:Int):Prop:= -9223372036854775808<=a/\a<=9223372036854775807
theorem ret_i{a b:Int}(h:a=b):Ending.returned (.int .i64 a)= .returned (.int .i64 b):=by rw [h]
theorem ret_b{a b:Bool}(h:a=b):Ending.returned (.bool a)= .returned (.bool b):=by rw [h]
theorem ret_ii{a b c d:Int}(h:a=b)(h':c=d):Ending.returned (.tuple #[.int .i64 a,.int .i64 c])= .returned (.tuple #[.int .i64 b,.int .i64 d]):=by rw [h,h']
theorem ret_bi{a b:Bool}{c d:Int}(h:a=b)(h':c=d):Ending.returned (.tuple #[.bool a,.int .i64 c])= .returned (.tuple #[.bool b,.int .i64 d]):=by rw [h,h']
theorem ediv_bd(a b:Int)(ha:I64 a)(hb:0<b):I64 (a / b)/\(a.tmod b<0->I64 (a / b+1)):=by
 obtain⟨h1,h2⟩:=ha
 have k1: -9223372036854775808<=a / b:=by
  rw [Int.le_ediv_iff_mul_le hb]
  omega
 have k2:a / b<9223372036854775808:=by
  rw [Int.ediv_lt_iff_lt_mul hb]
  omega
 refine⟨⟨k1,by omega⟩,fun h=> ?_⟩
 have k3:a / b<0:=by
  rw [Int.ediv_lt_iff_lt_mul hb]
  have hn:a<0:=by
   by_cases h0:0<=a
   ·have:=Int.tmod_nonneg (b:=b) h0;omega
   ·omega
  omega
 exact⟨by omega,by omega⟩
theorem div_lo(a b:Int)(ha:I64 a)(hb:0<b)(h:a.tmod b<0):wrap64 (wrap64 (a.tdiv b)-1)=Cal.divV a b:=by
 obtain⟨e1,_⟩:=Cal.div_down a b hb h
 obtain⟨d1,d2⟩:=ediv_bd a b ha hb
 have d2:=d2 h
 rw [Cal.divV,if_neg (by omega),show a.tdiv b=a / b+1 by omega,IntWalk.wrap64_in _ d2,show a / b+1-1=a / b by omega,IntWalk.wrap64_in _ d1]
theorem div_hi(a b:Int)(ha:I64 a)(hb:0<b)(h:0<=a.tmod b):wrap64 (a.tdiv b)=Cal.divV a b:=by
 obtain⟨e1,_⟩:=Cal.div_down' a b hb h
 rw [Cal.divV,if_neg (by omega),e1,IntWalk.wrap64_in _ (ediv_bd a b ha hb).1]
theorem mod_bd(a b:Int)(hb:0<b)(hb2:I64 b):I64 (a % b):=by
 have h1:=Int.emod_nonneg a (show b≠0 by omega)
 have h2:=Int.emod_lt_of_pos a hb
 obtain⟨h3,h4⟩:=hb2
 exact⟨by omega,by omega⟩
theorem mod_lo(a b:Int)(hb2:I64 b)(hb:0<b)(h:a.tmod b<0):wrap64 (a.tmod b+b)=Cal.modV a b:=by
 obtain⟨_,e1⟩:=Cal.div_down a b hb h
 rw [Cal.modV,if_neg (by omega),e1,IntWalk.wrap64_in _ (mod_bd a b hb hb2)]
theorem mod_hi(a b:Int)(hb2:I64 b)(hb:0<b)(h:0<=a.tmod b):a.tmod b=Cal.modV a b:=by
 obtain⟨_,e1⟩:=Cal.div_down' a b hb h
 rw [Cal.modV,if_neg (by omega),e1]
theorem div_no(a b:Int)(h:b<=0):0=Cal.divV a b:=by rw [Cal.divV,if_pos h]
theorem mod_no(a b:Int)(h:b<=0):0=Cal.modV a b:=by rw [Cal.modV,if_pos h]
theorem dive_no(b:Int)(h:b<=0):1=Cal.divE b:=by rw [Cal.divE,if_pos h]
theorem dive_ok(b:Int)(h:0<b):0=Cal.divE b:=by rw [Cal.divE,if_neg (by omega)]
theorem fits_yes{n:Int}(h1: -9223372036854775808<=n)(h2:n<=9223372036854775807):Cal.fits n=true:=by simp [Cal.fits,h1,h2]
theorem fits_no{n:Int}(h:n< -9223372036854775808∨9223372036854775807<n):Cal.fits n=false:=by
 rw [Bool.eq_false_iff];intro h';simp only [Cal.fits,Bool.and_eq_true,decide_eq_true_eq]at h';omega
theorem add_ok(a b:Int)(h1: -9223372036854775808<=a+b)(h2:a+b<=9223372036854775807):a+b=Cal.addV a b:=by rw [Cal.addV,if_pos (fits_yes h1 h2)]
theorem adde_ok(a b:Int)(h1: -9223372036854775808<=a+b)(h2:a+b<=9223372036854775807):0=Cal.addE a b:=by rw [Cal.addE,if_pos (fits_yes h1 h2)]
theorem add_no(a b:Int)(h:a+b< -9223372036854775808∨9223372036854775807<a+b):0=Cal.addV a b:=by rw [Cal.addV,if_neg (by rw [fits_no h];decide)]
theorem adde_no(a b:Int)(h:a+b< -9223372036854775808∨9223372036854775807<a+b):6=Cal.addE a b:=by rw [Cal.addE,if_neg (by rw [fits_no h];decide)]
theorem exact_Div(a b:Int)(w:World)(ha:I64 a)(hb:I64 b):
  Calls Tryo.prog 82 #[.int .i64 a,.int .i64 b] w fun e w'=>e= .returned (.tuple #[.int .i64 (Cal.divV a b),.int .i64 (Cal.divE b)])/\w=w':=by
 go_enter Tryo.func82,Tryz.ntmps82
 go_wp2
 all_goals go_ret2
 ·exact⟨ret_ii (div_no _ _ ‹_›) (dive_no _ ‹_›),rfl⟩
 ·exact⟨ret_ii (div_lo _ _ ha ‹_› ‹_›) (dive_ok _ ‹_›),rfl⟩
 ·exact⟨ret_ii (div_hi _ _ ha ‹_› ‹_›) (dive_ok _ ‹_›),rfl⟩
theorem exact_Mod(a b:Int)(w:World)(ha:I64 a)(hb:I64 b):
  Calls Tryo.prog 60 #[.int .i64 a,.int .i64 b] w fun e w'=>e= .returned (.tuple #[.int .i64 (Cal.modV a b),.int .i64 (Cal.divE b)])/\w=w':=by
 go_enter Tryo.func60,Tryz.ntmps60
 go_wp2
 all_goals go_ret2
 ·exact⟨ret_ii (mod_no _ _ ‹_›) (dive_no _ ‹_›),rfl⟩
 ·exact⟨ret_ii (mod_lo _ _ hb ‹_› ‹_›) (dive_ok _ ‹_›),rfl⟩
 ·exact⟨ret_ii (mod_hi _ _ hb ‹_› ‹_›) (dive_ok _ ‹_›),rfl⟩
theorem add64(x y:Int)(hx:0<=x)(hy:0<=y)(w:World):
  (callFunc 170 #[.int .u64 x,.int .u64 y,.int .u64 0]).run Tryo.prog w= .ok (.value (.tuple #[.int .u64 ((x+y) % 18446744073709551616),.int .u64 ((x+y) / 18446744073709551616)])) w:=by
 have h:=run_add64 (P:=Tryo.prog) x y 0 hx hy (by omega) (by omega) w
 rw [show x+y+0=x+y by omega]at h
 rw [run_callFunc_extern Tryo.func170 (by kernel_rfl) (by kernel_rfl) (by kernel_rfl) (e:=add64Entry) (by kernel_rfl),h]
 rfl
theorem sum_back(a b:Int):wrap64 ((IntKind.u64.wrap a+IntKind.u64.wrap b) % 18446744073709551616)=wrap64 (a+b):=by
 rw [IntKind.wrap_u64,IntKind.wrap_u64]
 unfold wrap64
 omega
theorem add_way1(a b:Int)(ha:I64 a)(hb:I64 b)(h1:a<0↔b<0)(h2:(!decide (wrap64 ((IntKind.u64.wrap a+IntKind.u64.wrap b) % 18446744073709551616)<0)==decide (b<0))=true):
  a+b< -9223372036854775808∨9223372036854775807<a+b:=by
 obtain⟨ha1,ha2⟩:=ha
 obtain⟨hb1,hb2⟩:=hb
 rw [sum_back]at h2
 unfold wrap64 at h2
 by_cases c1:(a+b+9223372036854775808) % 18446744073709551616-9223372036854775808<0 <;> by_cases c2:b<0 <;> simp [c1,c2]at h2 <;> omega
theorem add_way2(a b:Int)(ha:I64 a)(hb:I64 b)(h1:a<0↔b<0)(h2:(!decide (wrap64 ((IntKind.u64.wrap a+IntKind.u64.wrap b) % 18446744073709551616)<0)==decide (b<0))=false):
  -9223372036854775808<=a+b/\a+b<=9223372036854775807:=by
 obtain⟨ha1,ha2⟩:=ha
 obtain⟨hb1,hb2⟩:=hb
 rw [sum_back]at h2
 unfold wrap64 at h2
 by_cases c1:(a+b+9223372036854775808) % 18446744073709551616-9223372036854775808<0 <;> by_cases c2:b<0 <;> simp [c1,c2]at h2 <;> omega
theorem exact_Add(a b:Int)(w:World)(ha:I64 a)(hb:I64 b):
  Calls Tryo.prog 159 #[.int .i64 a,.int .i64 b] w fun e w'=>e= .returned (.tuple #[.int .i64 (Cal.addV a b),.int .i64 (Cal.addE a b)])/\w=w':=by
 obtain⟨ha1,ha2⟩:=ha
 obtain⟨hb1,hb2⟩:=hb
 go_enter Tryo.func159,Tryz.ntmps159
 have k1:0<=IntKind.u64.wrap a:=by rw [IntKind.wrap_u64];omega
 have k2:0<=IntKind.u64.wrap b:=by rw [IntKind.wrap_u64];omega
 go_wp2_with (simp only [add64 _ _ k1 k2])
 all_goals go_ret2
 ·have h:=add_way1 a b ⟨ha1,ha2⟩ ⟨hb1,hb2⟩ ‹_› ‹_›
  exact⟨ret_ii (add_no _ _ h) (adde_no _ _ h),rfl⟩
 ·have h:=add_way2 a b ⟨ha1,ha2⟩ ⟨hb1,hb2⟩ ‹_› ‹_›
  exact⟨ret_ii (by rw [sum_back,IntWalk.wrap64_in _ h];exact add_ok _ _ h.1 h.2) (adde_ok _ _ h.1 h.2),rfl⟩
 ·have h':¬(a<0↔b<0):=by assumption
  have h: -9223372036854775808<=a+b/\a+b<=9223372036854775807:=by omega
  exact⟨ret_ii (by rw [sum_back,IntWalk.wrap64_in _ h];exact add_ok _ _ h.1 h.2) (adde_ok _ _ h.1 h.2),rfl⟩
theorem ret_u{a b:Int}(h:a=b):Ending.returned (.int .u64 a)= .returned (.int .u64 b):=by rw [h]
theorem exact_size(a:Int)(w:World)(ha:I64 a):
  Calls Tryo.prog 169 #[.int .i64 a] w fun e w'=>e= .returned (.int .u64 ((a.natAbs:Nat):Int))/\w=w':=by
 obtain⟨ha1,ha2⟩:=ha
 go_enter Tryo.func169,Tryz.ntmps169
 go_wp2
 all_goals go_ret
 ·have h:a<0:=by assumption
  exact⟨ret_u (by rw [IntKind.wrap_u64,IntKind.wrap_u64];omega),rfl⟩
 ·have h:0<=a:=by assumption
  exact⟨ret_u (by omega),rfl⟩
theorem mul_no(a b:Int)(h:Cal.fits (a*b)=false):0=Cal.mulV a b/\6=Cal.mulE a b:=by
 rw [Cal.mulV,Cal.mulE,h];exact⟨rfl,rfl⟩
theorem mul_yes(a b:Int)(h:Cal.fits (a*b)=true):a*b=Cal.mulV a b/\0=Cal.mulE a b:=by
 rw [Cal.mulV,Cal.mulE,h];exact⟨rfl,rfl⟩
end Go.Proofs.YthpipedifekmpaaGreatDoor
namespace Go.Proofs.YthpipedifekmpaaGreatDoor
open Go.ChangeShapes Go.WideShapes Go.ChangeAt Go.RowKit
theorem prod_same(a b:Int)(h:a<0↔b<0):a*b=((a.natAbs*b.natAbs:Nat):Int):=by
 rw [Int.natCast_mul]
 by_cases c:a<0
 ·rw [show((a.natAbs:Nat):Int)= -a by omega,show((b.natAbs:Nat):Int)= -b by omega,Int.neg_mul_neg]
 ·rw [show((a.natAbs:Nat):Int)=a by omega,show((b.natAbs:Nat):Int)=b by omega]
theorem prod_other(a b:Int)(h:¬(a<0↔b<0)):a*b= -((a.natAbs*b.natAbs:Nat):Int):=by
 rw [Int.natCast_mul]
 by_cases c:a<0
 ·rw [show((a.natAbs:Nat):Int)= -a by omega,show((b.natAbs:Nat):Int)=b by omega,Int.neg_mul,Int.neg_neg]
 ·rw [show((a.natAbs:Nat):Int)=a by omega,show((b.natAbs:Nat):Int)= -b by omega,Int.mul_neg,Int.neg_neg]
theorem same_no(m hi lo:Int)(hm:m=hi*18446744073709551616+lo)(l0:0<=lo)(l1:lo<18446744073709551616)(h0:0<=hi)(h:hi≠0∨wrap64 lo<0):Cal.fits m=false:=by
 unfold wrap64 at h
 exact fits_no (by omega)
theorem same_yes(m hi lo:Int)(hm:m=hi*18446744073709551616+lo)(l0:0<=lo)(l1:lo<18446744073709551616)(h:hi=0)(h2:0<=wrap64 lo):Cal.fits m=true/\wrap64 lo=m:=by
 unfold wrap64 at h2⊢
 exact⟨fits_yes (by omega) (by omega),by omega⟩
theorem other_no(m hi lo:Int)(hm:m= -(hi*18446744073709551616+lo))(l0:0<=lo)(l1:lo<18446744073709551616)(h0:0<=hi)(h:hi≠0∨0<wrap64 (IntKind.u64.wrap (-lo))):Cal.fits m=false:=by
 rw [IntKind.wrap_u64]at h
 unfold wrap64 at h
 exact fits_no (by omega)
theorem other_yes(m hi lo:Int)(hm:m= -(hi*18446744073709551616+lo))(l0:0<=lo)(l1:lo<18446744073709551616)(h:hi=0)(h2:wrap64 (IntKind.u64.wrap (-lo))<=0):Cal.fits m=true/\wrap64 (IntKind.u64.wrap (-lo))=m:=by
 rw [IntKind.wrap_u64]at h2⊢
 unfold wrap64 at h2⊢
 exact⟨fits_yes (by omega) (by omega),by omega⟩
theorem mul_nn(a b x y hi lo:Int)(w:World)(a0:a<0)(b0:b<0)(hab:Hid (a*b=hi*18446744073709551616+lo))(l0:0<=lo)(l1:lo<18446744073709551616)(h0:0<=hi)
  (SA:Hid (∀w:World,Calls Tryo.prog 169 #[.int .i64 a] w fun e w'=>e= .returned (.int .u64 x)/\w=w'))
  (SB:Hid (∀w:World,Calls Tryo.prog 169 #[.int .i64 b] w fun e w'=>e= .returned (.int .u64 y)/\w=w'))
  (HM:Hid (∀w:World,Calls Tryo.prog 168 #[.int .u64 x,.int .u64 y] w fun e w'=>e= .returned (.tuple #[.int .u64 hi,.int .u64 lo])/\w=w')):
  Calls Tryo.prog 158 #[.int .i64 a,.int .i64 b] w fun e w'=>e= .returned (.tuple #[.int .i64 (Cal.mulV a b),.int .i64 (Cal.mulE a b)])/\w=w':=by
 have da:decide (a<0)=true:=by simp;omega
 have db:decide (b<0)=true:=by simp;omega
 by_cases c1:hi=0
 ·have c1':(hi !=0)=false:=by rw [c1];rfl
  by_cases c2:wrap64 lo=0
  ·have k:=same_yes _ hi lo hab.out l0 l1 c1 (by omega)
   have c2':(wrap64 lo !=0)=false:=by rw [c2];rfl
   have H:=Lib.hid (mul_yes a b k.1)
   have K:=Lib.hid k.2
   have C1:=Lib.hid c1
   have C2:=Lib.hid c2
   clear k c1 c2
   go_enter Tryo.func158,Tryz.ntmps158
   go_wp2_with fail
   refine(SA.out _).mono ?_
   rintro e w' ⟨rfl,rfl⟩
   go_wp2_with fail
   refine(SB.out _).mono ?_
   rintro e w' ⟨rfl,rfl⟩
   go_wp2_with fail
   refine(HM.out _).mono ?_
   rintro e w' ⟨rfl,rfl⟩
   go_wp2_with fail
   go_ret2
   first|exact⟨ret_ii (K.out.trans H.out.1) H.out.2,rfl⟩|exact⟨ret_ii (C2.out.symm.trans (K.out.trans H.out.1)) H.out.2,rfl⟩
  have c2':(wrap64 lo !=0)=true:=by rw [bne_iff_ne];exact c2
  by_cases c3:wrap64 lo<0
  ·have c3':decide (wrap64 lo<0)=true:=by rw [decide_eq_true_eq];exact c3
   have H:=Lib.hid (mul_no a b (same_no _ hi lo hab.out l0 l1 h0 (.inr (by omega))))
   have C1:=Lib.hid c1
   have C2:=Lib.hid c2
   have C3:=Lib.hid c3
   clear c1 c2 c3
   go_enter Tryo.func158,Tryz.ntmps158
   go_wp2_with fail
   refine(SA.out _).mono ?_
   rintro e w' ⟨rfl,rfl⟩
   go_wp2_with fail
   refine(SB.out _).mono ?_
   rintro e w' ⟨rfl,rfl⟩
   go_wp2_with fail
   refine(HM.out _).mono ?_
   rintro e w' ⟨rfl,rfl⟩
   go_wp2_with fail
   go_ret2
   exact⟨ret_ii H.out.1 H.out.2,rfl⟩
  ·have c3':decide (wrap64 lo<0)=false:=by rw [decide_eq_false_iff_not];exact c3
   have k:=same_yes _ hi lo hab.out l0 l1 c1 (by omega)
   have H:=Lib.hid (mul_yes a b k.1)
   have K:=Lib.hid k.2
   have C1:=Lib.hid c1
   have C2:=Lib.hid c2
   have C3:=Lib.hid c3
   clear k c1 c2 c3
   go_enter Tryo.func158,Tryz.ntmps158
   go_wp2_with fail
   refine(SA.out _).mono ?_
   rintro e w' ⟨rfl,rfl⟩
   go_wp2_with fail
   refine(SB.out _).mono ?_
   rintro e w' ⟨rfl,rfl⟩
   go_wp2_with fail
   refine(HM.out _).mono ?_
   rintro e w' ⟨rfl,rfl⟩
   go_wp2_with fail
   go_ret2
   first|exact⟨ret_ii (K.out.trans H.out.1) H.out.2,rfl⟩|exact⟨ret_ii (C2.out.symm.trans (K.out.trans H.out.1)) H.out.2,rfl⟩
 ·have c1':(hi !=0)=true:=by rw [bne_iff_ne];exact c1
  have H:=Lib.hid (mul_no a b (same_no _ hi lo hab.out l0 l1 h0 (.inl c1)))
  have C1:=Lib.hid c1
  clear c1
  go_enter Tryo.func158,Tryz.ntmps158
  go_wp2_with fail
  refine(SA.out _).mono ?_
  rintro e w' ⟨rfl,rfl⟩
  go_wp2_with fail
  refine(SB.out _).mono ?_
  rintro e w' ⟨rfl,rfl⟩
  go_wp2_with fail
  refine(HM.out _).mono ?_
  rintro e w' ⟨rfl,rfl⟩
  go_wp2_with fail
  go_ret2
  exact⟨ret_ii H.out.1 H.out.2,rfl⟩
theorem mul_pp(a b x y hi lo:Int)(w:World)(a0:0<=a)(b0:0<=b)(hab:Hid (a*b=hi*18446744073709551616+lo))(l0:0<=lo)(l1:lo<18446744073709551616)(h0:0<=hi)
  (SA:Hid (∀w:World,Calls Tryo.prog 169 #[.int .i64 a] w fun e w'=>e= .returned (.int .u64 x)/\w=w'))
  (SB:Hid (∀w:World,Calls Tryo.prog 169 #[.int .i64 b] w fun e w'=>e= .returned (.int .u64 y)/\w=w'))
  (HM:Hid (∀w:World,Calls Tryo.prog 168 #[.int .u64 x,.int .u64 y] w fun e w'=>e= .returned (.tuple #[.int .u64 hi,.int .u64 lo])/\w=w')):
  Calls Tryo.prog 158 #[.int .i64 a,.int .i64 b] w fun e w'=>e= .returned (.tuple #[.int .i64 (Cal.mulV a b),.int .i64 (Cal.mulE a b)])/\w=w':=by
 have da:decide (a<0)=false:=by simp;omega
 have db:decide (b<0)=false:=by simp;omega
 by_cases c1:hi=0
 ·have c1':(hi !=0)=false:=by rw [c1];rfl
  by_cases c2:wrap64 lo=0
  ·have k:=same_yes _ hi lo hab.out l0 l1 c1 (by omega)
   have c2':(wrap64 lo !=0)=false:=by rw [c2];rfl
   have H:=Lib.hid (mul_yes a b k.1)
   have K:=Lib.hid k.2
   have C1:=Lib.hid c1
   have C2:=Lib.hid c2
   clear k c1 c2
   go_enter Tryo.func158,Tryz.ntmps158
   go_wp2_with fail
   refine(SA.out _).mono ?_
   rintro e w' ⟨rfl,rfl⟩
   go_wp2_with fail
   refine(SB.out _).mono ?_
   rintro e w' ⟨rfl,rfl⟩
   go_wp2_with fail
   refine(HM.out _).mono ?_
   rintro e w' ⟨rfl,rfl⟩
   go_wp2_with fail
   go_ret2
   first|exact⟨ret_ii (K.out.trans H.out.1) H.out.2,rfl⟩|exact⟨ret_ii (C2.out.symm.trans (K.out.trans H.out.1)) H.out.2,rfl⟩
  have c2':(wrap64 lo !=0)=true:=by rw [bne_iff_ne];exact c2
  by_cases c3:wrap64 lo<0
  ·have c3':decide (wrap64 lo<0)=true:=by rw [decide_eq_true_eq];exact c3
   have H:=Lib.hid (mul_no a b (same_no _ hi lo hab.out l0 l1 h0 (.inr (by omega))))
   have C1:=Lib.hid c1
   have C2:=Lib.hid c2
   have C3:=Lib.hid c3
   clear c1 c2 c3
   go_enter Tryo.func158,Tryz.ntmps158
   go_wp2_with fail
   refine(SA.out _).mono ?_
   rintro e w' ⟨rfl,rfl⟩
   go_wp2_with fail
   refine(SB.out _).mono ?_
   rintro e w' ⟨rfl,rfl⟩
   go_wp2_with fail
   refine(HM.out _).mono ?_
   rintro e w' ⟨rfl,rfl⟩
   go_wp2_with fail
   go_ret2
   exact⟨ret_ii H.out.1 H.out.2,rfl⟩
  ·have c3':decide (wrap64 lo<0)=false:=by rw [decide_eq_false_iff_not];exact c3
   have k:=same_yes _ hi lo hab.out l0 l1 c1 (by omega)
   have H:=Lib.hid (mul_yes a b k.1)
   have K:=Lib.hid k.2
   have C1:=Lib.hid c1
   have C2:=Lib.hid c2
   have C3:=Lib.hid c3
   clear k c1 c2 c3
   go_enter Tryo.func158,Tryz.ntmps158
   go_wp2_with fail
   refine(SA.out _).mono ?_
   rintro e w' ⟨rfl,rfl⟩
   go_wp2_with fail
   refine(SB.out _).mono ?_
   rintro e w' ⟨rfl,rfl⟩
   go_wp2_with fail
   refine(HM.out _).mono ?_
   rintro e w' ⟨rfl,rfl⟩
   go_wp2_with fail
   go_ret2
   first|exact⟨ret_ii (K.out.trans H.out.1) H.out.2,rfl⟩|exact⟨ret_ii (C2.out.symm.trans (K.out.trans H.out.1)) H.out.2,rfl⟩
 ·have c1':(hi !=0)=true:=by rw [bne_iff_ne];exact c1
  have H:=Lib.hid (mul_no a b (same_no _ hi lo hab.out l0 l1 h0 (.inl c1)))
  have C1:=Lib.hid c1
  clear c1
  go_enter Tryo.func158,Tryz.ntmps158
  go_wp2_with fail
  refine(SA.out _).mono ?_
  rintro e w' ⟨rfl,rfl⟩
  go_wp2_with fail
  refine(SB.out _).mono ?_
  rintro e w' ⟨rfl,rfl⟩
  go_wp2_with fail
  refine(HM.out _).mono ?_
  rintro e w' ⟨rfl,rfl⟩
  go_wp2_with fail
  go_ret2
  exact⟨ret_ii H.out.1 H.out.2,rfl⟩
theorem mul_np(a b x y hi lo:Int)(w:World)(a0:a<0)(b0:0<=b)(hab:Hid (a*b= -(hi*18446744073709551616+lo)))(l0:0<=lo)(l1:lo<18446744073709551616)(h0:0<=hi)
  (SA:Hid (∀w:World,Calls Tryo.prog 169 #[.int .i64 a] w fun e w'=>e= .returned (.int .u64 x)/\w=w'))
  (SB:Hid (∀w:World,Calls Tryo.prog 169 #[.int .i64 b] w fun e w'=>e= .returned (.int .u64 y)/\w=w'))
  (HM:Hid (∀w:World,Calls Tryo.prog 168 #[.int .u64 x,.int .u64 y] w fun e w'=>e= .returned (.tuple #[.int .u64 hi,.int .u64 lo])/\w=w')):
  Calls Tryo.prog 158 #[.int .i64 a,.int .i64 b] w fun e w'=>e= .returned (.tuple #[.int .i64 (Cal.mulV a b),.int .i64 (Cal.mulE a b)])/\w=w':=by
 have da:decide (a<0)=true:=by simp;omega
 have db:decide (b<0)=false:=by simp;omega
 by_cases c1:hi=0
 ·have c1':(hi !=0)=false:=by rw [c1];rfl
  by_cases c2:wrap64 (IntKind.u64.wrap (-lo))=0
  ·have k:=other_yes _ hi lo hab.out l0 l1 c1 (by omega)
   have c2':(wrap64 (IntKind.u64.wrap (-lo))!=0)=false:=by rw [c2];rfl
   have H:=Lib.hid (mul_yes a b k.1)
   have K:=Lib.hid k.2
   have C1:=Lib.hid c1
   have C2:=Lib.hid c2
   clear k c1 c2
   go_enter Tryo.func158,Tryz.ntmps158
   go_wp2_with fail
   refine(SA.out _).mono ?_
   rintro e w' ⟨rfl,rfl⟩
   go_wp2_with fail
   refine(SB.out _).mono ?_
   rintro e w' ⟨rfl,rfl⟩
   go_wp2_with fail
   refine(HM.out _).mono ?_
   rintro e w' ⟨rfl,rfl⟩
   go_wp2_with fail
   go_ret2
   first|exact⟨ret_ii (K.out.trans H.out.1) H.out.2,rfl⟩|exact⟨ret_ii (C2.out.symm.trans (K.out.trans H.out.1)) H.out.2,rfl⟩
  have c2':(wrap64 (IntKind.u64.wrap (-lo))!=0)=true:=by rw [bne_iff_ne];exact c2
  by_cases c3:wrap64 (IntKind.u64.wrap (-lo))<0
  ·have c3':decide (wrap64 (IntKind.u64.wrap (-lo))<0)=true:=by rw [decide_eq_true_eq];exact c3
   have k:=other_yes _ hi lo hab.out l0 l1 c1 (by omega)
   have H:=Lib.hid (mul_yes a b k.1)
   have K:=Lib.hid k.2
   have C1:=Lib.hid c1
   have C2:=Lib.hid c2
   have C3:=Lib.hid c3
   clear k c1 c2 c3
   go_enter Tryo.func158,Tryz.ntmps158
   go_wp2_with fail
   refine(SA.out _).mono ?_
   rintro e w' ⟨rfl,rfl⟩
   go_wp2_with fail
   refine(SB.out _).mono ?_
   rintro e w' ⟨rfl,rfl⟩
   go_wp2_with fail
   refine(HM.out _).mono ?_
   rintro e w' ⟨rfl,rfl⟩
   go_wp2_with fail
   go_ret2
   first|exact⟨ret_ii (K.out.trans H.out.1) H.out.2,rfl⟩|exact⟨ret_ii (C2.out.symm.trans (K.out.trans H.out.1)) H.out.2,rfl⟩
  ·have c3':decide (wrap64 (IntKind.u64.wrap (-lo))<0)=false:=by rw [decide_eq_false_iff_not];exact c3
   have H:=Lib.hid (mul_no a b (other_no _ hi lo hab.out l0 l1 h0 (.inr (by omega))))
   have C1:=Lib.hid c1
   have C2:=Lib.hid c2
   have C3:=Lib.hid c3
   clear c1 c2 c3
   go_enter Tryo.func158,Tryz.ntmps158
   go_wp2_with fail
   refine(SA.out _).mono ?_
   rintro e w' ⟨rfl,rfl⟩
   go_wp2_with fail
   refine(SB.out _).mono ?_
   rintro e w' ⟨rfl,rfl⟩
   go_wp2_with fail
   refine(HM.out _).mono ?_
   rintro e w' ⟨rfl,rfl⟩
   go_wp2_with fail
   go_ret2
   exact⟨ret_ii H.out.1 H.out.2,rfl⟩
 ·have c1':(hi !=0)=true:=by rw [bne_iff_ne];exact c1
  have H:=Lib.hid (mul_no a b (other_no _ hi lo hab.out l0 l1 h0 (.inl c1)))
  have C1:=Lib.hid c1
  clear c1
  go_enter Tryo.func158,Tryz.ntmps158
  go_wp2_with fail
  refine(SA.out _).mono ?_
  rintro e w' ⟨rfl,rfl⟩
  go_wp2_with fail
  refine(SB.out _).mono ?_
  rintro e w' ⟨rfl,rfl⟩
  go_wp2_with fail
  refine(HM.out _).mono ?_
  rintro e w' ⟨rfl,rfl⟩
  go_wp2_with fail
  go_ret2
  exact⟨ret_ii H.out.1 H.out.2,rfl⟩
theorem mul_pn(a b x y hi lo:Int)(w:World)(a0:0<=a)(b0:b<0)(hab:Hid (a*b= -(hi*18446744073709551616+lo)))(l0:0<=lo)(l1:lo<18446744073709551616)(h0:0<=hi)
  (SA:Hid (∀w:World,Calls Tryo.prog 169 #[.int .i64 a] w fun e w'=>e= .returned (.int .u64 x)/\w=w'))
  (SB:Hid (∀w:World,Calls Tryo.prog 169 #[.int .i64 b] w fun e w'=>e= .returned (.int .u64 y)/\w=w'))
  (HM:Hid (∀w:World,Calls Tryo.prog 168 #[.int .u64 x,.int .u64 y] w fun e w'=>e= .returned (.tuple #[.int .u64 hi,.int .u64 lo])/\w=w')):
  Calls Tryo.prog 158 #[.int .i64 a,.int .i64 b] w fun e w'=>e= .returned (.tuple #[.int .i64 (Cal.mulV a b),.int .i64 (Cal.mulE a b)])/\w=w':=by
 have da:decide (a<0)=false:=by simp;omega
 have db:decide (b<0)=true:=by simp;omega
 by_cases c1:hi=0
 ·have c1':(hi !=0)=false:=by rw [c1];rfl
  by_cases c2:wrap64 (IntKind.u64.wrap (-lo))=0
  ·have k:=other_yes _ hi lo hab.out l0 l1 c1 (by omega)
   have c2':(wrap64 (IntKind.u64.wrap (-lo))!=0)=false:=by rw [c2];rfl
   have H:=Lib.hid (mul_yes a b k.1)
   have K:=Lib.hid k.2
   have C1:=Lib.hid c1
   have C2:=Lib.hid c2
   clear k c1 c2
   go_enter Tryo.func158,Tryz.ntmps158
   go_wp2_with fail
   refine(SA.out _).mono ?_
   rintro e w' ⟨rfl,rfl⟩
   go_wp2_with fail
   refine(SB.out _).mono ?_
   rintro e w' ⟨rfl,rfl⟩
   go_wp2_with fail
   refine(HM.out _).mono ?_
   rintro e w' ⟨rfl,rfl⟩
   go_wp2_with fail
   go_ret2
   first|exact⟨ret_ii (K.out.trans H.out.1) H.out.2,rfl⟩|exact⟨ret_ii (C2.out.symm.trans (K.out.trans H.out.1)) H.out.2,rfl⟩
  have c2':(wrap64 (IntKind.u64.wrap (-lo))!=0)=true:=by rw [bne_iff_ne];exact c2
  by_cases c3:wrap64 (IntKind.u64.wrap (-lo))<0
  ·have c3':decide (wrap64 (IntKind.u64.wrap (-lo))<0)=true:=by rw [decide_eq_true_eq];exact c3
   have k:=other_yes _ hi lo hab.out l0 l1 c1 (by omega)
   have H:=Lib.hid (mul_yes a b k.1)
   have K:=Lib.hid k.2
   have C1:=Lib.hid c1
   have C2:=Lib.hid c2
   have C3:=Lib.hid c3
   clear k c1 c2 c3
   go_enter Tryo.func158,Tryz.ntmps158
   go_wp2_with fail
   refine(SA.out _).mono ?_
   rintro e w' ⟨rfl,rfl⟩
   go_wp2_with fail
   refine(SB.out _).mono ?_
   rintro e w' ⟨rfl,rfl⟩
   go_wp2_with fail
   refine(HM.out _).mono ?_
   rintro e w' ⟨rfl,rfl⟩
   go_wp2_with fail
   go_ret2
   first|exact⟨ret_ii (K.out.trans H.out.1) H.out.2,rfl⟩|exact⟨ret_ii (C2.out.symm.trans (K.out.trans H.out.1)) H.out.2,rfl⟩
  ·have c3':decide (wrap64 (IntKind.u64.wrap (-lo))<0)=false:=by rw [decide_eq_false_iff_not];exact c3
   have H:=Lib.hid (mul_no a b (other_no _ hi lo hab.out l0 l1 h0 (.inr (by omega))))
   have C1:=Lib.hid c1
   have C2:=Lib.hid c2
   have C3:=Lib.hid c3
   clear c1 c2 c3
   go_enter Tryo.func158,Tryz.ntmps158
   go_wp2_with fail
   refine(SA.out _).mono ?_
   rintro e w' ⟨rfl,rfl⟩
   go_wp2_with fail
   refine(SB.out _).mono ?_
   rintro e w' ⟨rfl,rfl⟩
   go_wp2_with fail
   refine(HM.out _).mono ?_
   rintro e w' ⟨rfl,rfl⟩
   go_wp2_with fail
   go_ret2
   exact⟨ret_ii H.out.1 H.out.2,rfl⟩
 ·have c1':(hi !=0)=true:=by rw [bne_iff_ne];exact c1
  have H:=Lib.hid (mul_no a b (other_no _ hi lo hab.out l0 l1 h0 (.inl c1)))
  have C1:=Lib.hid c1
  clear c1
  go_enter Tryo.func158,Tryz.ntmps158
  go_wp2_with fail
  refine(SA.out _).mono ?_
  rintro e w' ⟨rfl,rfl⟩
  go_wp2_with fail
  refine(SB.out _).mono ?_
  rintro e w' ⟨rfl,rfl⟩
  go_wp2_with fail
  refine(HM.out _).mono ?_
  rintro e w' ⟨rfl,rfl⟩
  go_wp2_with fail
  go_ret2
  exact⟨ret_ii H.out.1 H.out.2,rfl⟩
theorem exact_Mul(a b:Int)(w:World)(ha:I64 a)(hb:I64 b):
  Calls Tryo.prog 158 #[.int .i64 a,.int .i64 b] w fun e w'=>e= .returned (.tuple #[.int .i64 (Cal.mulV a b),.int .i64 (Cal.mulE a b)])/\w=w':=by
 have hm:∀w:World,Calls Tryo.prog 168 #[.int .u64 (a.natAbs:Int),.int .u64 (b.natAbs:Int)] w fun e w'=>
   e= .returned (.tuple #[.int .u64 ((a.natAbs*b.natAbs / 18446744073709551616:Nat):Int),.int .u64 ((a.natAbs*b.natAbs % 18446744073709551616:Nat):Int)])/\w=w':=fun w=>
  (bits_Mul64 a.natAbs b.natAbs (by obtain⟨h1,h2⟩:=ha;omega) (by obtain⟨h1,h2⟩:=hb;omega) w).mono fun _ _ h=>⟨h.1,h.2.symm⟩
 have sa:=fun w=>exact_size a w ha
 have sb:=fun w=>exact_size b w hb
 have e1:=prod_same a b
 have e2:=prod_other a b
 generalize a.natAbs*b.natAbs=n at*
 by_cases a0:a<0 <;> by_cases b0:b<0
 ·exact mul_nn a b _ _ _ _ w a0 b0 (Lib.hid (by rw [e1 (by omega)];omega)) (by omega) (by omega) (by omega) (Lib.hid sa) (Lib.hid sb) (Lib.hid hm)
 ·exact mul_np a b _ _ _ _ w a0 (by omega) (Lib.hid (by rw [e2 (by omega)];omega)) (by omega) (by omega) (by omega) (Lib.hid sa) (Lib.hid sb) (Lib.hid hm)
 ·exact mul_pn a b _ _ _ _ w (by omega) b0 (Lib.hid (by rw [e2 (by omega)];omega)) (by omega) (by omega) (by omega) (Lib.hid sa) (Lib.hid sb) (Lib.hid hm)
 ·exact mul_pp a b _ _ _ _ w (by omega) (by omega) (Lib.hid (by rw [e1 (by omega)];omega)) (by omega) (by omega) (by omega) (Lib.hid sa) (Lib.hid sb) (Lib.hid hm)
end Go.Proofs.YthpipedifekmpaaGreatDoor
namespace Go.Proofs.YthpipedifekmpaaGreatDoor
open Go.ChangeShapes Go.WideShapes Go.ChangeAt Go.RowKit
theorem exact_Mul_ok(a b:Int)(w:World)(ha:I64 a)(hb:I64 b)(h:Cal.fits (a*b)=true):
  Calls Tryo.prog 158 #[.int .i64 a,.int .i64 b] w fun e w'=>e= .returned (.tuple #[.int .i64 (a*b),.int .i64 0])/\w=w':=by
 have:=exact_Mul a b w ha hb
 rwa [←(mul_yes a b h).1,←(mul_yes a b h).2]at this
theorem exact_Mul_no(a b:Int)(w:World)(ha:I64 a)(hb:I64 b)(h:Cal.fits (a*b)=false):
  Calls Tryo.prog 158 #[.int .i64 a,.int .i64 b] w fun e w'=>e= .returned (.tuple #[.int .i64 0,.int .i64 6])/\w=w':=by
 have:=exact_Mul a b w ha hb
 rwa [←(mul_no a b h).1,←(mul_no a b h).2]at this
theorem addV_ok(a b:Int)(h:Cal.fits (a+b)=true):Cal.addV a b=a+b/\Cal.addE a b=0:=by rw [Cal.addV,Cal.addE,h];exact⟨rfl,rfl⟩
theorem addV_no(a b:Int)(h:Cal.fits (a+b)=false):Cal.addV a b=0/\Cal.addE a b=6:=by rw [Cal.addV,Cal.addE,h];exact⟨rfl,rfl⟩
theorem exact_Add_ok(a b:Int)(w:World)(ha:I64 a)(hb:I64 b)(h:Cal.fits (a+b)=true):
  Calls Tryo.prog 159 #[.int .i64 a,.int .i64 b] w fun e w'=>e= .returned (.tuple #[.int .i64 (a+b),.int .i64 0])/\w=w':=by
 have:=exact_Add a b w ha hb
 rwa [(addV_ok a b h).1,(addV_ok a b h).2]at this
theorem exact_Add_no(a b:Int)(w:World)(ha:I64 a)(hb:I64 b)(h:Cal.fits (a+b)=false):
  Calls Tryo.prog 159 #[.int .i64 a,.int .i64 b] w fun e w'=>e= .returned (.tuple #[.int .i64 0,.int .i64 6])/\w=w':=by
 have:=exact_Add a b w ha hb
 rwa [(addV_no a b h).1,(addV_no a b h).2]at this
theorem divV_pos(a b:Int)(h:0<b):Cal.divV a b=a / b/\Cal.modV a b=a % b/\Cal.divE b=0:=by
 rw [Cal.divV,Cal.modV,Cal.divE,if_neg (by omega),if_neg (by omega),if_neg (by omega)];exact⟨rfl,rfl,rfl⟩
theorem exact_Div_pos(a b:Int)(w:World)(ha:I64 a)(hb:I64 b)(h:0<b):
  Calls Tryo.prog 82 #[.int .i64 a,.int .i64 b] w fun e w'=>e= .returned (.tuple #[.int .i64 (a / b),.int .i64 0])/\w=w':=by
 have:=exact_Div a b w ha hb
 rwa [(divV_pos a b h).1,(divV_pos a b h).2.2]at this
theorem exact_Mod_pos(a b:Int)(w:World)(ha:I64 a)(hb:I64 b)(h:0<b):
  Calls Tryo.prog 60 #[.int .i64 a,.int .i64 b] w fun e w'=>e= .returned (.tuple #[.int .i64 (a % b),.int .i64 0])/\w=w':=by
 have:=exact_Mod a b w ha hb
 rwa [(divV_pos a b h).2.1,(divV_pos a b h).2.2]at this
end Go.Proofs.YthpipedifekmpaaGreatDoor
namespace Go.Proofs.YthpipedifekmpaaGreatDoor
open Go.ChangeShapes Go.WideShapes Go.ChangeAt Go.RowKit
theorem bcell{W w1:World}(hb:Below W.heap.size W w1):(∀b o,b<W.heap.size->w1.cell? ⟨b,o,none⟩=W.cell? ⟨b,o,none⟩)/\(∀b o,b<W.heap.size->w1.frozen? ⟨b,o,none⟩=W.frozen? ⟨b,o,none⟩):=
 ⟨fun b o h=>hb.cell (p:=⟨b,o,none⟩) h,fun b o h=>hb.frozen (p:=⟨b,o,none⟩) h⟩
theorem halak_Split(n:Int)(w:World)(hn:I64 n):
  Calls Tryo.prog 132 #[.int .i64 n] w fun e w'=>e= .returned (.agg #[.int .i64 (n / 25920),.int .i64 (n % 25920)])/\Below w.heap.size w w':=by
 go_enter Tryo.func132,Tryz.ntmps132
 go_wp2_with fail
 refine(exact_Div_pos n 25920 _ hn ⟨by omega,by omega⟩ (by omega)).mono ?_
 rintro e w' ⟨rfl,rfl⟩
 go_wp2_with fail
 refine(exact_Mod_pos n 25920 _ hn ⟨by omega,by omega⟩ (by omega)).mono ?_
 rintro e w' ⟨rfl,rfl⟩
 go_wp2_with fail
 refine bodyPost_ret (v:= .agg #[.int .i64 (n / 25920),.int .i64 (n % 25920)]) (by simp [results,Tryz.results132,go_sem]) rfl ⟨rfl, ?_⟩
 exact((Below.refl _ _).alloc (Nat.le_refl _) _)
theorem fits_I64{n:Int}(h:Cal.fits n=true):I64 n:=by
 simp only [Cal.fits,Bool.and_eq_true,decide_eq_true_eq]at h
 exact h
theorem halak_Parts(d h p:Int)(w:World)(hd:I64 d)(hh:I64 h)(hp:I64 p):
  Calls Tryo.prog 131 #[.int .i64 d,.int .i64 h,.int .i64 p] w fun e w'=>e= .returned (.tuple #[.int .i64 (Cal.partsV d h p),.int .i64 (Cal.partsE d h p)])/\w=w':=by
 by_cases c1:Cal.fits (d*25920)=true
 ·by_cases c2:Cal.fits (h*1080)=true
  ·by_cases c3:Cal.fits (d*25920+h*1080)=true
   ·have i1:=fits_I64 c1
    have i2:=fits_I64 c2
    have i3:=fits_I64 c3
    have HS:=Lib.hid (Cal.parts_ok d h p c1 c2 c3)
    have HA:=Lib.hid (fun w=>exact_Add (d*25920+h*1080) p w i3 hp)
    have e1:wrap64 (d*25920)=d*25920:=IntWalk.wrap64_in _ i1
    clear e1
    go_enter Tryo.func131,Tryz.ntmps131
    go_wp2_with fail
    refine(exact_Mul_ok d 25920 _ hd ⟨by omega,by omega⟩ c1).mono ?_
    rintro e w' ⟨rfl,rfl⟩
    go_wp2_with fail
    refine(exact_Mul_ok h 1080 _ hh ⟨by omega,by omega⟩ c2).mono ?_
    rintro e w' ⟨rfl,rfl⟩
    go_wp2_with fail
    refine(exact_Add_ok (d*25920) (h*1080) _ i1 i2 c3).mono ?_
    rintro e w' ⟨rfl,rfl⟩
    go_wp2_with fail
    refine(HA.out _).mono ?_
    rintro e w' ⟨rfl,rfl⟩
    go_wp2_with fail
    go_ret2
    exact⟨ret_ii HS.out.1.symm HS.out.2.symm,rfl⟩
   ·have c3:Cal.fits (d*25920+h*1080)=false:=by simpa using c3
    have i1:=fits_I64 c1
    have i2:=fits_I64 c2
    have HS:=Lib.hid (Cal.parts_no d h p (by rw [c3];simp))
    go_enter Tryo.func131,Tryz.ntmps131
    go_wp2_with fail
    refine(exact_Mul_ok d 25920 _ hd ⟨by omega,by omega⟩ c1).mono ?_
    rintro e w' ⟨rfl,rfl⟩
    go_wp2_with fail
    refine(exact_Mul_ok h 1080 _ hh ⟨by omega,by omega⟩ c2).mono ?_
    rintro e w' ⟨rfl,rfl⟩
    go_wp2_with fail
    refine(exact_Add_no (d*25920) (h*1080) _ i1 i2 c3).mono ?_
    rintro e w' ⟨rfl,rfl⟩
    go_wp2_with fail
    go_ret2
    exact⟨ret_ii HS.out.1.symm HS.out.2.symm,rfl⟩
  ·have c2:Cal.fits (h*1080)=false:=by simpa using c2
   have HS:=Lib.hid (Cal.parts_no d h p (by rw [c2];simp))
   go_enter Tryo.func131,Tryz.ntmps131
   go_wp2_with fail
   refine(exact_Mul_ok d 25920 _ hd ⟨by omega,by omega⟩ c1).mono ?_
   rintro e w' ⟨rfl,rfl⟩
   go_wp2_with fail
   refine(exact_Mul_no h 1080 _ hh ⟨by omega,by omega⟩ c2).mono ?_
   rintro e w' ⟨rfl,rfl⟩
   go_wp2_with fail
   go_ret2
   exact⟨ret_ii HS.out.1.symm HS.out.2.symm,rfl⟩
 ·have c1:Cal.fits (d*25920)=false:=by simpa using c1
  have HS:=Lib.hid (Cal.parts_no d h p (by rw [c1];simp))
  go_enter Tryo.func131,Tryz.ntmps131
  go_wp2_with fail
  refine(exact_Mul_no d 25920 _ hd ⟨by omega,by omega⟩ c1).mono ?_
  rintro e w' ⟨rfl,rfl⟩
  go_wp2_with fail
  go_ret2
  exact⟨ret_ii HS.out.1.symm HS.out.2.symm,rfl⟩
theorem halak_Moons(n:Int)(w:World)(hn:I64 n):
  Calls Tryo.prog 130 #[.int .i64 n] w fun e w'=>e= .returned (.tuple #[.int .i64 (Cal.mulV n 765433),.int .i64 (Cal.mulE n 765433)])/\w=w':=by
 go_enter Tryo.func130,Tryz.ntmps130
 go_wp2_with fail
 refine(exact_Mul n 765433 _ hn ⟨by omega,by omega⟩).mono ?_
 rintro e w' ⟨rfl,rfl⟩
 go_wp2_with fail
 go_ret2
 exact⟨rfl,rfl⟩
end Go.Proofs.YthpipedifekmpaaGreatDoor
namespace Go.Proofs.YthpipedifekmpaaGreatDoor
open Go.ChangeShapes Go.WideShapes Go.ChangeAt Go.RowKit
theorem bt{a b c:World}(h:Below a.heap.size a b)(k:Below b.heap.size b c):Below a.heap.size a c:=h.trans (k.mono h.size)
theorem ba(w:World)(o:Obj):Below w.heap.size w (w.alloc o):=(Below.refl _ _).alloc (Nat.le_refl _) _
theorem baa{a b:World}(h:Below a.heap.size a b)(o:Obj):Below a.heap.size a (b.alloc o):=h.alloc h.size _
theorem bs{a b:World}(h:Below a.heap.size a b){p:Addr}(hp:a.heap.size<=p.block)(u:Value):Below a.heap.size a (b.setCell p u):=h.setCell hp u
end Go.Proofs.YthpipedifekmpaaGreatDoor
namespace Go.Proofs.YthpipedifekmpaaGreatDoor
open Go.ChangeShapes Go.WideShapes Go.ChangeAt Go.RowKit
theorem reck_yes(y:Int)(h0:0<=y)(h1:y<=10001):Cal.reck y=true:=by simp [Cal.reck,h0,h1]
theorem reck_no(y:Int)(h:y<0∨10001<y):Cal.reck y=false:=by
 rw [Bool.eq_false_iff];intro h';simp only [Cal.reck,Bool.and_eq_true,decide_eq_true_eq]at h';omega
theorem cycle_reckoned(y:Int)(w:World):
  Calls Tryo.prog 64 #[.int .i64 y] w fun e w'=>e= .returned (.bool (Cal.reck y))/\w=w':=by
 rcases(show y<0∨(0<=y/\y<=10001)∨(0<=y/\10001<y) by omega)with c|⟨c,c'⟩|⟨c,c'⟩
 ·have HS:=Lib.hid (reck_no y (by omega))
  go_enter Tryo.func64,Tryz.ntmps64
  go_wp2
  go_ret
  first|exact⟨ret_b HS.out.symm,rfl⟩|exact⟨ret_b ((decide_eq_false (by omega)).trans HS.out.symm),rfl⟩|exact⟨ret_b ((decide_eq_true (by omega)).trans HS.out.symm),rfl⟩
 ·have HS:=Lib.hid (reck_yes y c c')
  go_enter Tryo.func64,Tryz.ntmps64
  go_wp2
  go_ret
  first|exact⟨ret_b HS.out.symm,rfl⟩|exact⟨ret_b ((decide_eq_false (by omega)).trans HS.out.symm),rfl⟩|exact⟨ret_b ((decide_eq_true (by omega)).trans HS.out.symm),rfl⟩
 ·have HS:=Lib.hid (reck_no y (by omega))
  go_enter Tryo.func64,Tryz.ntmps64
  go_wp2
  go_ret
  first|exact⟨ret_b HS.out.symm,rfl⟩|exact⟨ret_b ((decide_eq_false (by omega)).trans HS.out.symm),rfl⟩|exact⟨ret_b ((decide_eq_true (by omega)).trans HS.out.symm),rfl⟩
theorem cycle_floor(a b:Int)(w:World)(ha:I64 a)(hb:I64 b)(h:0<b):
  Calls Tryo.prog 65 #[.int .i64 a,.int .i64 b] w fun e w'=>e= .returned (.tuple #[.int .i64 (a / b),.int .i64 (a % b)])/\w=w':=by
 have HD:=Lib.hid (fun w=>exact_Div_pos a b w ha hb h)
 have HM:=Lib.hid (fun w=>exact_Mod_pos a b w ha hb h)
 go_enter Tryo.func65,Tryz.ntmps65
 go_wp2_with fail
 refine(HD.out _).mono ?_
 rintro e w' ⟨rfl,rfl⟩
 go_wp2_with fail
 refine(HM.out _).mono ?_
 rintro e w' ⟨rfl,rfl⟩
 go_wp2_with fail
 go_ret2
 exact⟨rfl,rfl⟩
theorem cycle_Leap(y:Int)(w:World):
  Calls Tryo.prog 38 #[.int .i64 y] w fun e w'=>e= .returned (.tuple #[.bool (Cal.leapV y),.int .i64 (Cal.reckE y)])/\w=w':=by
 by_cases c:0<=y/\y<=10001
 ·obtain⟨c1,c2⟩:=c
  have h:=reck_yes y c1 c2
  have HS:=Lib.hid (show Cal.leapV y=decide ((7*y+1) % 19<7)/\Cal.reckE y=0 by rw [Cal.leapV,Cal.reckE,h];exact⟨rfl,rfl⟩)
  go_enter Tryo.func38,Tryz.ntmps38
  go_wp2_with fail
  refine(cycle_reckoned y _).mono ?_
  rintro e w' ⟨rfl,rfl⟩
  go_wp2_with fail
  refine(cycle_floor (7*y+1) 19 _ ⟨by omega,by omega⟩ ⟨by omega,by omega⟩ (by omega)).mono ?_
  rintro e w' ⟨rfl,rfl⟩
  go_wp2_with fail
  go_ret2
  exact⟨ret_bi HS.out.1.symm HS.out.2.symm,rfl⟩
 ·have h:=reck_no y (by omega)
  have HS:=Lib.hid (show Cal.leapV y=false/\Cal.reckE y=2 by rw [Cal.leapV,Cal.reckE,h];exact⟨rfl,rfl⟩)
  go_enter Tryo.func38,Tryz.ntmps38
  go_wp2_with fail
  refine(cycle_reckoned y _).mono ?_
  rintro e w' ⟨rfl,rfl⟩
  go_wp2_with fail
  go_ret2
  exact⟨ret_bi HS.out.1.symm HS.out.2.symm,rfl⟩
theorem leap_ok(y:Int)(h0:0<=y)(h1:y<=10001):Cal.leapV y=Cal.leap y/\Cal.reckE y=0:=by rw [Cal.leapV,Cal.reckE,reck_yes y h0 h1];exact⟨rfl,rfl⟩
theorem leap_no(y:Int)(h:y<0∨10001<y):Cal.leapV y=false/\Cal.reckE y=2:=by rw [Cal.leapV,Cal.reckE,reck_no y h];exact⟨rfl,rfl⟩
theorem cycle_Leap_ok(y:Int)(w:World)(h0:0<=y)(h1:y<=10001):
  Calls Tryo.prog 38 #[.int .i64 y] w fun e w'=>e= .returned (.tuple #[.bool (Cal.leap y),.int .i64 0])/\w=w':=by
 have:=cycle_Leap y w
 rwa [(leap_ok y h0 h1).1,(leap_ok y h0 h1).2]at this
theorem cycle_Leap_no(y:Int)(w:World)(h:y<0∨10001<y):
  Calls Tryo.prog 38 #[.int .i64 y] w fun e w'=>e= .returned (.tuple #[.bool false,.int .i64 2])/\w=w':=by
 have:=cycle_Leap y w
 rwa [(leap_no y h).1,(leap_no y h).2]at this
theorem months_yes(y:Int)(h0:0<=y)(h1:y<=10001)(h:Cal.leap y=true):Cal.monthsV y=13/\Cal.reckE y=0:=by
 rw [Cal.monthsV,Cal.months,Cal.reckE,reck_yes y h0 h1,h];exact⟨rfl,rfl⟩
theorem months_short(y:Int)(h0:0<=y)(h1:y<=10001)(h:Cal.leap y=false):Cal.monthsV y=12/\Cal.reckE y=0:=by
 rw [Cal.monthsV,Cal.months,Cal.reckE,reck_yes y h0 h1,h];exact⟨rfl,rfl⟩
theorem months_no(y:Int)(h:y<0∨10001<y):Cal.monthsV y=0/\Cal.reckE y=2:=by rw [Cal.monthsV,Cal.reckE,reck_no y h];exact⟨rfl,rfl⟩
theorem cycle_In(y:Int)(w:World):
  Calls Tryo.prog 105 #[.int .i64 y] w fun e w'=>e= .returned (.tuple #[.int .i64 (Cal.monthsV y),.int .i64 (Cal.reckE y)])/\w=w':=by
 by_cases c:0<=y/\y<=10001
 ·obtain⟨c1,c2⟩:=c
  have hr:=reck_yes y c1 c2
  cases h:Cal.leap y
  ·have HS:=Lib.hid (months_short y c1 c2 h)
   go_enter Tryo.func105,Tryz.ntmps105
   go_wp2_with fail
   refine(cycle_Leap_ok y _ c1 c2).mono ?_
   rintro e w' ⟨rfl,rfl⟩
   go_wp2_with fail
   go_ret2
   exact⟨ret_ii HS.out.1.symm HS.out.2.symm,rfl⟩
  ·have HS:=Lib.hid (months_yes y c1 c2 h)
   go_enter Tryo.func105,Tryz.ntmps105
   go_wp2_with fail
   refine(cycle_Leap_ok y _ c1 c2).mono ?_
   rintro e w' ⟨rfl,rfl⟩
   go_wp2_with fail
   go_ret2
   exact⟨ret_ii HS.out.1.symm HS.out.2.symm,rfl⟩
 ·have hr:=reck_no y (by omega)
  have HS:=Lib.hid (months_no y (by omega))
  go_enter Tryo.func105,Tryz.ntmps105
  go_wp2_with fail
  refine(cycle_Leap_no y _ (by omega)).mono ?_
  rintro e w' ⟨rfl,rfl⟩
  go_wp2_with fail
  go_ret2
  exact⟨ret_ii HS.out.1.symm HS.out.2.symm,rfl⟩
theorem before_ok(y:Int)(h0:0<=y)(h1:y<=10001):Cal.beforeV y=Cal.before y/\Cal.reckE y=0:=by rw [Cal.beforeV,Cal.reckE,reck_yes y h0 h1];exact⟨rfl,rfl⟩
theorem before_no(y:Int)(h:y<0∨10001<y):Cal.beforeV y=0/\Cal.reckE y=2:=by rw [Cal.beforeV,Cal.reckE,reck_no y h];exact⟨rfl,rfl⟩
theorem cycle_Before(y:Int)(w:World):
  Calls Tryo.prog 106 #[.int .i64 y] w fun e w'=>e= .returned (.tuple #[.int .i64 (Cal.beforeV y),.int .i64 (Cal.reckE y)])/\w=w':=by
 by_cases c:0<=y/\y<=10001
 ·obtain⟨c1,c2⟩:=c
  have hr:=reck_yes y c1 c2
  have hs:=before_ok y c1 c2
  rw [show Cal.before y=(235*y-235+1) / 19 by unfold Cal.before;congr 1;omega]at hs
  have HS:=Lib.hid hs
  clear hs
  go_enter Tryo.func106,Tryz.ntmps106
  go_wp2_with fail
  refine(cycle_reckoned y _).mono ?_
  rintro e w' ⟨rfl,rfl⟩
  go_wp2_with fail
  refine(cycle_floor (235*y-235+1) 19 _ ⟨by omega,by omega⟩ ⟨by omega,by omega⟩ (by omega)).mono ?_
  rintro e w' ⟨rfl,rfl⟩
  go_wp2_with fail
  go_ret2
  exact⟨ret_ii HS.out.1.symm HS.out.2.symm,rfl⟩
 ·have hr:=reck_no y (by omega)
  have HS:=Lib.hid (before_no y (by omega))
  go_enter Tryo.func106,Tryz.ntmps106
  go_wp2_with fail
  refine(cycle_reckoned y _).mono ?_
  rintro e w' ⟨rfl,rfl⟩
  go_wp2_with fail
  go_ret2
  exact⟨ret_ii HS.out.1.symm HS.out.2.symm,rfl⟩
theorem cycle_In_ok(y:Int)(w:World)(h0:0<=y)(h1:y<=10001):
  Calls Tryo.prog 105 #[.int .i64 y] w fun e w'=>e= .returned (.tuple #[.int .i64 (Cal.months y),.int .i64 0])/\w=w':=by
 have:=cycle_In y w
 rwa [Cal.monthsV,Cal.reckE,reck_yes y h0 h1,if_pos rfl,if_pos rfl]at this
theorem cycle_In_no(y:Int)(w:World)(h:y<0∨10001<y):
  Calls Tryo.prog 105 #[.int .i64 y] w fun e w'=>e= .returned (.tuple #[.int .i64 0,.int .i64 2])/\w=w':=by
 have:=cycle_In y w
 rwa [(months_no y h).1,(months_no y h).2]at this
theorem cycle_Before_ok(y:Int)(w:World)(h0:0<=y)(h1:y<=10001):
  Calls Tryo.prog 106 #[.int .i64 y] w fun e w'=>e= .returned (.tuple #[.int .i64 (Cal.before y),.int .i64 0])/\w=w':=by
 have:=cycle_Before y w
 rwa [(before_ok y h0 h1).1,(before_ok y h0 h1).2]at this
end Go.Proofs.YthpipedifekmpaaGreatDoor
namespace Go.Proofs.YthpipedifekmpaaGreatDoor
open Go.ChangeShapes Go.WideShapes Go.ChangeAt Go.RowKit
theorem molad_Weekday(d:Int)(w:World)(hd:I64 d):
  Calls Tryo.prog 33 #[.int .i64 d] w fun e w'=>e= .returned (.int .i64 (d % 7))/\w=w':=by
 go_enter Tryo.func33,Tryz.ntmps33
 go_wp2_with fail
 refine(exact_Mod_pos d 7 _ hd ⟨by omega,by omega⟩ (by omega)).mono ?_
 rintro e w' ⟨rfl,rfl⟩
 go_wp2_with fail
 go_ret
 exact⟨rfl,rfl⟩
theorem moon_yes(n:Int)(h1: -200000<=n)(h2:n<=200000):Cal.moonD n=Cal.moonDay n/\Cal.moonP n=Cal.moonPart n/\Cal.moonE n=0:=by
 have h:Cal.moonIn n=true:=by simp [Cal.moonIn,h1,h2]
 rw [Cal.moonD,Cal.moonP,Cal.moonE,h];exact⟨rfl,rfl,rfl⟩
theorem moon_no(n:Int)(h:n< -200000∨200000<n):Cal.moonD n=0/\Cal.moonP n=0/\Cal.moonE n=2:=by
 have h:Cal.moonIn n=false:=by
  rw [Bool.eq_false_iff];intro h';simp only [Cal.moonIn,Bool.and_eq_true,decide_eq_true_eq]at h';omega
 rw [Cal.moonD,Cal.moonP,Cal.moonE,h];exact⟨rfl,rfl,rfl⟩
theorem halak_Moons_ok(n:Int)(w:World)(h1: -200000<=n)(h2:n<=200000):
  Calls Tryo.prog 130 #[.int .i64 n] w fun e w'=>e= .returned (.tuple #[.int .i64 (n*765433),.int .i64 0])/\w=w':=by
 have:=halak_Moons n w ⟨by omega,by omega⟩
 have hf:Cal.fits (n*765433)=true:=fits_yes (by omega) (by omega)
 rwa [←(mul_yes _ _ hf).1,←(mul_yes _ _ hf).2]at this
theorem halak_Parts_moon(n:Int)(w:World)(h1: -200000<=n)(h2:n<=200000):
  Calls Tryo.prog 131 #[.int .i64 (-1373427),.int .i64 5,.int .i64 (204+n*765433)] w fun e w'=>e= .returned (.tuple #[.int .i64 (5604+765433*n-35599227840),.int .i64 0])/\w=w':=by
 have:=halak_Parts (-1373427) 5 (204+n*765433) w ⟨by omega,by omega⟩ ⟨by omega,by omega⟩ ⟨by omega,by omega⟩
 have f4:Cal.fits (-1373427*25920+5*1080+(204+n*765433))=true:=fits_yes (by omega) (by omega)
 rw [(Cal.parts_ok (-1373427) 5 (204+n*765433) (by decide) (by decide) (by decide)).1,(Cal.parts_ok (-1373427) 5 (204+n*765433) (by decide) (by decide) (by decide)).2,(addV_ok _ _ f4).1,(addV_ok _ _ f4).2]at this
 rwa [show -1373427*25920+5*1080+(204+n*765433)=5604+765433*n-35599227840 by omega]at this
theorem halak_Split_moon(n:Int)(w:World)(h1: -200000<=n)(h2:n<=200000):
  Calls Tryo.prog 132 #[.int .i64 (5604+765433*n-35599227840)] w fun e w'=>e= .returned (.agg #[.int .i64 (Cal.moonDay n),.int .i64 (Cal.moonPart n)])/\Below w.heap.size w w':=by
 have:=halak_Split (5604+765433*n-35599227840) w ⟨by omega,by omega⟩
 rwa [show(5604+765433*n-35599227840) / 25920=Cal.moonDay n by unfold Cal.moonDay;omega,show(5604+765433*n-35599227840) % 25920=Cal.moonPart n by unfold Cal.moonPart;omega]at this
theorem molad_Moon(n:Int)(w:World):
  Calls Tryo.prog 107 #[.int .i64 n] w fun e w'=>e= .returned (.tuple #[.agg #[.int .i64 (Cal.moonD n),.int .i64 (Cal.moonP n)],.int .i64 (Cal.moonE n)])/\Below w.heap.size w w':=by
 rcases(show n< -200000∨(-200000<=n/\n<=200000)∨(-200000<=n/\200000<n) by omega)with c|⟨c1,c2⟩|⟨c1,c⟩
 ·have HS:=moon_no n (by omega)
  rw [HS.1,HS.2.1,HS.2.2]
  clear HS
  go_enter Tryo.func107,Tryz.ntmps107
  go_wp2_with fail
  refine bodyPost_ret (v:= .tuple #[.agg #[.int .i64 0,.int .i64 0],.int .i64 2]) (by simp [results,Tryz.results107,go_sem]) rfl ⟨rfl,ba _ _⟩
 ·have HS:=moon_yes n c1 c2
  rw [HS.1,HS.2.1,HS.2.2]
  clear HS
  go_enter Tryo.func107,Tryz.ntmps107
  go_wp2_with fail
  refine(halak_Moons_ok n _ c1 c2).mono ?_
  rintro e w' ⟨rfl,rfl⟩
  go_wp2_with fail
  refine(halak_Parts_moon n _ c1 c2).mono ?_
  rintro e w' ⟨rfl,rfl⟩
  go_wp2_with fail
  refine(halak_Split_moon n _ c1 c2).mono ?_
  rintro e w1 ⟨rfl,hb1⟩
  obtain⟨hc1,hf1⟩:=bcell hb1
  have hz1:=hb1.size
  try simp at hz1
  have hl1w:w.heap.size<w1.heap.size:=by omega
  have hm1w:w.heap.size<=w1.heap.size:=by omega
  have g1x0:w1.cell? ⟨w.heap.size,0,none⟩=some (.int .i64 0):=(hc1 _ _ (by simp;try omega)).trans (by first|assumption|simp [go_sem]|simp [go_sem, *])
  have g1x1:w1.cell? ⟨w.heap.size,1,none⟩=some (.int .i64 0):=(hc1 _ _ (by simp;try omega)).trans (by first|assumption|simp [go_sem]|simp [go_sem, *])
  go_wp2_with fail
  refine bodyPost_ret (v:= .tuple #[.agg #[.int .i64 (Cal.moonDay n),.int .i64 (Cal.moonPart n)],.int .i64 0]) (by simp [results,Tryz.results107,go_sem,g1x0,g1x1]) rfl ⟨rfl, ?_⟩
  exact bs (bs (bt (ba _ _) hb1) (Nat.le_refl _) _) (Nat.le_refl _) _
 ·have HS:=moon_no n (by omega)
  rw [HS.1,HS.2.1,HS.2.2]
  clear HS
  go_enter Tryo.func107,Tryz.ntmps107
  go_wp2_with fail
  refine bodyPost_ret (v:= .tuple #[.agg #[.int .i64 0,.int .i64 0],.int .i64 2]) (by simp [results,Tryz.results107,go_sem]) rfl ⟨rfl,ba _ _⟩
theorem moonDay_bd(n:Int)(h1: -200000<=n)(h2:n<=200000): -7300000<=Cal.moonDay n/\Cal.moonDay n<=4600000:=by unfold Cal.moonDay;omega
theorem moonPart_bd(n:Int):0<=Cal.moonPart n/\Cal.moonPart n<25920:=by unfold Cal.moonPart;omega
theorem months_bd(y:Int):12<=Cal.months y/\Cal.months y<=13:=by unfold Cal.months;split <;> omega
theorem before_bd(y:Int)(h0:0<=y)(h1:y<=10001): -13<=Cal.before y/\Cal.before y<=123700:=by unfold Cal.before;omega
theorem of_no(y m:Int)(h:y<0∨10001<y):Cal.ofD y m=0/\Cal.ofP y m=0/\Cal.ofE y m=2:=by
 rw [Cal.ofD,Cal.ofP,Cal.ofE,reck_no y h];exact⟨rfl,rfl,rfl⟩
theorem of_yes(y m:Int)(h0:0<=y)(h1:y<=10001)(m1:1<=m)(m2:m<=Cal.months y):Cal.ofD y m=Cal.moonDay (Cal.before y+m-1)/\Cal.ofP y m=Cal.moonPart (Cal.before y+m-1)/\Cal.ofE y m=0:=by
 have h:Cal.ofIn y m=true:=by simp [Cal.ofIn,m1,m2]
 rw [Cal.ofD,Cal.ofP,Cal.ofE,reck_yes y h0 h1,h];exact⟨rfl,rfl,rfl⟩
theorem of_month(y m:Int)(h0:0<=y)(h1:y<=10001)(h:m<1∨Cal.months y<m):Cal.ofD y m=0/\Cal.ofP y m=0/\Cal.ofE y m=3:=by
 have h:Cal.ofIn y m=false:=by
  rw [Bool.eq_false_iff];intro h';simp only [Cal.ofIn,Bool.and_eq_true,decide_eq_true_eq]at h';omega
 rw [Cal.ofD,Cal.ofP,Cal.ofE,reck_yes y h0 h1,h];exact⟨rfl,rfl,rfl⟩
theorem molad_Moon_ok(n:Int)(w:World)(h1: -200000<=n)(h2:n<=200000):
  Calls Tryo.prog 107 #[.int .i64 n] w fun e w'=>e= .returned (.tuple #[.agg #[.int .i64 (Cal.moonDay n),.int .i64 (Cal.moonPart n)],.int .i64 0])/\Below w.heap.size w w':=by
 have:=molad_Moon n w
 rwa [(moon_yes n h1 h2).1,(moon_yes n h1 h2).2.1,(moon_yes n h1 h2).2.2]at this
theorem molad_Of(y m:Int)(w:World)(hm:I64 m):
  Calls Tryo.prog 79 #[.int .i64 y,.int .i64 m] w fun e w'=>e= .returned (.tuple #[.agg #[.int .i64 (Cal.ofD y m),.int .i64 (Cal.ofP y m)],.int .i64 (Cal.ofE y m)])/\Below w.heap.size w w':=by
 by_cases c:0<=y/\y<=10001
 ·obtain⟨c1,c2⟩:=c
  obtain⟨b1,b2⟩:=months_bd y
  obtain⟨b3,b4⟩:=before_bd y c1 c2
  rcases(show m<1∨(1<=m/\m<=Cal.months y)∨(1<=m/\Cal.months y<m) by omega)with c|⟨m1,m2⟩|⟨m1,c⟩
  ·have HS:=of_month y m c1 c2 (.inl c)
   rw [HS.1,HS.2.1,HS.2.2]
   clear HS
   go_enter Tryo.func79,Tryz.ntmps79
   go_wp2_with fail
   refine(cycle_In_ok y _ c1 c2).mono ?_
   rintro e w' ⟨rfl,rfl⟩
   go_wp2_with fail
   refine bodyPost_ret (v:= .tuple #[.agg #[.int .i64 0,.int .i64 0],.int .i64 3]) (by simp [results,Tryz.results79,go_sem]) rfl ⟨rfl,ba _ _⟩
  ·have HS:=of_yes y m c1 c2 m1 m2
   rw [HS.1,HS.2.1,HS.2.2]
   clear HS
   obtain⟨m3,m4⟩:=hm
   go_enter Tryo.func79,Tryz.ntmps79
   go_wp2_with fail
   refine(cycle_In_ok y _ c1 c2).mono ?_
   rintro e w' ⟨rfl,rfl⟩
   go_wp2_with fail
   refine(cycle_Before_ok y _ c1 c2).mono ?_
   rintro e w' ⟨rfl,rfl⟩
   go_wp2_with fail
   refine(molad_Moon_ok (Cal.before y+m-1) _ (by omega) (by omega)).mono ?_
   rintro e w1 ⟨rfl,hb1⟩
   obtain⟨hc1,hf1⟩:=bcell hb1
   have hz1:=hb1.size
   try simp at hz1
   have hl1w:w.heap.size<w1.heap.size:=by omega
   have hm1w:w.heap.size<=w1.heap.size:=by omega
   have g1x0:w1.cell? ⟨w.heap.size,0,none⟩=some (.int .i64 0):=(hc1 _ _ (by simp;try omega)).trans (by first|assumption|simp [go_sem]|simp [go_sem, *])
   have g1x1:w1.cell? ⟨w.heap.size,1,none⟩=some (.int .i64 0):=(hc1 _ _ (by simp;try omega)).trans (by first|assumption|simp [go_sem]|simp [go_sem, *])
   go_wp2_with fail
   refine bodyPost_ret (v:= .tuple #[.agg #[.int .i64 (Cal.moonDay (Cal.before y+m-1)),.int .i64 (Cal.moonPart (Cal.before y+m-1))],.int .i64 0]) (by simp [results,Tryz.results79,go_sem,g1x0,g1x1]) rfl ⟨rfl, ?_⟩
   exact bs (bs (bt (ba _ _) hb1) (Nat.le_refl _) _) (Nat.le_refl _) _
  ·have HS:=of_month y m c1 c2 (.inr c)
   rw [HS.1,HS.2.1,HS.2.2]
   clear HS
   go_enter Tryo.func79,Tryz.ntmps79
   go_wp2_with fail
   refine(cycle_In_ok y _ c1 c2).mono ?_
   rintro e w' ⟨rfl,rfl⟩
   go_wp2_with fail
   refine bodyPost_ret (v:= .tuple #[.agg #[.int .i64 0,.int .i64 0],.int .i64 3]) (by simp [results,Tryz.results79,go_sem]) rfl ⟨rfl,ba _ _⟩
 ·have HS:=of_no y m (by omega)
  rw [HS.1,HS.2.1,HS.2.2]
  clear HS
  go_enter Tryo.func79,Tryz.ntmps79
  go_wp2_with fail
  refine(cycle_In_no y _ (by omega)).mono ?_
  rintro e w' ⟨rfl,rfl⟩
  go_wp2_with fail
  refine bodyPost_ret (v:= .tuple #[.agg #[.int .i64 0,.int .i64 0],.int .i64 2]) (by simp [results,Tryz.results79,go_sem]) rfl ⟨rfl,ba _ _⟩
end Go.Proofs.YthpipedifekmpaaGreatDoor
namespace Go.Proofs.YthpipedifekmpaaGreatDoor
open Go.ChangeShapes Go.WideShapes Go.ChangeAt Go.RowKit
theorem molad_Of_at(y m n:Int)(w:World)(h0:0<=y)(h1:y<=10001)(m1:1<=m)(m2:m<=Cal.months y)(hn:Cal.before y+m-1=n):
  Calls Tryo.prog 79 #[.int .i64 y,.int .i64 m] w fun e w'=>e= .returned (.tuple #[.agg #[.int .i64 (Cal.moonDay n),.int .i64 (Cal.moonPart n)],.int .i64 0])/\Below w.heap.size w w':=by
 have:=molad_Of y m w (by obtain⟨b1,b2⟩:=months_bd y;exact⟨by omega,by omega⟩)
 rwa [(of_yes y m h0 h1 m1 m2).1,(of_yes y m h0 h1 m1 m2).2.1,(of_yes y m h0 h1 m1 m2).2.2,hn]at this
theorem bdn{a b:World}(h:Below a.heap.size a b)(n:Nat):Below a.heap.size a (b.drewN n):=h.trans ⟨rfl,rfl,rfl,Nat.le_refl _,fun _ _=>rfl⟩
end Go.Proofs.YthpipedifekmpaaGreatDoor
namespace Go.Proofs.YthpipedifekmpaaGreatDoor
open Go.ChangeShapes Go.WideShapes Go.ChangeAt Go.RowKit
theorem delay_tt(d p:Int):Cal.delay d p true true=if 19440<=p∨(d % 7=1/\16789<=p)then(if(d % 7+1) % 7=0∨(d % 7+1) % 7=3∨(d % 7+1) % 7=5 then 2 else 1)else(if d % 7=0∨d % 7=3∨d % 7=5 then 1 else 0):=by
 unfold Cal.delay Cal.delay0
 simp only [Bool.not_true,Bool.false_and,Bool.true_and,Bool.false_eq_true,if_false,Bool.and_eq_true,beq_iff_eq,decide_eq_true_eq]
 repeat' split
 all_goals omega
theorem delay_tf(d p:Int):Cal.delay d p true false=if 19440<=p then(if(d % 7+1) % 7=0∨(d % 7+1) % 7=3∨(d % 7+1) % 7=5 then 2 else 1)else(if d % 7=0∨d % 7=3∨d % 7=5 then 1 else 0):=by
 unfold Cal.delay Cal.delay0
 simp only [Bool.not_true,Bool.false_and,Bool.false_eq_true,if_false]
 repeat' split
 all_goals omega
theorem delay_ft(d p:Int):Cal.delay d p false true=if 19440<=p∨(d % 7=2/\9924<=p)∨(d % 7=1/\16789<=p)then(if(d % 7+1) % 7=0∨(d % 7+1) % 7=3∨(d % 7+1) % 7=5 then 2 else 1)else(if d % 7=0∨d % 7=3∨d % 7=5 then 1 else 0):=by
 unfold Cal.delay Cal.delay0
 simp only [Bool.not_false,Bool.true_and,Bool.and_eq_true,beq_iff_eq,decide_eq_true_eq]
 repeat' split
 all_goals omega
theorem delay_ff(d p:Int):Cal.delay d p false false=if 19440<=p∨(d % 7=2/\9924<=p)then(if(d % 7+1) % 7=0∨(d % 7+1) % 7=3∨(d % 7+1) % 7=5 then 2 else 1)else(if d % 7=0∨d % 7=3∨d % 7=5 then 1 else 0):=by
 unfold Cal.delay Cal.delay0
 simp only [Bool.not_false,Bool.true_and,Bool.false_and,Bool.false_eq_true,if_false,Bool.and_eq_true,beq_iff_eq,decide_eq_true_eq]
 repeat' split
 all_goals omega
theorem newyear_Delay_tt(d p:Int)(w:World)(hd:I64 d)(hp:I64 p):
  Calls Tryo.prog 80 #[.agg #[.int .i64 d,.int .i64 p],.bool true,.bool true] w fun e w'=>e= .returned (.int .i64 (Cal.delay d p true true))/\Below w.heap.size w w':=by
 have HW:=Lib.hid (fun w=>molad_Weekday d w hd)
 have k0:0<=d % 7:=by omega
 have k1:d % 7<7:=by omega
 go_enter Tryo.func80,Tryz.ntmps80
 go_wp2_with fail
 refine(HW.out _).mono ?_
 rintro e w' ⟨rfl,rfl⟩
 go_wp2_with fail
 all_goals(refine(molad_Weekday _ _ ⟨by omega,by omega⟩).mono ?_;rintro e w' ⟨rfl,rfl⟩;go_wp2_with fail)
 all_goals go_ret
 all_goals refine⟨ret_i ?_,ba _ _⟩
 all_goals go_light
 all_goals rw [delay_tt]
 all_goals(repeat' split)
 all_goals(try simp only [beq_iff_eq,beq_eq_false_iff_ne,ne_eq]at*)
 all_goals omega
theorem newyear_Delay_tf(d p:Int)(w:World)(hd:I64 d)(hp:I64 p):
  Calls Tryo.prog 80 #[.agg #[.int .i64 d,.int .i64 p],.bool true,.bool false] w fun e w'=>e= .returned (.int .i64 (Cal.delay d p true false))/\Below w.heap.size w w':=by
 have HW:=Lib.hid (fun w=>molad_Weekday d w hd)
 have k0:0<=d % 7:=by omega
 have k1:d % 7<7:=by omega
 go_enter Tryo.func80,Tryz.ntmps80
 go_wp2_with fail
 refine(HW.out _).mono ?_
 rintro e w' ⟨rfl,rfl⟩
 go_wp2_with fail
 all_goals(refine(molad_Weekday _ _ ⟨by omega,by omega⟩).mono ?_;rintro e w' ⟨rfl,rfl⟩;go_wp2_with fail)
 all_goals go_ret
 all_goals refine⟨ret_i ?_,ba _ _⟩
 all_goals go_light
 all_goals rw [delay_tf]
 all_goals(repeat' split)
 all_goals(try simp only [beq_iff_eq,beq_eq_false_iff_ne,ne_eq]at*)
 all_goals omega
theorem newyear_Delay_ft(d p:Int)(w:World)(hd:I64 d)(hp:I64 p):
  Calls Tryo.prog 80 #[.agg #[.int .i64 d,.int .i64 p],.bool false,.bool true] w fun e w'=>e= .returned (.int .i64 (Cal.delay d p false true))/\Below w.heap.size w w':=by
 have HW:=Lib.hid (fun w=>molad_Weekday d w hd)
 have k0:0<=d % 7:=by omega
 have k1:d % 7<7:=by omega
 go_enter Tryo.func80,Tryz.ntmps80
 go_wp2_with fail
 refine(HW.out _).mono ?_
 rintro e w' ⟨rfl,rfl⟩
 go_wp2_with fail
 all_goals(refine(molad_Weekday _ _ ⟨by omega,by omega⟩).mono ?_;rintro e w' ⟨rfl,rfl⟩;go_wp2_with fail)
 all_goals go_ret
 all_goals refine⟨ret_i ?_,ba _ _⟩
 all_goals go_light
 all_goals rw [delay_ft]
 all_goals(repeat' split)
 all_goals(try simp only [beq_iff_eq,beq_eq_false_iff_ne,ne_eq]at*)
 all_goals omega
theorem newyear_Delay_ff(d p:Int)(w:World)(hd:I64 d)(hp:I64 p):
  Calls Tryo.prog 80 #[.agg #[.int .i64 d,.int .i64 p],.bool false,.bool false] w fun e w'=>e= .returned (.int .i64 (Cal.delay d p false false))/\Below w.heap.size w w':=by
 have HW:=Lib.hid (fun w=>molad_Weekday d w hd)
 have k0:0<=d % 7:=by omega
 have k1:d % 7<7:=by omega
 go_enter Tryo.func80,Tryz.ntmps80
 go_wp2_with fail
 refine(HW.out _).mono ?_
 rintro e w' ⟨rfl,rfl⟩
 go_wp2_with fail
 all_goals(refine(molad_Weekday _ _ ⟨by omega,by omega⟩).mono ?_;rintro e w' ⟨rfl,rfl⟩;go_wp2_with fail)
 all_goals go_ret
 all_goals refine⟨ret_i ?_,ba _ _⟩
 all_goals go_light
 all_goals rw [delay_ff]
 all_goals(repeat' split)
 all_goals(try simp only [beq_iff_eq,beq_eq_false_iff_ne,ne_eq]at*)
 all_goals omega
theorem newyear_Delay(d p:Int)(lp af:Bool)(w:World)(hd:I64 d)(hp:I64 p):
  Calls Tryo.prog 80 #[.agg #[.int .i64 d,.int .i64 p],.bool lp,.bool af] w fun e w'=>e= .returned (.int .i64 (Cal.delay d p lp af))/\Below w.heap.size w w':=by
 cases lp <;> cases af
 ·exact newyear_Delay_ff d p w hd hp
 ·exact newyear_Delay_ft d p w hd hp
 ·exact newyear_Delay_tf d p w hd hp
 ·exact newyear_Delay_tt d p w hd hp
end Go.Proofs.YthpipedifekmpaaGreatDoor
namespace Go.Proofs.YthpipedifekmpaaGreatDoor
open Go.ChangeShapes Go.WideShapes Go.ChangeAt Go.RowKit
theorem bdw{a b:World}(h:Below a.heap.size a b):Below a.heap.size a b.drew:=h.drew
theorem molad_Of_one(y:Int)(w:World)(h0:0<=y)(h1:y<=10001):
  Calls Tryo.prog 79 #[.int .i64 y,.int .i64 1] w fun e w'=>e= .returned (.tuple #[.agg #[.int .i64 (Cal.moonDay (Cal.before y)),.int .i64 (Cal.moonPart (Cal.before y))],.int .i64 0])/\Below w.heap.size w w':=
 molad_Of_at y 1 (Cal.before y) w h0 h1 (by omega) (by obtain⟨b1,b2⟩:=months_bd y;omega) (by omega)
theorem molad_Of_none(y:Int)(w:World)(h:y<0∨10001<y):
  Calls Tryo.prog 79 #[.int .i64 y,.int .i64 1] w fun e w'=>e= .returned (.tuple #[.agg #[.int .i64 0,.int .i64 0],.int .i64 2])/\Below w.heap.size w w':=by
 have:=molad_Of y 1 w ⟨by omega,by omega⟩
 rwa [(of_no y 1 h).1,(of_no y 1 h).2.1,(of_no y 1 h).2.2]at this
theorem cycle_Leap_ahead(y:Int)(w:World)(h0:0<=y)(h1:y<=10001):
  Calls Tryo.prog 38 #[.int .i64 (y-1)] w fun e w'=>(∃k:Int,e= .returned (.tuple #[.bool (Cal.leap (y-1)),.int .i64 k]))/\w=w':=by
 by_cases c:y=0
 ·have:=cycle_Leap_no (y-1) w (by omega)
  rw [show Cal.leap (y-1)=false by subst c;decide]
  exact this.mono fun e w' h=>⟨⟨_,h.1⟩,h.2⟩
 ·exact(cycle_Leap_ok (y-1) w (by omega) (by omega)).mono fun e w' h=>⟨⟨_,h.1⟩,h.2⟩
theorem first_ok(y:Int)(h0:0<=y)(h1:y<=10001):Cal.firstV y=Cal.moonDay (Cal.before y)+Cal.delay (Cal.moonDay (Cal.before y)) (Cal.moonPart (Cal.before y)) (Cal.leap y) (Cal.leap (y-1))/\Cal.reckE y=0:=by
 rw [Cal.firstV,Cal.reckE,reck_yes y h0 h1];exact⟨rfl,rfl⟩
theorem first_no(y:Int)(h:y<0∨10001<y):Cal.firstV y=0/\Cal.reckE y=2:=by rw [Cal.firstV,Cal.reckE,reck_no y h];exact⟨rfl,rfl⟩
theorem delay_bd(d p:Int)(lp af:Bool):0<=Cal.delay d p lp af/\Cal.delay d p lp af<=2:=by
 cases lp <;> cases af
 ·rw [delay_ff];repeat' split
  all_goals omega
 ·rw [delay_ft];repeat' split
  all_goals omega
 ·rw [delay_tf];repeat' split
  all_goals omega
 ·rw [delay_tt];repeat' split
  all_goals omega
theorem newyear_First(y:Int)(w:World)(hy:I64 y):
  Calls Tryo.prog 52 #[.int .i64 y] w fun e w'=>e= .returned (.tuple #[.int .i64 (Cal.firstV y),.int .i64 (Cal.reckE y)])/\Below w.heap.size w w':=by
 by_cases c:0<=y/\y<=10001
 ·obtain⟨c1,c2⟩:=c
  have HS:=Lib.hid (first_ok y c1 c2)
  obtain⟨b3,b4⟩:=before_bd y c1 c2
  obtain⟨b5,b6⟩:=moonDay_bd (Cal.before y) (by omega) (by omega)
  obtain⟨b7,b8⟩:=moonPart_bd (Cal.before y)
  obtain⟨b1,b2⟩:=delay_bd (Cal.moonDay (Cal.before y)) (Cal.moonPart (Cal.before y)) (Cal.leap y) (Cal.leap (y-1))
  have HD:=Lib.hid (fun w=>newyear_Delay (Cal.moonDay (Cal.before y)) (Cal.moonPart (Cal.before y)) (Cal.leap y) (Cal.leap (y-1)) w ⟨by omega,by omega⟩ ⟨by omega,by omega⟩)
  go_enter Tryo.func52,Tryz.ntmps52
  go_wp2_with fail
  refine(molad_Of_one y _ c1 c2).mono ?_
  rintro e w1 ⟨rfl,hb1⟩
  obtain⟨hc1,hf1⟩:=bcell hb1
  have hz1:=hb1.size
  try simp at hz1
  go_wp2_with fail
  refine(cycle_Leap_ok y _ c1 c2).mono ?_
  rintro e w' ⟨rfl,rfl⟩
  go_wp2_with fail
  refine(cycle_Leap_ahead y _ c1 c2).mono ?_
  rintro e w' ⟨⟨kk,rfl⟩,rfl⟩
  go_wp2_with fail
  go_region_held3 (fun x=>x.cell? ⟨w1.heap.size,0,none⟩=some (.int .i64 (Cal.moonDay (Cal.before y)))/\x.cell? ⟨w1.heap.size,1,none⟩=some (.int .i64 (Cal.moonPart (Cal.before y)))) (go_keep)
   (first|(go_at_call 80;refine(HD.out _).mono ?_;rintro e w2 ⟨rfl,hb2⟩;obtain⟨hc2,hf2⟩:=bcell hb2))
  all_goals go_wp2_with fail
  all_goals go_ret2
  all_goals exact⟨ret_ii ((IntWalk.i64_in _ ⟨by omega,by omega⟩).trans HS.out.1.symm) HS.out.2.symm,bt (bdw (baa hb1 _)) hb2⟩
 ·have HS:=Lib.hid (first_no y (by omega))
  go_enter Tryo.func52,Tryz.ntmps52
  go_wp2_with fail
  refine(molad_Of_none y _ (by omega)).mono ?_
  rintro e w1 ⟨rfl,hb1⟩
  obtain⟨hc1,hf1⟩:=bcell hb1
  have hz1:=hb1.size
  try simp at hz1
  go_wp2_with fail
  go_ret2
  exact⟨ret_ii HS.out.1.symm HS.out.2.symm,baa hb1 _⟩
theorem newyear_First_ok(y:Int)(w:World)(h0:0<=y)(h1:y<=10001):
  Calls Tryo.prog 52 #[.int .i64 y] w fun e w'=>e= .returned (.tuple #[.int .i64 (Cal.first y),.int .i64 0])/\Below w.heap.size w w':=by
 have:=newyear_First y w ⟨by omega,by omega⟩
 rwa [Cal.firstV,Cal.reckE,reck_yes y h0 h1,if_pos rfl,if_pos rfl]at this
theorem first_bd(y:Int)(h0:0<=y)(h1:y<=10001): -7300000<=Cal.first y/\Cal.first y<=4600002:=by
 obtain⟨b3,b4⟩:=before_bd y h0 h1
 obtain⟨b5,b6⟩:=moonDay_bd (Cal.before y) (by omega) (by omega)
 obtain⟨b1,b2⟩:=delay_bd (Cal.moonDay (Cal.before y)) (Cal.moonPart (Cal.before y)) (Cal.leap y) (Cal.leap (y-1))
 unfold Cal.first
 omega
end Go.Proofs.YthpipedifekmpaaGreatDoor
