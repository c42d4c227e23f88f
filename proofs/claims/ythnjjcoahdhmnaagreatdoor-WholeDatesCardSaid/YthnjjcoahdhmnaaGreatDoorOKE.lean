import Derived.Test.YthnjjcoahdhmnaaGreatDoorOKev
import Derived.Test.YthnjjcoahdhmnaaGreatDoorOBB
import Derived.LoopTactic
import Derived.Test.YthnjjcoahdhmnaaGreatDoorOKevA
import Derived.Test.YthnjjcoahdhmnaaGreatDoorOKevB
import Derived.Test.YthnjjcoahdhmnaaGreatDoorOKevC
import Derived.Test.YthnjjcoahdhmnaaGreatDoorOKevD
set_option maxHeartbeats 8000000
set_option maxRecDepth 100000
set_option linter.unusedVariables false
namespace Go.Proofs.YthnjjcoahdhmnaaGreatDoor
section
open Go.ChangeShapes Go.WideShapes Go.ChangeAt Go.RowKit
def rowIs(b k:Int)(l:Bool)(i:Nat):Bool:=(b==bS i)&&((k==jF i)&&(l==jE i))
def ny(b k:Int)(l:Bool):Nat->Nat->Int
 |0,_=>0
 |f+1,i=>if rowIs b k l i then(i:Int)+1 else ny b k l f (i+1)
def number(b k:Int)(l:Bool):Int:=ny b k l 14 0
def kevCells:List Value:=(List.range 14).flatMap fun i=> [.int .i64 (bS i),.int .i64 (jF i),.bool (jE i)]
def uV:Array Value:=kevCells.toArray
theorem KC:uV.size=42:=by kernel_rfl
theorem QJ(i:Nat)(hi:i<14):∀w:World,(Instr.index 227 (.agg uV) (.int .i64 (i:Int))).run Tryo.prog w= .ok (.agg #[.int .i64 (bS i),.int .i64 (jF i),.bool (jE i)]) w:=by
 match i,hi with
 |0,_|1,_|2,_|3,_|4,_|5,_|6,_|7,_|8,_|9,_|10,_|11,_|12,_|13,_=>exact fun _=>by kernel_rfl
attribute [irreducible] uV
theorem Mh(b k:Int)(l:Bool)(n:Nat)(hn:n<14)(h:rowIs b k l n=true):ny b k l (14-n) n=(n:Int)+1:=by
 rw [show 14-n=(13-n)+1 by omega,ny,if_pos h]
theorem yc(b k:Int)(l:Bool)(n:Nat)(hn:n<14)(h:rowIs b k l n=false):ny b k l (14-n) n=ny b k l (14-(n+1)) (n+1):=by
 rw [show 14-n=(13-n)+1 by omega,ny,if_neg (by rw [h];exact Bool.false_ne_true),show 14-(n+1)=13-n by omega]
theorem zH(b k:Int)(l:Bool)(w:World)(hT:Tab w 7 kevCells):
  Calls Tryo.prog 178 #[.agg #[.int .i64 b,.int .i64 k,.bool l]] w fun e w'=>e= .returned (.int .i64 (number b k l))/\Below w.heap.size w w':=by
 have hlt0:=hT.lt
 obtain⟨t,hT⟩:=hT
 have hT2:w.heap[7]? =some (.cells uV t (0,0)):=by unfold uV;exact hT
 have hsz:(Tryo.prog.info? 227).map (·.size)=some uV.size:=by rw [KC];kernel_rfl
 have HT:=Lib.hid hT2
 have HS:=Lib.hid hsz
 clear hT hT2 hsz
 go_enter Tryo.func178,Tryz.ntmps178
 go_wp2_with (refine wpList_load_row rfl 227 _ rfl 7 rfl t uV (0,0) _ ((Below.heap_alloc _ _ _ hlt0).trans HT.out) (aU Tryz.underlying227) rfl HS.out ?_)
 go_loopw [6] (fun i wr=>∃n:Nat,n<=14/\i= .int .i64 n/\Hid (ny b k l (14-n) n=number b k l)/\wr.cell? ⟨w.heap.size,0,none⟩=some (.int .i64 b)/\wr.cell? ⟨w.heap.size,1,none⟩=some (.int .i64 k)/\wr.cell? ⟨w.heap.size,2,none⟩=some (.bool l)/\w.heap.size<wr.heap.size/\Below w.heap.size w wr) (fun i _=>14-(intOf i).toNat)
 case atStart=>exact⟨0,by omega,rfl,rfl,by simp [go_sem],by simp [go_sem],by simp [go_sem],by simp,ba _ _⟩
 case round=>
  obtain⟨n,hn,rfl,hN,c0,c1,c2,hsz,hB⟩:=hrel
  by_cases hlt:n<14
  ·have hix:=QJ n hlt
   by_cases e1:b=bS n
   ·obtain rfl:=e1
    by_cases e2:k=jF n
    ·obtain rfl:=e2
     by_cases e3:l=jE n
     ·obtain rfl:=e3
      have hN2:=Lib.hid ((Mh _ _ _ n hlt (by unfold rowIs;simp)).symm.trans hN.out)
      clear hN
      go_wp2_with fail
      go_ret
      exact⟨GJ hN2.out,baa hB _⟩
     ·skip
      have hN2:=Lib.hid ((yc _ _ _ n hlt (by unfold rowIs;simp [*])).symm.trans hN.out)
      clear hN
      go_wp2_with fail
      go_roundw
      case rel=>exact⟨n+1,by omega,by go_num,hN2,by simp [go_sem,c0,hsz],by simp [go_sem,c1,hsz],by simp [go_sem,c2,hsz],by simp;omega,baa hB _⟩
      case measure=>simp [intOf];omega
    ·skip
     have hN2:=Lib.hid ((yc _ _ _ n hlt (by unfold rowIs;simp [*])).symm.trans hN.out)
     clear hN
     go_wp2_with fail
     go_roundw
     case rel=>exact⟨n+1,by omega,by go_num,hN2,by simp [go_sem,c0,hsz],by simp [go_sem,c1,hsz],by simp [go_sem,c2,hsz],by simp;omega,baa hB _⟩
     case measure=>simp [intOf];omega
   ·skip
    have hN2:=Lib.hid ((yc _ _ _ n hlt (by unfold rowIs;simp [*])).symm.trans hN.out)
    clear hN
    go_wp2_with fail
    go_roundw
    case rel=>exact⟨n+1,by omega,by go_num,hN2,by simp [go_sem,c0,hsz],by simp [go_sem,c1,hsz],by simp [go_sem,c2,hsz],by simp;omega,baa hB _⟩
    case measure=>simp [intOf];omega
  ·go_wp2_with fail
   go_ret
   exact⟨GJ (by rw [←hN.out,show n=14 by omega];rfl),hB⟩
end
section
open Go.ChangeShapes Go.WideShapes Go.ChangeAt Go.RowKit
namespace Cal
def bP(y:Int):Bool:=decide (1<=y)&&decide (y<=9999)
def PG(y:Int):Int:=if bP y then 0 else 2
def long(y:Int):Int:=first (y+1)-first y
def PE(y:Int):Int:=if bP y then long y else 0
def kind(y:Int):Int:=long y-(if leap y then 383 else 353)
def tyB(y:Int):Int:=if bP y then first y % 7 else 0
def tyK(y:Int):Int:=if bP y then kind y else 0
def tyL(y:Int):Bool:=bP y&&leap y
theorem dD(y:Int)(h1:1<=y)(h2:y<=9999):bP y=true:=by simp [bP,h1,h2]
theorem QB(y:Int)(h:y<1∨9999<y):bP y=false:=by
 rw [Bool.eq_false_iff];intro h';simp only [bP,Bool.and_eq_true,decide_eq_true_eq]at h';omega
theorem UR(y:Int)(h1:1<=y)(h2:y<=9999):PG y=0/\PE y=long y/\tyB y=first y % 7/\tyK y=kind y/\tyL y=leap y:=by
 simp only [PG,PE,tyB,tyK,tyL,dD y h1 h2,if_true,Bool.true_and];exact⟨trivial,trivial,trivial,trivial,trivial⟩
theorem U9(y:Int)(h:y<1∨9999<y):PG y=2/\PE y=0/\tyB y=0/\tyK y=0/\tyL y=false:=by
 simp only [PG,PE,tyB,tyK,tyL,QB y h,Bool.false_and,Bool.false_eq_true,if_false];exact⟨trivial,trivial,trivial,trivial,trivial⟩
end Cal
theorem O6(y:Int)(h1:1<=y)(h2:y<=9999):353<=Cal.long y/\Cal.long y<=385:=by
 have:=Cal.Aj y (by omega) (by omega)
 unfold Cal.long
 split at this <;> omega
theorem UW(y:Int)(h1:1<=y)(h2:y<=9999):0<=Cal.kind y/\Cal.kind y<=2:=by
 have:=Cal.Aj y (by omega) (by omega)
 unfold Cal.kind Cal.long
 split at this <;> rename_i h <;> simp only [h] <;> simp <;> omega
theorem EU(y:Int)(w:World)(h1:1<=y)(h2:y<=9999):
  Calls Tryo.prog 175 #[.int .i64 (y)] w fun e w'=>e= .returned (.tuple #[.int .i64 (Cal.first y),.int .i64 (Cal.long y),.int .i64 (0)])/\Below w.heap.size w w':=by
 obtain⟨b1,b2⟩:=iT y (by omega) (by omega)
 obtain⟨b3,b4⟩:=iT (y+1) (by omega) (by omega)
 have HA:=Lib.hid (fun w=>jW y w (by omega) (by omega))
 have HB:=Lib.hid (fun w=>jW (y+1) w (by omega) (by omega))
 have HL:=Lib.hid (show Cal.long y=Cal.first (y+1)-Cal.first y from rfl)
 generalize Cal.first y=a at*
 generalize Cal.first (y+1)=b at*
 go_enter Tryo.func175,Tryz.ntmps175
 go_wp2_with fail
 refine(HA.out _).mono ?_
 rintro e w1 ⟨rfl,hb1⟩
 obtain⟨hc1,hf1⟩:=aA hb1
 have hz1:=hb1.size
 try simp at hz1
 go_wp2_with fail
 refine(HB.out _).mono ?_
 rintro e w2 ⟨rfl,hb2⟩
 obtain⟨hc2,hf2⟩:=aA hb2
 have hz2:=hb2.size
 try simp at hz2
 go_wp2_with fail
 go_ret3
 rw [HL.out]
 exact⟨rfl,bt hb1 hb2⟩
theorem El(y:Int)(w:World)(hy:I64 y)(h:y<1∨9999<y):
  Calls Tryo.prog 175 #[.int .i64 (y)] w fun e w'=>e= .returned (.tuple #[.int .i64 (0),.int .i64 (0),.int .i64 (2)])/\Below w.heap.size w w':=by
 rcases(show y<1∨(1<=y/\9999<y) by omega)with c|⟨c1,c2⟩
 all_goals clear h
 all_goals go_enter Tryo.func175,Tryz.ntmps175
 all_goals go_wp2_with fail
 all_goals go_ret3
 all_goals exact⟨rfl,Below.refl _ _⟩
theorem zh(y:Int)(w:World)(h1:1<=y)(h2:y<=9999):
  Calls Tryo.prog 105 #[.int .i64 (y)] w fun e w'=>e= .returned (.tuple #[.agg #[.int .i64 (Cal.first y % 7),.int .i64 (Cal.kind y),.bool (Cal.leap y)],.int .i64 (0)])/\Below w.heap.size w w':=by
 obtain⟨b1,b2⟩:=iT y (by omega) (by omega)
 obtain⟨b3,b4⟩:=O6 y h1 h2
 have HA:=Lib.hid (fun w=>EU y w h1 h2)
 have HI:=Lib.hid (fun w=>aT y w (by omega) (by omega))
 cases hl:Cal.leap y
 ·have hk:Cal.kind y=Cal.long y-353:=by unfold Cal.kind;rw [hl];rfl
  have HK:=Lib.hid hk
  rw [hl]at HI
  clear hk hl
  generalize Cal.first y=a at*
  generalize Cal.long y=b at*
  go_enter Tryo.func105,Tryz.ntmps105
  go_wp2_with fail
  refine(HA.out _).mono ?_
  rintro e w1 ⟨rfl,hb1⟩
  obtain⟨hc1,hf1⟩:=aA hb1
  have hz1:=hb1.size
  try simp at hz1
  have hl1w:w.heap.size<w1.heap.size:=by omega
  have hm1w:w.heap.size<=w1.heap.size:=by omega
  have g1x0:w1.cell? ⟨w.heap.size,0,none⟩=some (.int .i64 0):=aR hc1
  have g1x1:w1.cell? ⟨w.heap.size,1,none⟩=some (.int .i64 0):=aR hc1
  have g1x2:w1.cell? ⟨w.heap.size,2,none⟩=some (.bool false):=aR hc1
  go_wp2_with fail
  refine(HI.out _).mono ?_
  rintro e w' ⟨rfl,rfl⟩
  go_wp2_with fail
  refine(bO a _ (by unfold I64;omega)).mono ?_
  rintro e w' ⟨rfl,rfl⟩
  go_wp2_with fail
  rw [HK.out]
  refine bodyPost_ret (v:= .tuple #[.agg #[.int .i64 (a % 7),.int .i64 (b-353),.bool false],.int .i64 0]) (by simp [results,Tryz.results105,go_sem,g1x0,g1x1,g1x2]) rfl ⟨rfl, ?_⟩
  exact beo
 ·have hk:Cal.kind y=Cal.long y-383:=by unfold Cal.kind;rw [hl];rfl
  have HK:=Lib.hid hk
  rw [hl]at HI
  clear hk hl
  generalize Cal.first y=a at*
  generalize Cal.long y=b at*
  go_enter Tryo.func105,Tryz.ntmps105
  go_wp2_with fail
  refine(HA.out _).mono ?_
  rintro e w1 ⟨rfl,hb1⟩
  obtain⟨hc1,hf1⟩:=aA hb1
  have hz1:=hb1.size
  try simp at hz1
  have hl1w:w.heap.size<w1.heap.size:=by omega
  have hm1w:w.heap.size<=w1.heap.size:=by omega
  have g1x0:w1.cell? ⟨w.heap.size,0,none⟩=some (.int .i64 0):=aR hc1
  have g1x1:w1.cell? ⟨w.heap.size,1,none⟩=some (.int .i64 0):=aR hc1
  have g1x2:w1.cell? ⟨w.heap.size,2,none⟩=some (.bool false):=aR hc1
  go_wp2_with fail
  refine(HI.out _).mono ?_
  rintro e w' ⟨rfl,rfl⟩
  go_wp2_with fail
  refine(bO a _ (by unfold I64;omega)).mono ?_
  rintro e w' ⟨rfl,rfl⟩
  go_wp2_with fail
  rw [HK.out]
  refine bodyPost_ret (v:= .tuple #[.agg #[.int .i64 (a % 7),.int .i64 (b-383),.bool true],.int .i64 0]) (by simp [results,Tryz.results105,go_sem,g1x0,g1x1,g1x2]) rfl ⟨rfl, ?_⟩
  exact beo
theorem JQ(y:Int)(w:World)(hy:I64 y)(h:y<1∨9999<y):
  Calls Tryo.prog 105 #[.int .i64 (y)] w fun e w'=>e= .returned (.tuple #[.agg #[.int .i64 (0),.int .i64 (0),.bool false],.int .i64 (2)])/\Below w.heap.size w w':=by
 have HA:=Lib.hid (fun w=>El y w hy h)
 clear h
 go_enter Tryo.func105,Tryz.ntmps105
 go_wp2_with fail
 refine(HA.out _).mono ?_
 rintro e w1 ⟨rfl,hb1⟩
 obtain⟨hc1,hf1⟩:=aA hb1
 have hz1:=hb1.size
 try simp at hz1
 have hl1w:w.heap.size<w1.heap.size:=by omega
 have hm1w:w.heap.size<=w1.heap.size:=by omega
 have g1x0:w1.cell? ⟨w.heap.size,0,none⟩=some (.int .i64 0):=aR hc1
 have g1x1:w1.cell? ⟨w.heap.size,1,none⟩=some (.int .i64 0):=aR hc1
 have g1x2:w1.cell? ⟨w.heap.size,2,none⟩=some (.bool false):=aR hc1
 go_wp2_with fail
 refine bodyPost_ret (v:= .tuple #[.agg #[.int .i64 0,.int .i64 0,.bool false],.int .i64 2]) (by simp [results,Tryz.results105,go_sem,g1x0,g1x1,g1x2]) rfl ⟨rfl, ?_⟩
 exact beo
end
section
open Go.ChangeShapes Go.WideShapes Go.ChangeAt Go.RowKit
namespace Cal
def RO(c:Nat)(lp:Bool):Bool:=or (Nat.beq c 3) (or (Nat.beq c 5) (or (Nat.beq c 7) (or (Nat.beq c (cond lp 12 13)) (or (Nat.beq c 14) (or (Nat.beq c 18) (Nat.beq c 20))))))
def tyN(y:Nat):Bool:=
 ql y fun a=>ql (Nat.succ y) fun b=>force (Nat.mod (Nat.add a 1) 7) fun w=>force (Nat.sub (Nat.sub b a) (cond (lpN y) 383 353)) fun k=>force (Nat.add (Nat.mul 3 w) k) fun c=>and (Nat.ble k 2) (RO c (lpN y))
theorem tyN1:mR tyN 13 2=true:=by decide+kernel
theorem tyN2:mR tyN 11 8194=true:=by decide+kernel
theorem Us(y:Nat)(h0:2<=y)(h1:y<=10001):tyN y=true:=by
 by_cases h:y<8194
 ·exact lu _ _ _ tyN1 y h0 (by omega)
 ·exact lu _ _ _ tyN2 y (by omega) (by omega)
theorem TR(y:Nat)(h0:2<=y)(h1:y<=10001):
  dX (y+1)-dX y-(if lpN y then 383 else 353)<=2/\RO (3*((dX y+1) % 7)+(dX (y+1)-dX y-(if lpN y then 383 else 353))) (lpN y)=true:=by
 have h:=Us y h0 h1
 unfold tyN at h
 simp only [Hw,force_eq]at h
 rw [Bool.and_eq_true]at h
 obtain⟨h1,h2⟩:=h
 cases hl:lpN y <;> rw [hl]at h1 h2 <;> exact⟨Nat.le_of_ble_eq_true h1,h2⟩
end Cal
theorem MG(y:Int)(h1:1<=y)(h2:y<=9999):∃i:Nat,i<14/\Cal.first y % 7=bS i/\Cal.kind y=jF i/\Cal.leap y=jE i:=by
 by_cases h:y<2
 ·obtain rfl:y=1:=by omega
  exact⟨1,by omega,by decide+kernel,by decide+kernel,by decide+kernel⟩
 ·obtain⟨n,rfl⟩:=Int.eq_ofNat_of_zero_le (show 0<=y by omega)
  obtain⟨hk,hr⟩:=Cal.TR n (by omega) (by omega)
  have hb:=UW n h1 h2
  unfold Cal.kind Cal.long at hb⊢
  have e:((n:Int)+1)=((n+1:Nat):Int):=by omega
  rw [e,Cal.kg n (by omega),Cal.kg (n+1) (by omega),Cal.Eh n]at hb
  rw [e,Cal.kg n (by omega),Cal.kg (n+1) (by omega),Cal.Eh n]
  generalize Cal.dX n=a at*
  generalize Cal.dX (n+1)=b at*
  unfold Cal.RO at hr
  cases hl:Cal.lpN n <;> rw [hl]at hk hr hb <;> simp only [Bool.or_eq_true,Nat.beq_eq,cond_true,cond_false,if_true,if_false,Bool.false_eq_true]at hk hr hb⊢
  ·rcases hr with c|c|c|c|c|c|c
   ·exact⟨0,by omega,by simp only [bS];omega,by simp only [jF];omega,rfl⟩
   ·exact⟨1,by omega,by simp only [bS];omega,by simp only [jF];omega,rfl⟩
   ·exact⟨2,by omega,by simp only [bS];omega,by simp only [jF];omega,rfl⟩
   ·exact⟨3,by omega,by simp only [bS];omega,by simp only [jF];omega,rfl⟩
   ·exact⟨4,by omega,by simp only [bS];omega,by simp only [jF];omega,rfl⟩
   ·exact⟨5,by omega,by simp only [bS];omega,by simp only [jF];omega,rfl⟩
   ·exact⟨6,by omega,by simp only [bS];omega,by simp only [jF];omega,rfl⟩
  ·rcases hr with c|c|c|c|c|c|c
   ·exact⟨7,by omega,by simp only [bS];omega,by simp only [jF];omega,rfl⟩
   ·exact⟨8,by omega,by simp only [bS];omega,by simp only [jF];omega,rfl⟩
   ·exact⟨9,by omega,by simp only [bS];omega,by simp only [jF];omega,rfl⟩
   ·exact⟨10,by omega,by simp only [bS];omega,by simp only [jF];omega,rfl⟩
   ·exact⟨11,by omega,by simp only [bS];omega,by simp only [jF];omega,rfl⟩
   ·exact⟨12,by omega,by simp only [bS];omega,by simp only [jF];omega,rfl⟩
   ·exact⟨13,by omega,by simp only [bS];omega,by simp only [jF];omega,rfl⟩
end
end Go.Proofs.YthnjjcoahdhmnaaGreatDoor
