import Derived.Test.YthnjjcoahdhmnaaGreatDoorEKev
import Derived.Test.YthnjjcoahdhmnaaGreatDoorEBB
import Derived.LoopTactic
import Derived.Test.YthnjjcoahdhmnaaGreatDoorEKX
set_option maxHeartbeats 8000000
set_option maxRecDepth 100000
set_option linter.unusedVariables false
namespace Go.Proofs.YthnjjcoahdhmnaaGreatDoor
section
open Go.ChangeShapes Go.WideShapes Go.ChangeAt Go.RowKit
def rowIs(b k:Int)(l:Bool)(i:Nat):Bool:=(b==bn i)&&((k==dN i)&&(l==dF i))
def iV(b k:Int)(l:Bool):Nat->Nat->Int
 |0,_=>0
 |f+1,i=>if rowIs b k l i then(i:Int)+1 else iV b k l f (i+1)
def number(b k:Int)(l:Bool):Int:=iV b k l 14 0
def kevCells:List Value:=(List.range 14).flatMap fun i=> [.int .i64 (bn i),.int .i64 (dN i),.bool (dF i)]
def uT:Array Value:=kevCells.toArray
theorem Qc:uT.size=42:=by kernel_rfl
theorem Vf(i:Nat)(hi:i<14):∀w:World,(Instr.index 227 (.agg uT) (.int .i64 (i:Int))).run Tryo.prog w= .ok (.agg #[.int .i64 (bn i),.int .i64 (dN i),.bool (dF i)]) w:=by
 match i,hi with
 |0,_|1,_|2,_|3,_|4,_|5,_|6,_|7,_|8,_|9,_|10,_|11,_|12,_|13,_=>exact fun _=>by kernel_rfl
attribute [irreducible] uT
theorem BS(b k:Int)(l:Bool)(n:Nat)(hn:n<14)(h:rowIs b k l n=true):iV b k l (14-n) n=(n:Int)+1:=by
 rw [show 14-n=(13-n)+1 by omega,iV,if_pos h]
theorem jM(b k:Int)(l:Bool)(n:Nat)(hn:n<14)(h:rowIs b k l n=false):iV b k l (14-n) n=iV b k l (14-(n+1)) (n+1):=by
 rw [show 14-n=(13-n)+1 by omega,iV,if_neg (by rw [h];exact Bool.false_ne_true),show 14-(n+1)=13-n by omega]
theorem zW(b k:Int)(l:Bool)(w:World)(hT:Tab w 7 kevCells):
  Calls Tryo.prog 178 #[.agg #[.int .i64 b,.int .i64 k,.bool l]] w fun e w'=>e= .returned (.int .i64 (number b k l))/\Below w.heap.size w w':=by
 have hlt0:=hT.lt
 obtain⟨t,hT⟩:=hT
 have hT2:w.heap[7]? =some (.cells uT t (0,0)):=by unfold uT;exact hT
 have hsz:(Tryo.prog.info? 227).map (·.size)=some uT.size:=by rw [Qc];kernel_rfl
 have HT:=Lib.hid hT2
 have HS:=Lib.hid hsz
 clear hT hT2 hsz
 go_enter Tryo.func178,Tryz.ntmps178
 go_wp2_with (refine wpList_load_row rfl 227 _ rfl 7 rfl t uT (0,0) _ ((Below.heap_alloc _ _ _ hlt0).trans HT.out) (aI Tryz.underlying227) rfl HS.out ?_)
 go_loopw [6] (fun i wr=>∃n:Nat,n<=14/\i= .int .i64 n/\Hid (iV b k l (14-n) n=number b k l)/\wr.cell? ⟨w.heap.size,0,none⟩=some (.int .i64 b)/\wr.cell? ⟨w.heap.size,1,none⟩=some (.int .i64 k)/\wr.cell? ⟨w.heap.size,2,none⟩=some (.bool l)/\w.heap.size<wr.heap.size/\Below w.heap.size w wr) (fun i _=>14-(intOf i).toNat)
 case atStart=>exact⟨0,by omega,rfl,rfl,by simp [go_sem],by simp [go_sem],by simp [go_sem],by simp,ba _ _⟩
 case round=>
  obtain⟨n,hn,rfl,hN,c0,c1,c2,hsz,hB⟩:=hrel
  by_cases hlt:n<14
  ·have hix:=Vf n hlt
   by_cases e1:b=bn n
   ·obtain rfl:=e1
    by_cases e2:k=dN n
    ·obtain rfl:=e2
     by_cases e3:l=dF n
     ·obtain rfl:=e3
      have hN2:=Lib.hid ((BS _ _ _ n hlt (by unfold rowIs;simp)).symm.trans hN.out)
      clear hN
      go_wp2_with fail
      go_ret
      exact⟨jk hN2.out,baa hB _⟩
     ·skip
      have hN2:=Lib.hid ((jM _ _ _ n hlt (by unfold rowIs;simp [*])).symm.trans hN.out)
      clear hN
      go_wp2_with fail
      go_roundw
      case rel=>exact⟨n+1,by omega,by go_num,hN2,by simp [go_sem,c0,hsz],by simp [go_sem,c1,hsz],by simp [go_sem,c2,hsz],by simp;omega,baa hB _⟩
      case measure=>simp [intOf];omega
    ·skip
     have hN2:=Lib.hid ((jM _ _ _ n hlt (by unfold rowIs;simp [*])).symm.trans hN.out)
     clear hN
     go_wp2_with fail
     go_roundw
     case rel=>exact⟨n+1,by omega,by go_num,hN2,by simp [go_sem,c0,hsz],by simp [go_sem,c1,hsz],by simp [go_sem,c2,hsz],by simp;omega,baa hB _⟩
     case measure=>simp [intOf];omega
   ·skip
    have hN2:=Lib.hid ((jM _ _ _ n hlt (by unfold rowIs;simp [*])).symm.trans hN.out)
    clear hN
    go_wp2_with fail
    go_roundw
    case rel=>exact⟨n+1,by omega,by go_num,hN2,by simp [go_sem,c0,hsz],by simp [go_sem,c1,hsz],by simp [go_sem,c2,hsz],by simp;omega,baa hB _⟩
    case measure=>simp [intOf];omega
  ·go_wp2_with fail
   go_ret
   exact⟨jk (by rw [←hN.out,show n=14 by omega];rfl),hB⟩
end
section
open Go.ChangeShapes Go.WideShapes Go.ChangeAt Go.RowKit
namespace Cal
def bG(y:Int):Bool:=decide (1<=y)&&decide (y<=9999)
def UC(y:Int):Int:=if bG y then 0 else 2
def long(y:Int):Int:=first (y+1)-first y
def Ue(y:Int):Int:=if bG y then long y else 0
def kind(y:Int):Int:=long y-(if leap y then 383 else 353)
def tyB(y:Int):Int:=if bG y then first y % 7 else 0
def tyK(y:Int):Int:=if bG y then kind y else 0
def tyL(y:Int):Bool:=bG y&&leap y
theorem jd(y:Int)(h1:1<=y)(h2:y<=9999):bG y=true:=by simp [bG,h1,h2]
theorem kW(y:Int)(h:y<1∨9999<y):bG y=false:=by
 rw [Bool.eq_false_iff];intro h';simp only [bG,Bool.and_eq_true,decide_eq_true_eq]at h';omega
theorem Yd(y:Int)(h1:1<=y)(h2:y<=9999):UC y=0/\Ue y=long y/\tyB y=first y % 7/\tyK y=kind y/\tyL y=leap y:=by
 simp only [UC,Ue,tyB,tyK,tyL,jd y h1 h2,if_true,Bool.true_and];exact⟨trivial,trivial,trivial,trivial,trivial⟩
theorem X0(y:Int)(h:y<1∨9999<y):UC y=2/\Ue y=0/\tyB y=0/\tyK y=0/\tyL y=false:=by
 simp only [UC,Ue,tyB,tyK,tyL,kW y h,Bool.false_and,Bool.false_eq_true,if_false];exact⟨trivial,trivial,trivial,trivial,trivial⟩
end Cal
theorem sj(y:Int)(h1:1<=y)(h2:y<=9999):353<=Cal.long y/\Cal.long y<=385:=by
 have:=Cal.AY y (by omega) (by omega)
 unfold Cal.long
 split at this <;> omega
theorem YS(y:Int)(h1:1<=y)(h2:y<=9999):0<=Cal.kind y/\Cal.kind y<=2:=by
 have:=Cal.AY y (by omega) (by omega)
 unfold Cal.kind Cal.long
 split at this <;> rename_i h <;> simp only [h] <;> simp <;> omega
theorem Gq(y:Int)(w:World)(h1:1<=y)(h2:y<=9999):
  Calls Tryo.prog 175 #[.int .i64 (y)] w fun e w'=>e= .returned (.tuple #[.int .i64 (Cal.first y),.int .i64 (Cal.long y),.int .i64 (0)])/\Below w.heap.size w w':=by
 obtain⟨b1,b2⟩:=bF y (by omega) (by omega)
 obtain⟨b3,b4⟩:=bF (y+1) (by omega) (by omega)
 have HA:=Lib.hid (fun w=>iK y w (by omega) (by omega))
 have HB:=Lib.hid (fun w=>iK (y+1) w (by omega) (by omega))
 have HL:=Lib.hid (show Cal.long y=Cal.first (y+1)-Cal.first y from rfl)
 generalize Cal.first y=a at*
 generalize Cal.first (y+1)=b at*
 go_enter Tryo.func175,Tryz.ntmps175
 go_wp2_with fail
 refine(HA.out _).mono ?_
 rintro e w1 ⟨rfl,hb1⟩
 obtain⟨hc1,hf1⟩:=aA hb1
 have hz1:=hb1.size
 try simp at hz1
 go_wp2_with fail
 refine(HB.out _).mono ?_
 rintro e w2 ⟨rfl,hb2⟩
 obtain⟨hc2,hf2⟩:=aA hb2
 have hz2:=hb2.size
 try simp at hz2
 go_wp2_with fail
 go_ret3
 rw [HL.out]
 exact⟨rfl,bt hb1 hb2⟩
theorem Ga(y:Int)(w:World)(hy:I64 y)(h:y<1∨9999<y):
  Calls Tryo.prog 175 #[.int .i64 (y)] w fun e w'=>e= .returned (.tuple #[.int .i64 (0),.int .i64 (0),.int .i64 (2)])/\Below w.heap.size w w':=by
 rcases(show y<1∨(1<=y/\9999<y) by omega)with c|⟨c1,c2⟩
 all_goals clear h
 all_goals go_enter Tryo.func175,Tryz.ntmps175
 all_goals go_wp2_with fail
 all_goals go_ret3
 all_goals exact⟨rfl,Below.refl _ _⟩
theorem zR(y:Int)(w:World)(h1:1<=y)(h2:y<=9999):
  Calls Tryo.prog 105 #[.int .i64 (y)] w fun e w'=>e= .returned (.tuple #[.agg #[.int .i64 (Cal.first y % 7),.int .i64 (Cal.kind y),.bool (Cal.leap y)],.int .i64 (0)])/\Below w.heap.size w w':=by
 obtain⟨b1,b2⟩:=bF y (by omega) (by omega)
 obtain⟨b3,b4⟩:=sj y h1 h2
 have HA:=Lib.hid (fun w=>Gq y w h1 h2)
 have HI:=Lib.hid (fun w=>bR y w (by omega) (by omega))
 cases hl:Cal.leap y
 ·have hk:Cal.kind y=Cal.long y-353:=by unfold Cal.kind;rw [hl];rfl
  have HK:=Lib.hid hk
  rw [hl]at HI
  clear hk hl
  generalize Cal.first y=a at*
  generalize Cal.long y=b at*
  go_enter Tryo.func105,Tryz.ntmps105
  go_wp2_with fail
  refine(HA.out _).mono ?_
  rintro e w1 ⟨rfl,hb1⟩
  obtain⟨hc1,hf1⟩:=aA hb1
  have hz1:=hb1.size
  try simp at hz1
  have hl1w:w.heap.size<w1.heap.size:=by omega
  have hm1w:w.heap.size<=w1.heap.size:=by omega
  have g1x0:w1.cell? ⟨w.heap.size,0,none⟩=some (.int .i64 0):=aH hc1
  have g1x1:w1.cell? ⟨w.heap.size,1,none⟩=some (.int .i64 0):=aH hc1
  have g1x2:w1.cell? ⟨w.heap.size,2,none⟩=some (.bool false):=aH hc1
  go_wp2_with fail
  refine(HI.out _).mono ?_
  rintro e w' ⟨rfl,rfl⟩
  go_wp2_with fail
  refine(aT a _ (by unfold I64;omega)).mono ?_
  rintro e w' ⟨rfl,rfl⟩
  go_wp2_with fail
  rw [HK.out]
  refine bodyPost_ret (v:= .tuple #[.agg #[.int .i64 (a % 7),.int .i64 (b-353),.bool false],.int .i64 0]) (by simp [results,Tryz.results105,go_sem,g1x0,g1x1,g1x2]) rfl ⟨rfl, ?_⟩
  repeat(first|exact Below.refl _ _|assumption|(with_reducible refine bU ?_)|(with_reducible refine baa ?_ _)|(with_reducible refine bs ?_ (by first|exact Nat.le_refl _|omega|(simp;omega)) _)|(with_reducible refine bt ?_ (by assumption)))
 ·have hk:Cal.kind y=Cal.long y-383:=by unfold Cal.kind;rw [hl];rfl
  have HK:=Lib.hid hk
  rw [hl]at HI
  clear hk hl
  generalize Cal.first y=a at*
  generalize Cal.long y=b at*
  go_enter Tryo.func105,Tryz.ntmps105
  go_wp2_with fail
  refine(HA.out _).mono ?_
  rintro e w1 ⟨rfl,hb1⟩
  obtain⟨hc1,hf1⟩:=aA hb1
  have hz1:=hb1.size
  try simp at hz1
  have hl1w:w.heap.size<w1.heap.size:=by omega
  have hm1w:w.heap.size<=w1.heap.size:=by omega
  have g1x0:w1.cell? ⟨w.heap.size,0,none⟩=some (.int .i64 0):=aH hc1
  have g1x1:w1.cell? ⟨w.heap.size,1,none⟩=some (.int .i64 0):=aH hc1
  have g1x2:w1.cell? ⟨w.heap.size,2,none⟩=some (.bool false):=aH hc1
  go_wp2_with fail
  refine(HI.out _).mono ?_
  rintro e w' ⟨rfl,rfl⟩
  go_wp2_with fail
  refine(aT a _ (by unfold I64;omega)).mono ?_
  rintro e w' ⟨rfl,rfl⟩
  go_wp2_with fail
  rw [HK.out]
  refine bodyPost_ret (v:= .tuple #[.agg #[.int .i64 (a % 7),.int .i64 (b-383),.bool true],.int .i64 0]) (by simp [results,Tryz.results105,go_sem,g1x0,g1x1,g1x2]) rfl ⟨rfl, ?_⟩
  repeat(first|exact Below.refl _ _|assumption|(with_reducible refine bU ?_)|(with_reducible refine baa ?_ _)|(with_reducible refine bs ?_ (by first|exact Nat.le_refl _|omega|(simp;omega)) _)|(with_reducible refine bt ?_ (by assumption)))
theorem OA(y:Int)(w:World)(hy:I64 y)(h:y<1∨9999<y):
  Calls Tryo.prog 105 #[.int .i64 (y)] w fun e w'=>e= .returned (.tuple #[.agg #[.int .i64 (0),.int .i64 (0),.bool false],.int .i64 (2)])/\Below w.heap.size w w':=by
 have HA:=Lib.hid (fun w=>Ga y w hy h)
 clear h
 go_enter Tryo.func105,Tryz.ntmps105
 go_wp2_with fail
 refine(HA.out _).mono ?_
 rintro e w1 ⟨rfl,hb1⟩
 obtain⟨hc1,hf1⟩:=aA hb1
 have hz1:=hb1.size
 try simp at hz1
 have hl1w:w.heap.size<w1.heap.size:=by omega
 have hm1w:w.heap.size<=w1.heap.size:=by omega
 have g1x0:w1.cell? ⟨w.heap.size,0,none⟩=some (.int .i64 0):=aH hc1
 have g1x1:w1.cell? ⟨w.heap.size,1,none⟩=some (.int .i64 0):=aH hc1
 have g1x2:w1.cell? ⟨w.heap.size,2,none⟩=some (.bool false):=aH hc1
 go_wp2_with fail
 refine bodyPost_ret (v:= .tuple #[.agg #[.int .i64 0,.int .i64 0,.bool false],.int .i64 2]) (by simp [results,Tryz.results105,go_sem,g1x0,g1x1,g1x2]) rfl ⟨rfl, ?_⟩
 repeat(first|exact Below.refl _ _|assumption|(with_reducible refine bU ?_)|(with_reducible refine baa ?_ _)|(with_reducible refine bs ?_ (by first|exact Nat.le_refl _|omega|(simp;omega)) _)|(with_reducible refine bt ?_ (by assumption)))
theorem dQ(y:Int)(w:World)(hy:I64 y):
  Calls Tryo.prog 115 #[.int .i64 (y)] w fun e w'=>e= .returned (.bool (Cal.bG y))/\w=w':=by
 rcases(show y<1∨(1<=y/\9999<y)∨(1<=y/\y<=9999) by omega)with c|⟨c1,c2⟩|⟨c1,c2⟩
 ·rw [Cal.kW y (by omega)]
  go_enter Tryo.func115,Tryz.ntmps115
  go_wp2_with fail
  go_ret
  exact⟨rfl,rfl⟩
 ·rw [Cal.kW y (by omega)]
  have d:decide (y<=9999)=false:=by simpa using c2
  go_enter Tryo.func115,Tryz.ntmps115
  go_wp2_with fail
  go_ret
  exact⟨rfl,rfl⟩
 ·rw [Cal.jd y c1 c2]
  have d:decide (y<=9999)=true:=by simpa using c2
  go_enter Tryo.func115,Tryz.ntmps115
  go_wp2_with fail
  go_ret
  exact⟨rfl,rfl⟩
theorem Mi(y:Int)(w:World)(h1:1<=y)(h2:y<=9999):
  Calls Tryo.prog 160 #[.int .i64 (y)] w fun e w'=>e= .returned (.tuple #[.int .i64 (Cal.long y),.int .i64 (0)])/\Below w.heap.size w w':=by
 obtain⟨b1,b2⟩:=bF y (by omega) (by omega)
 obtain⟨b3,b4⟩:=bF (y+1) (by omega) (by omega)
 have HA:=Lib.hid (fun w=>dn y w (by omega) (by omega))
 have HB:=Lib.hid (fun w=>dn (y+1) w (by omega) (by omega))
 have HL:=Lib.hid (show Cal.long y=Cal.first (y+1)-Cal.first y from rfl)
 have hR:=fun w=>dQ y w ⟨by omega,by omega⟩
 rw [Cal.jd y h1 h2]at hR
 have HR:=Lib.hid hR
 clear hR
 generalize Cal.first y=a at*
 generalize Cal.first (y+1)=b at*
 go_enter Tryo.func160,Tryz.ntmps160
 go_wp2_with fail
 refine(HR.out _).mono ?_
 rintro e w' ⟨rfl,rfl⟩
 go_wp2_with fail
 refine(HA.out _).mono ?_
 rintro e w1 ⟨rfl,hb1⟩
 obtain⟨hc1,hf1⟩:=aA hb1
 have hz1:=hb1.size
 try simp at hz1
 go_wp2_with fail
 refine(HB.out _).mono ?_
 rintro e w2 ⟨rfl,hb2⟩
 obtain⟨hc2,hf2⟩:=aA hb2
 have hz2:=hb2.size
 try simp at hz2
 go_wp2_with fail
 go_ret2
 rw [HL.out]
 exact⟨rfl,bt hb1 hb2⟩
theorem Ni(y:Int)(w:World)(hy:I64 y)(h:y<1∨9999<y):
  Calls Tryo.prog 160 #[.int .i64 (y)] w fun e w'=>e= .returned (.tuple #[.int .i64 (0),.int .i64 (2)])/\Below w.heap.size w w':=by
 have hR:=fun w=>dQ y w hy
 rw [Cal.kW y h]at hR
 have HR:=Lib.hid hR
 clear hR h
 go_enter Tryo.func160,Tryz.ntmps160
 go_wp2_with fail
 refine(HR.out _).mono ?_
 rintro e w' ⟨rfl,rfl⟩
 go_wp2_with fail
 go_ret2
 exact⟨rfl,Below.refl _ _⟩
theorem mH(y:Int)(w:World)(h1:1<=y)(h2:y<=9999):
  Calls Tryo.prog 90 #[.int .i64 (y)] w fun e w'=>e= .returned (.tuple #[.agg #[.int .i64 (Cal.first y % 7),.int .i64 (Cal.kind y),.bool (Cal.leap y)],.int .i64 (0)])/\Below w.heap.size w w':=by
 obtain⟨b1,b2⟩:=bF y (by omega) (by omega)
 obtain⟨b3,b4⟩:=sj y h1 h2
 have HA:=Lib.hid (fun w=>Mi y w h1 h2)
 have HF:=Lib.hid (fun w=>dn y w (by omega) (by omega))
 have HI:=Lib.hid (fun w=>oG y w (by omega) (by omega))
 cases hl:Cal.leap y
 ·have hk:Cal.kind y=Cal.long y-353:=by unfold Cal.kind;rw [hl];rfl
  have HK:=Lib.hid hk
  rw [hl]at HI
  clear hk hl
  generalize Cal.first y=a at*
  generalize Cal.long y=b at*
  go_enter Tryo.func90,Tryz.ntmps90
  go_wp2_with fail
  refine(HA.out _).mono ?_
  rintro e w1 ⟨rfl,hb1⟩
  obtain⟨hc1,hf1⟩:=aA hb1
  have hz1:=hb1.size
  try simp at hz1
  have hl1w:w.heap.size<w1.heap.size:=by omega
  have hm1w:w.heap.size<=w1.heap.size:=by omega
  have g1x0:w1.cell? ⟨w.heap.size,0,none⟩=some (.int .i64 0):=aH hc1
  have g1x1:w1.cell? ⟨w.heap.size,1,none⟩=some (.int .i64 0):=aH hc1
  have g1x2:w1.cell? ⟨w.heap.size,2,none⟩=some (.bool false):=aH hc1
  go_wp2_with fail
  refine(HF.out _).mono ?_
  rintro e w2 ⟨rfl,hb2⟩
  obtain⟨hc2,hf2⟩:=aA hb2
  have hz2:=hb2.size
  try simp at hz2
  have hl2w:w.heap.size<w2.heap.size:=by omega
  have hm2w:w.heap.size<=w2.heap.size:=by omega
  have g2x0:w2.cell? ⟨w.heap.size,0,none⟩=some (.int .i64 0):=aH hc2
  have g2x1:w2.cell? ⟨w.heap.size,1,none⟩=some (.int .i64 0):=aH hc2
  have g2x2:w2.cell? ⟨w.heap.size,2,none⟩=some (.bool false):=aH hc2
  go_wp2_with fail
  refine(bS a _).mono ?_
  rintro e w' ⟨rfl,rfl⟩
  go_wp2_with fail
  refine(HI.out _).mono ?_
  rintro e w' ⟨rfl,rfl⟩
  go_wp2_with fail
  rw [HK.out]
  refine bodyPost_ret (v:= .tuple #[.agg #[.int .i64 (a % 7),.int .i64 (b-353),.bool false],.int .i64 0]) (by simp [results,Tryz.results90,go_sem,g2x0,g2x1,g2x2,hl2w]) rfl ⟨rfl, ?_⟩
  repeat(first|exact Below.refl _ _|assumption|(with_reducible refine bU ?_)|(with_reducible refine baa ?_ _)|(with_reducible refine bs ?_ (by first|exact Nat.le_refl _|omega|(simp;omega)) _)|(with_reducible refine bt ?_ (by assumption)))
 ·have hk:Cal.kind y=Cal.long y-383:=by unfold Cal.kind;rw [hl];rfl
  have HK:=Lib.hid hk
  rw [hl]at HI
  clear hk hl
  generalize Cal.first y=a at*
  generalize Cal.long y=b at*
  go_enter Tryo.func90,Tryz.ntmps90
  go_wp2_with fail
  refine(HA.out _).mono ?_
  rintro e w1 ⟨rfl,hb1⟩
  obtain⟨hc1,hf1⟩:=aA hb1
  have hz1:=hb1.size
  try simp at hz1
  have hl1w:w.heap.size<w1.heap.size:=by omega
  have hm1w:w.heap.size<=w1.heap.size:=by omega
  have g1x0:w1.cell? ⟨w.heap.size,0,none⟩=some (.int .i64 0):=aH hc1
  have g1x1:w1.cell? ⟨w.heap.size,1,none⟩=some (.int .i64 0):=aH hc1
  have g1x2:w1.cell? ⟨w.heap.size,2,none⟩=some (.bool false):=aH hc1
  go_wp2_with fail
  refine(HF.out _).mono ?_
  rintro e w2 ⟨rfl,hb2⟩
  obtain⟨hc2,hf2⟩:=aA hb2
  have hz2:=hb2.size
  try simp at hz2
  have hl2w:w.heap.size<w2.heap.size:=by omega
  have hm2w:w.heap.size<=w2.heap.size:=by omega
  have g2x0:w2.cell? ⟨w.heap.size,0,none⟩=some (.int .i64 0):=aH hc2
  have g2x1:w2.cell? ⟨w.heap.size,1,none⟩=some (.int .i64 0):=aH hc2
  have g2x2:w2.cell? ⟨w.heap.size,2,none⟩=some (.bool false):=aH hc2
  go_wp2_with fail
  refine(bS a _).mono ?_
  rintro e w' ⟨rfl,rfl⟩
  go_wp2_with fail
  refine(HI.out _).mono ?_
  rintro e w' ⟨rfl,rfl⟩
  go_wp2_with fail
  rw [HK.out]
  refine bodyPost_ret (v:= .tuple #[.agg #[.int .i64 (a % 7),.int .i64 (b-383),.bool true],.int .i64 0]) (by simp [results,Tryz.results90,go_sem,g2x0,g2x1,g2x2,hl2w]) rfl ⟨rfl, ?_⟩
  repeat(first|exact Below.refl _ _|assumption|(with_reducible refine bU ?_)|(with_reducible refine baa ?_ _)|(with_reducible refine bs ?_ (by first|exact Nat.le_refl _|omega|(simp;omega)) _)|(with_reducible refine bt ?_ (by assumption)))
theorem Sk(y:Int)(w:World)(hy:I64 y)(h:y<1∨9999<y):
  Calls Tryo.prog 90 #[.int .i64 (y)] w fun e w'=>e= .returned (.tuple #[.agg #[.int .i64 (0),.int .i64 (0),.bool false],.int .i64 (2)])/\Below w.heap.size w w':=by
 have HA:=Lib.hid (fun w=>Ni y w hy h)
 clear h
 go_enter Tryo.func90,Tryz.ntmps90
 go_wp2_with fail
 refine(HA.out _).mono ?_
 rintro e w1 ⟨rfl,hb1⟩
 obtain⟨hc1,hf1⟩:=aA hb1
 have hz1:=hb1.size
 try simp at hz1
 have hl1w:w.heap.size<w1.heap.size:=by omega
 have hm1w:w.heap.size<=w1.heap.size:=by omega
 have g1x0:w1.cell? ⟨w.heap.size,0,none⟩=some (.int .i64 0):=aH hc1
 have g1x1:w1.cell? ⟨w.heap.size,1,none⟩=some (.int .i64 0):=aH hc1
 have g1x2:w1.cell? ⟨w.heap.size,2,none⟩=some (.bool false):=aH hc1
 go_wp2_with fail
 refine bodyPost_ret (v:= .tuple #[.agg #[.int .i64 0,.int .i64 0,.bool false],.int .i64 2]) (by simp [results,Tryz.results90,go_sem,g1x0,g1x1,g1x2]) rfl ⟨rfl, ?_⟩
 repeat(first|exact Below.refl _ _|assumption|(with_reducible refine bU ?_)|(with_reducible refine baa ?_ _)|(with_reducible refine bs ?_ (by first|exact Nat.le_refl _|omega|(simp;omega)) _)|(with_reducible refine bt ?_ (by assumption)))
end
section
open Go.ChangeShapes Go.WideShapes Go.ChangeAt Go.RowKit
theorem j4(n:Nat)(hn:n<14)(w:World):
  Calls Tryo.prog 242 #[.int .i64 ((n:Int)+1)] w fun e w'=>e= .returned (.tuple #[.agg #[.int .i64 (bn n),.int .i64 (dN n),.bool (dF n)],.bool true])/\Below w.heap.size w w':=by
 match n,hn with
 |0,_=>exact Pk w
 |1,_=>exact Pt w
 |2,_=>exact Pm w
 |3,_=>exact Pw w
 |4,_=>exact Q7 w
 |5,_=>exact P6 w
 |6,_=>exact Qu w
 |7,_=>exact O5 w
 |8,_=>exact RN w
 |9,_=>exact Qs w
 |10,_=>exact NY w
 |11,_=>exact Mj w
 |12,_=>exact LZ w
 |13,_=>exact OX w
theorem o9(b k:Int)(l:Bool)(w:World):
  Calls Tryo.prog 186 #[.agg #[.int .i64 b,.int .i64 k,.bool l]] w fun e w'=>e= .returned (.int .i64 (number b k l))/\Below w.heap.size w w':=by
 go_enter Tryo.func186,Tryz.ntmps186
 go_wp2_with fail
 go_loopw [3] (fun i wr=>∃n:Nat,n<=14/\i= .int .i64 ((n:Int)+1)/\Hid (iV b k l (14-n) n=number b k l)/\wr.cell? ⟨w.heap.size,0,none⟩=some (.int .i64 b)/\wr.cell? ⟨w.heap.size,1,none⟩=some (.int .i64 k)/\wr.cell? ⟨w.heap.size,2,none⟩=some (.bool l)/\w.heap.size<wr.heap.size/\Below w.heap.size w wr) (fun i _=>15-(intOf i).toNat)
 case atStart=>exact⟨0,by omega,rfl,rfl,by simp [go_sem],by simp [go_sem],by simp [go_sem],by simp,ba _ _⟩
 case round=>
  obtain⟨n,hn,rfl,hN,c0,c1,c2,hsz,hB⟩:=hrel
  by_cases hlt:n<14
  ·by_cases e1:bn n=b
   ·obtain rfl:=e1
    by_cases e2:dN n=k
    ·obtain rfl:=e2
     by_cases e3:dF n=l
     ·obtain rfl:=e3
      have hN2:=Lib.hid ((BS _ _ _ n hlt (by unfold rowIs;simp)).symm.trans hN.out)
      clear hN
      go_wp2_with fail
      refine(j4 n hlt _).mono ?_
      rintro e w2 ⟨rfl,hb2⟩
      obtain⟨hc2,hf2⟩:=aA hb2
      have hz2:=hb2.size
      have g0:=(hc2 w.heap.size 0 hsz).trans c0
      have g1:=(hc2 w.heap.size 1 hsz).trans c1
      have g2:=(hc2 w.heap.size 2 hsz).trans c2
      have hsz2:w.heap.size<w2.heap.size:=by omega
      go_wp2_with fail
      go_ret
      exact⟨jk hN2.out,baa (hB.trans (hb2.mono hB.size)) _⟩
     ·have e3':¬ (l=dF n):=fun h=>e3 h.symm
      have hN2:=Lib.hid ((jM _ _ _ n hlt (by unfold rowIs;simp [*])).symm.trans hN.out)
      clear hN
      go_wp2_with fail
      refine(j4 n hlt _).mono ?_
      rintro e w2 ⟨rfl,hb2⟩
      obtain⟨hc2,hf2⟩:=aA hb2
      have hz2:=hb2.size
      have g0:=(hc2 w.heap.size 0 hsz).trans c0
      have g1:=(hc2 w.heap.size 1 hsz).trans c1
      have g2:=(hc2 w.heap.size 2 hsz).trans c2
      have hsz2:w.heap.size<w2.heap.size:=by omega
      go_wp2_with fail
      go_roundw
      case rel=>exact⟨n+1,by omega,by go_num,hN2,by simp [go_sem,g0,hsz2],by simp [go_sem,g1,hsz2],by simp [go_sem,g2,hsz2],by simp;omega,baa (hB.trans (hb2.mono hB.size)) _⟩
      case measure=>simp [intOf];omega
    ·have e2':¬ (k=dN n):=fun h=>e2 h.symm
     have hN2:=Lib.hid ((jM _ _ _ n hlt (by unfold rowIs;simp [*])).symm.trans hN.out)
     clear hN
     go_wp2_with fail
     refine(j4 n hlt _).mono ?_
     rintro e w2 ⟨rfl,hb2⟩
     obtain⟨hc2,hf2⟩:=aA hb2
     have hz2:=hb2.size
     have g0:=(hc2 w.heap.size 0 hsz).trans c0
     have g1:=(hc2 w.heap.size 1 hsz).trans c1
     have g2:=(hc2 w.heap.size 2 hsz).trans c2
     have hsz2:w.heap.size<w2.heap.size:=by omega
     go_wp2_with fail
     go_roundw
     case rel=>exact⟨n+1,by omega,by go_num,hN2,by simp [go_sem,g0,hsz2],by simp [go_sem,g1,hsz2],by simp [go_sem,g2,hsz2],by simp;omega,baa (hB.trans (hb2.mono hB.size)) _⟩
     case measure=>simp [intOf];omega
   ·have e1':¬ (b=bn n):=fun h=>e1 h.symm
    have hN2:=Lib.hid ((jM _ _ _ n hlt (by unfold rowIs;simp [*])).symm.trans hN.out)
    clear hN
    go_wp2_with fail
    refine(j4 n hlt _).mono ?_
    rintro e w2 ⟨rfl,hb2⟩
    obtain⟨hc2,hf2⟩:=aA hb2
    have hz2:=hb2.size
    have g0:=(hc2 w.heap.size 0 hsz).trans c0
    have g1:=(hc2 w.heap.size 1 hsz).trans c1
    have g2:=(hc2 w.heap.size 2 hsz).trans c2
    have hsz2:w.heap.size<w2.heap.size:=by omega
    go_wp2_with fail
    go_roundw
    case rel=>exact⟨n+1,by omega,by go_num,hN2,by simp [go_sem,g0,hsz2],by simp [go_sem,g1,hsz2],by simp [go_sem,g2,hsz2],by simp;omega,baa (hB.trans (hb2.mono hB.size)) _⟩
    case measure=>simp [intOf];omega
  ·go_wp2_with fail
   go_ret
   exact⟨jk (by rw [←hN.out,show n=14 by omega];rfl),hB⟩
namespace Cal
def V3(c:Nat)(lp:Bool):Bool:=or (Nat.beq c 3) (or (Nat.beq c 5) (or (Nat.beq c 7) (or (Nat.beq c (cond lp 12 13)) (or (Nat.beq c 14) (or (Nat.beq c 18) (Nat.beq c 20))))))
def tyN(y:Nat):Bool:=
 qh y fun a=>qh (Nat.succ y) fun b=>force (Nat.mod (Nat.add a 1) 7) fun w=>force (Nat.sub (Nat.sub b a) (cond (lpN y) 383 353)) fun k=>force (Nat.add (Nat.mul 3 w) k) fun c=>and (Nat.ble k 2) (V3 c (lpN y))
theorem tyN1:mR tyN 13 2=true:=by decide+kernel
theorem tyN2:mR tyN 11 8194=true:=by decide+kernel
theorem Yi(y:Nat)(h0:2<=y)(h1:y<=10001):tyN y=true:=by
 by_cases h:y<8194
 ·exact kV _ _ _ tyN1 y h0 (by omega)
 ·exact kV _ _ _ tyN2 y (by omega) (by omega)
theorem Xz(y:Nat)(h0:2<=y)(h1:y<=10001):
  dL (y+1)-dL y-(if lpN y then 383 else 353)<=2/\V3 (3*((dL y+1) % 7)+(dL (y+1)-dL y-(if lpN y then 383 else 353))) (lpN y)=true:=by
 have h:=Yi y h0 h1
 unfold tyN at h
 simp only [J9,force_eq]at h
 rw [Bool.and_eq_true]at h
 obtain⟨h1,h2⟩:=h
 cases hl:lpN y <;> rw [hl]at h1 h2 <;> exact⟨Nat.le_of_ble_eq_true h1,h2⟩
end Cal
theorem QH(y:Int)(h1:1<=y)(h2:y<=9999):∃i:Nat,i<14/\Cal.first y % 7=bn i/\Cal.kind y=dN i/\Cal.leap y=dF i:=by
 by_cases h:y<2
 ·obtain rfl:y=1:=by omega
  exact⟨1,by omega,by decide+kernel,by decide+kernel,by decide+kernel⟩
 ·obtain⟨n,rfl⟩:=Int.eq_ofNat_of_zero_le (show 0<=y by omega)
  obtain⟨hk,hr⟩:=Cal.Xz n (by omega) (by omega)
  have hb:=YS n h1 h2
  unfold Cal.kind Cal.long at hb⊢
  have e:((n:Int)+1)=((n+1:Nat):Int):=by omega
  rw [e,Cal.jP n (by omega),Cal.jP (n+1) (by omega),Cal.FE n]at hb
  rw [e,Cal.jP n (by omega),Cal.jP (n+1) (by omega),Cal.FE n]
  generalize Cal.dL n=a at*
  generalize Cal.dL (n+1)=b at*
  unfold Cal.V3 at hr
  cases hl:Cal.lpN n <;> rw [hl]at hk hr hb <;> simp only [Bool.or_eq_true,Nat.beq_eq,cond_true,cond_false,if_true,if_false,Bool.false_eq_true]at hk hr hb⊢
  ·rcases hr with c|c|c|c|c|c|c
   ·exact⟨0,by omega,by simp only [bn];omega,by simp only [dN];omega,rfl⟩
   ·exact⟨1,by omega,by simp only [bn];omega,by simp only [dN];omega,rfl⟩
   ·exact⟨2,by omega,by simp only [bn];omega,by simp only [dN];omega,rfl⟩
   ·exact⟨3,by omega,by simp only [bn];omega,by simp only [dN];omega,rfl⟩
   ·exact⟨4,by omega,by simp only [bn];omega,by simp only [dN];omega,rfl⟩
   ·exact⟨5,by omega,by simp only [bn];omega,by simp only [dN];omega,rfl⟩
   ·exact⟨6,by omega,by simp only [bn];omega,by simp only [dN];omega,rfl⟩
  ·rcases hr with c|c|c|c|c|c|c
   ·exact⟨7,by omega,by simp only [bn];omega,by simp only [dN];omega,rfl⟩
   ·exact⟨8,by omega,by simp only [bn];omega,by simp only [dN];omega,rfl⟩
   ·exact⟨9,by omega,by simp only [bn];omega,by simp only [dN];omega,rfl⟩
   ·exact⟨10,by omega,by simp only [bn];omega,by simp only [dN];omega,rfl⟩
   ·exact⟨11,by omega,by simp only [bn];omega,by simp only [dN];omega,rfl⟩
   ·exact⟨12,by omega,by simp only [bn];omega,by simp only [dN];omega,rfl⟩
   ·exact⟨13,by omega,by simp only [bn];omega,by simp only [dN];omega,rfl⟩
end
end Go.Proofs.YthnjjcoahdhmnaaGreatDoor
