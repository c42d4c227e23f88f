import Derived.Test.YthpipedifekmpaaGreatDoorJLA
import Derived.Deep.RegionHeld3
import Derived.LoopTactic
import Derived.Deep.QuietTactic
import Derived.BigQuiet
import Derived.Lib.SmallJoins
import Derived.Test.YthpipedifekmpaaGreatDoorJBB
set_option maxHeartbeats 8000000
set_option maxRecDepth 100000
set_option linter.unusedVariables false
section
namespace Go.Proofs.YthpipedifekmpaaGreatDoor
open Go.ChangeShapes Go.WideShapes Go.ChangeAt Go.RowKit
def kevB:Nat->Int
 |0=>1|1=>1|2=>2|3=>4|4=>4|5=>6|6=>6|7=>1|8=>1|9=>2|10=>4|11=>4|12=>6|_=>6
def kevK:Nat->Int
 |0=>0|1=>2|2=>1|3=>1|4=>2|5=>0|6=>2|7=>0|8=>2|9=>1|10=>0|11=>2|12=>0|_=>2
def kevL(i:Nat):Bool:=decide (7<=i)
def Kev(w:World):Prop:=(∀i,i<14->w.cell? ⟨5,i*3,none⟩=some (.int .i64 (kevB i))/\w.cell? ⟨5,i*3+1,none⟩=some (.int .i64 (kevK i))/\w.cell? ⟨5,i*3+2,none⟩=some (.bool (kevL i)))/\5<w.heap.size
theorem Kev.below{a b:World}(h:Kev a)(hb:Below a.heap.size a b):Kev b:=
 ⟨fun i hi=>⟨(hb.cell (p:=⟨_,_,none⟩) h.2).trans (h.1 i hi).1,(hb.cell (p:=⟨_,_,none⟩) h.2).trans (h.1 i hi).2.1,(hb.cell (p:=⟨_,_,none⟩) h.2).trans (h.1 i hi).2.2⟩,Nat.lt_of_lt_of_le h.2 hb.size⟩
theorem bs0{a b:World}(h:Below a.heap.size a b)(o:Nat)(u:Value):Below a.heap.size a (b.setCell ⟨a.heap.size,o,none⟩ u):=h.setCell (Nat.le_refl _) u
end Go.Proofs.YthpipedifekmpaaGreatDoor
end
section
namespace Go.Proofs.YthpipedifekmpaaGreatDoor
open Go.ChangeShapes Go.WideShapes Go.ChangeAt Go.RowKit
def rowIs(b k:Int)(l:Bool)(i:Nat):Bool:=(b==kevB i)&&((k==kevK i)&&(l==kevL i))
def numFrom(b k:Int)(l:Bool):Nat->Nat->Int
 |0,_=>0
 |f+1,i=>if rowIs b k l i then(i:Int)+1 else numFrom b k l f (i+1)
def number(b k:Int)(l:Bool):Int:=numFrom b k l 14 0
def kevCells:List Value:=(List.range 14).flatMap fun i=> [.int .i64 (kevB i),.int .i64 (kevK i),.bool (kevL i)]
def kevArr:Array Value:=kevCells.toArray
theorem kevArr_size:kevArr.size=42:=by kernel_rfl
theorem kev_index(i:Nat)(hi:i<14):∀w:World,(Instr.index 153 (.agg kevArr) (.int .i64 (i:Int))).run Tryo.prog w= .ok (.agg #[.int .i64 (kevB i),.int .i64 (kevK i),.bool (kevL i)]) w:=by
 match i,hi with
 |0,_|1,_|2,_|3,_|4,_|5,_|6,_|7,_|8,_|9,_|10,_|11,_|12,_|13,_=>exact fun _=>by kernel_rfl
attribute [irreducible] kevArr
theorem numFrom_yes(b k:Int)(l:Bool)(n:Nat)(hn:n<14)(h:rowIs b k l n=true):numFrom b k l (14-n) n=(n:Int)+1:=by
 rw [show 14-n=(13-n)+1 by omega,numFrom,if_pos h]
theorem numFrom_no(b k:Int)(l:Bool)(n:Nat)(hn:n<14)(h:rowIs b k l n=false):numFrom b k l (14-n) n=numFrom b k l (14-(n+1)) (n+1):=by
 rw [show 14-n=(13-n)+1 by omega,numFrom,if_neg (by rw [h];exact Bool.false_ne_true),show 14-(n+1)=13-n by omega]
theorem keviah_Number_any(b k:Int)(l:Bool)(w:World)(hT:Tab w 5 kevCells):
  Calls Tryo.prog 81 #[.agg #[.int .i64 b,.int .i64 k,.bool l]] w fun e w'=>e= .returned (.int .i64 (number b k l))/\Below w.heap.size w w':=by
 have hlt0:=hT.lt
 obtain⟨t,hT⟩:=hT
 have hT2:w.heap[5]? =some (.cells kevArr t (0,0)):=by unfold kevArr;exact hT
 have hsz:(Tryo.prog.info? 153).map (·.size)=some kevArr.size:=by rw [kevArr_size];kernel_rfl
 have HT:=Lib.hid hT2
 have HS:=Lib.hid hsz
 clear hT hT2 hsz
 go_enter Tryo.func81,Tryz.ntmps81
 go_wp2_with (refine wpList_load_row rfl 153 _ rfl 5 rfl t kevArr (0,0) _ ((Below.heap_alloc _ _ _ hlt0).trans HT.out) (und_o Tryz.underlying153) rfl HS.out ?_)
 go_loopw [6] (fun i wr=>∃n:Nat,n<=14/\i= .int .i64 n/\Hid (numFrom b k l (14-n) n=number b k l)/\wr.cell? ⟨w.heap.size,0,none⟩=some (.int .i64 b)/\wr.cell? ⟨w.heap.size,1,none⟩=some (.int .i64 k)/\wr.cell? ⟨w.heap.size,2,none⟩=some (.bool l)/\w.heap.size<wr.heap.size/\Below w.heap.size w wr) (fun i _=>14-(intOf i).toNat)
 case atStart=>exact⟨0,by omega,rfl,rfl,by simp [go_sem],by simp [go_sem],by simp [go_sem],by simp,ba _ _⟩
 case round=>
  obtain⟨n,hn,rfl,hN,c0,c1,c2,hsz,hB⟩:=hrel
  by_cases hlt:n<14
  ·have hix:=kev_index n hlt
   by_cases e1:b=kevB n
   ·obtain rfl:=e1
    by_cases e2:k=kevK n
    ·obtain rfl:=e2
     by_cases e3:l=kevL n
     ·obtain rfl:=e3
      have hN2:=Lib.hid ((numFrom_yes _ _ _ n hlt (by unfold rowIs;simp)).symm.trans hN.out)
      clear hN
      go_wp2_with fail
      go_ret
      exact⟨ret_i hN2.out,baa hB _⟩
     ·skip
      have hN2:=Lib.hid ((numFrom_no _ _ _ n hlt (by unfold rowIs;simp [*])).symm.trans hN.out)
      clear hN
      go_wp2_with fail
      go_roundw
      case rel=>exact⟨n+1,by omega,by go_num,hN2,by simp [go_sem,c0,hsz],by simp [go_sem,c1,hsz],by simp [go_sem,c2,hsz],by simp;omega,baa hB _⟩
      case measure=>simp [intOf];omega
    ·skip
     have hN2:=Lib.hid ((numFrom_no _ _ _ n hlt (by unfold rowIs;simp [*])).symm.trans hN.out)
     clear hN
     go_wp2_with fail
     go_roundw
     case rel=>exact⟨n+1,by omega,by go_num,hN2,by simp [go_sem,c0,hsz],by simp [go_sem,c1,hsz],by simp [go_sem,c2,hsz],by simp;omega,baa hB _⟩
     case measure=>simp [intOf];omega
   ·skip
    have hN2:=Lib.hid ((numFrom_no _ _ _ n hlt (by unfold rowIs;simp [*])).symm.trans hN.out)
    clear hN
    go_wp2_with fail
    go_roundw
    case rel=>exact⟨n+1,by omega,by go_num,hN2,by simp [go_sem,c0,hsz],by simp [go_sem,c1,hsz],by simp [go_sem,c2,hsz],by simp;omega,baa hB _⟩
    case measure=>simp [intOf];omega
  ·go_wp2_with fail
   go_ret
   exact⟨ret_i (by rw [←hN.out,show n=14 by omega];rfl),hB⟩
end Go.Proofs.YthpipedifekmpaaGreatDoor
end
section
namespace Go.Proofs.YthpipedifekmpaaGreatDoor
open Go.ChangeShapes Go.WideShapes Go.ChangeAt Go.RowKit
namespace Cal
def yearIn(y:Int):Bool:=decide (1<=y)&&decide (y<=9999)
def yearE(y:Int):Int:=if yearIn y then 0 else 2
def long(y:Int):Int:=first (y+1)-first y
def longV(y:Int):Int:=if yearIn y then long y else 0
def kind(y:Int):Int:=long y-(if leap y then 383 else 353)
def tyB(y:Int):Int:=if yearIn y then first y % 7 else 0
def tyK(y:Int):Int:=if yearIn y then kind y else 0
def tyL(y:Int):Bool:=yearIn y&&leap y
theorem yearIn_yes(y:Int)(h1:1<=y)(h2:y<=9999):yearIn y=true:=by simp [yearIn,h1,h2]
theorem yearIn_no(y:Int)(h:y<1∨9999<y):yearIn y=false:=by
 rw [Bool.eq_false_iff];intro h';simp only [yearIn,Bool.and_eq_true,decide_eq_true_eq]at h';omega
theorem year_ok(y:Int)(h1:1<=y)(h2:y<=9999):yearE y=0/\longV y=long y/\tyB y=first y % 7/\tyK y=kind y/\tyL y=leap y:=by
 simp only [yearE,longV,tyB,tyK,tyL,yearIn_yes y h1 h2,if_true,Bool.true_and];exact⟨trivial,trivial,trivial,trivial,trivial⟩
theorem year_no(y:Int)(h:y<1∨9999<y):yearE y=2/\longV y=0/\tyB y=0/\tyK y=0/\tyL y=false:=by
 simp only [yearE,longV,tyB,tyK,tyL,yearIn_no y h,Bool.false_and,Bool.false_eq_true,if_false];exact⟨trivial,trivial,trivial,trivial,trivial⟩
end Cal
theorem long_bd(y:Int)(h1:1<=y)(h2:y<=9999):353<=Cal.long y/\Cal.long y<=385:=by
 have:=Cal.year_long y (by omega) (by omega)
 unfold Cal.long
 split at this <;> omega
theorem kind_bd(y:Int)(h1:1<=y)(h2:y<=9999):0<=Cal.kind y/\Cal.kind y<=2:=by
 have:=Cal.year_long y (by omega) (by omega)
 unfold Cal.kind Cal.long
 split at this <;> rename_i h <;> simp only [h] <;> simp <;> omega
theorem keviah_ends_ok(y:Int)(w:World)(h1:1<=y)(h2:y<=9999):
  Calls Tryo.prog 78 #[.int .i64 (y)] w fun e w'=>e= .returned (.tuple #[.int .i64 (Cal.first y),.int .i64 (Cal.long y),.int .i64 (0)])/\Below w.heap.size w w':=by
 obtain⟨b1,b2⟩:=first_bd y (by omega) (by omega)
 obtain⟨b3,b4⟩:=first_bd (y+1) (by omega) (by omega)
 have HA:=Lib.hid (fun w=>newyear_First_ok y w (by omega) (by omega))
 have HB:=Lib.hid (fun w=>newyear_First_ok (y+1) w (by omega) (by omega))
 have HL:=Lib.hid (show Cal.long y=Cal.first (y+1)-Cal.first y from rfl)
 generalize Cal.first y=a at*
 generalize Cal.first (y+1)=b at*
 go_enter Tryo.func78,Tryz.ntmps78
 go_wp2_with fail
 refine(HA.out _).mono ?_
 rintro e w1 ⟨rfl,hb1⟩
 obtain⟨hc1,hf1⟩:=bcell hb1
 have hz1:=hb1.size
 try simp at hz1
 go_wp2_with fail
 refine(HB.out _).mono ?_
 rintro e w2 ⟨rfl,hb2⟩
 obtain⟨hc2,hf2⟩:=bcell hb2
 have hz2:=hb2.size
 try simp at hz2
 go_wp2_with fail
 go_ret3
 rw [HL.out]
 exact⟨rfl,bt hb1 hb2⟩
theorem keviah_ends_no(y:Int)(w:World)(hy:I64 y)(h:y<1∨9999<y):
  Calls Tryo.prog 78 #[.int .i64 (y)] w fun e w'=>e= .returned (.tuple #[.int .i64 (0),.int .i64 (0),.int .i64 (2)])/\Below w.heap.size w w':=by
 rcases(show y<1∨(1<=y/\9999<y) by omega)with c|⟨c1,c2⟩
 all_goals clear h
 all_goals go_enter Tryo.func78,Tryz.ntmps78
 all_goals go_wp2_with fail
 all_goals go_ret3
 all_goals exact⟨rfl,Below.refl _ _⟩
theorem keviah_Of_ok(y:Int)(w:World)(h1:1<=y)(h2:y<=9999):
  Calls Tryo.prog 51 #[.int .i64 (y)] w fun e w'=>e= .returned (.tuple #[.agg #[.int .i64 (Cal.first y % 7),.int .i64 (Cal.kind y),.bool (Cal.leap y)],.int .i64 (0)])/\Below w.heap.size w w':=by
 obtain⟨b1,b2⟩:=first_bd y (by omega) (by omega)
 obtain⟨b3,b4⟩:=long_bd y h1 h2
 have HA:=Lib.hid (fun w=>keviah_ends_ok y w h1 h2)
 have HI:=Lib.hid (fun w=>cycle_Leap_ok y w (by omega) (by omega))
 cases hl:Cal.leap y
 ·have hk:Cal.kind y=Cal.long y-353:=by unfold Cal.kind;rw [hl];rfl
  have HK:=Lib.hid hk
  rw [hl]at HI
  clear hk hl
  generalize Cal.first y=a at*
  generalize Cal.long y=b at*
  go_enter Tryo.func51,Tryz.ntmps51
  go_wp2_with fail
  refine(HA.out _).mono ?_
  rintro e w1 ⟨rfl,hb1⟩
  obtain⟨hc1,hf1⟩:=bcell hb1
  have hz1:=hb1.size
  try simp at hz1
  have hl1w:w.heap.size<w1.heap.size:=by omega
  have hm1w:w.heap.size<=w1.heap.size:=by omega
  have g1x0:w1.cell? ⟨w.heap.size,0,none⟩=some (.int .i64 0):=celB hc1
  have g1x1:w1.cell? ⟨w.heap.size,1,none⟩=some (.int .i64 0):=celB hc1
  have g1x2:w1.cell? ⟨w.heap.size,2,none⟩=some (.bool false):=celB hc1
  go_wp2_with fail
  refine(HI.out _).mono ?_
  rintro e w' ⟨rfl,rfl⟩
  go_wp2_with fail
  refine(molad_Weekday a _ (by unfold I64;omega)).mono ?_
  rintro e w' ⟨rfl,rfl⟩
  go_wp2_with fail
  rw [HK.out]
  refine bodyPost_ret (v:= .tuple #[.agg #[.int .i64 (a % 7),.int .i64 (b-353),.bool false],.int .i64 0]) (by simp [results,Tryz.results51,go_sem,g1x0,g1x1,g1x2]) rfl ⟨rfl, ?_⟩
  repeat(first|exact Below.refl _ _|assumption|(with_reducible refine bdrew ?_)|(with_reducible refine baa ?_ _)|(with_reducible refine bs ?_ (by first|exact Nat.le_refl _|omega|(simp;omega)) _)|(with_reducible refine bt ?_ (by assumption)))
 ·have hk:Cal.kind y=Cal.long y-383:=by unfold Cal.kind;rw [hl];rfl
  have HK:=Lib.hid hk
  rw [hl]at HI
  clear hk hl
  generalize Cal.first y=a at*
  generalize Cal.long y=b at*
  go_enter Tryo.func51,Tryz.ntmps51
  go_wp2_with fail
  refine(HA.out _).mono ?_
  rintro e w1 ⟨rfl,hb1⟩
  obtain⟨hc1,hf1⟩:=bcell hb1
  have hz1:=hb1.size
  try simp at hz1
  have hl1w:w.heap.size<w1.heap.size:=by omega
  have hm1w:w.heap.size<=w1.heap.size:=by omega
  have g1x0:w1.cell? ⟨w.heap.size,0,none⟩=some (.int .i64 0):=celB hc1
  have g1x1:w1.cell? ⟨w.heap.size,1,none⟩=some (.int .i64 0):=celB hc1
  have g1x2:w1.cell? ⟨w.heap.size,2,none⟩=some (.bool false):=celB hc1
  go_wp2_with fail
  refine(HI.out _).mono ?_
  rintro e w' ⟨rfl,rfl⟩
  go_wp2_with fail
  refine(molad_Weekday a _ (by unfold I64;omega)).mono ?_
  rintro e w' ⟨rfl,rfl⟩
  go_wp2_with fail
  rw [HK.out]
  refine bodyPost_ret (v:= .tuple #[.agg #[.int .i64 (a % 7),.int .i64 (b-383),.bool true],.int .i64 0]) (by simp [results,Tryz.results51,go_sem,g1x0,g1x1,g1x2]) rfl ⟨rfl, ?_⟩
  repeat(first|exact Below.refl _ _|assumption|(with_reducible refine bdrew ?_)|(with_reducible refine baa ?_ _)|(with_reducible refine bs ?_ (by first|exact Nat.le_refl _|omega|(simp;omega)) _)|(with_reducible refine bt ?_ (by assumption)))
theorem keviah_Of_no(y:Int)(w:World)(hy:I64 y)(h:y<1∨9999<y):
  Calls Tryo.prog 51 #[.int .i64 (y)] w fun e w'=>e= .returned (.tuple #[.agg #[.int .i64 (0),.int .i64 (0),.bool false],.int .i64 (2)])/\Below w.heap.size w w':=by
 have HA:=Lib.hid (fun w=>keviah_ends_no y w hy h)
 clear h
 go_enter Tryo.func51,Tryz.ntmps51
 go_wp2_with fail
 refine(HA.out _).mono ?_
 rintro e w1 ⟨rfl,hb1⟩
 obtain⟨hc1,hf1⟩:=bcell hb1
 have hz1:=hb1.size
 try simp at hz1
 have hl1w:w.heap.size<w1.heap.size:=by omega
 have hm1w:w.heap.size<=w1.heap.size:=by omega
 have g1x0:w1.cell? ⟨w.heap.size,0,none⟩=some (.int .i64 0):=celB hc1
 have g1x1:w1.cell? ⟨w.heap.size,1,none⟩=some (.int .i64 0):=celB hc1
 have g1x2:w1.cell? ⟨w.heap.size,2,none⟩=some (.bool false):=celB hc1
 go_wp2_with fail
 refine bodyPost_ret (v:= .tuple #[.agg #[.int .i64 0,.int .i64 0,.bool false],.int .i64 2]) (by simp [results,Tryz.results51,go_sem,g1x0,g1x1,g1x2]) rfl ⟨rfl, ?_⟩
 repeat(first|exact Below.refl _ _|assumption|(with_reducible refine bdrew ?_)|(with_reducible refine baa ?_ _)|(with_reducible refine bs ?_ (by first|exact Nat.le_refl _|omega|(simp;omega)) _)|(with_reducible refine bt ?_ (by assumption)))
end Go.Proofs.YthpipedifekmpaaGreatDoor
end
section
namespace Go.Proofs.YthpipedifekmpaaGreatDoor
open Go.ChangeShapes Go.WideShapes Go.ChangeAt Go.RowKit
end Go.Proofs.YthpipedifekmpaaGreatDoor
end
section
namespace Go.Proofs.YthpipedifekmpaaGreatDoor
open Go.ChangeShapes Go.WideShapes Go.ChangeAt Go.RowKit
end Go.Proofs.YthpipedifekmpaaGreatDoor
end
section
namespace Go.Proofs.YthpipedifekmpaaGreatDoor
open Go.ChangeShapes Go.WideShapes Go.ChangeAt Go.RowKit
end Go.Proofs.YthpipedifekmpaaGreatDoor
end
section
namespace Go.Proofs.YthpipedifekmpaaGreatDoor
open Go.ChangeShapes Go.WideShapes Go.ChangeAt Go.RowKit
end Go.Proofs.YthpipedifekmpaaGreatDoor
end
section
namespace Go.Proofs.YthpipedifekmpaaGreatDoor
open Go.ChangeShapes Go.WideShapes Go.ChangeAt Go.RowKit
namespace Cal
def rowsN(c:Nat)(lp:Bool):Bool:=or (Nat.beq c 3) (or (Nat.beq c 5) (or (Nat.beq c 7) (or (Nat.beq c (cond lp 12 13)) (or (Nat.beq c 14) (or (Nat.beq c 18) (Nat.beq c 20))))))
def tyN(y:Nat):Bool:=
 firstK y fun a=>firstK (Nat.succ y) fun b=>force (Nat.mod (Nat.add a 1) 7) fun w=>force (Nat.sub (Nat.sub b a) (cond (lpN y) 383 353)) fun k=>force (Nat.add (Nat.mul 3 w) k) fun c=>and (Nat.ble k 2) (rowsN c (lpN y))
theorem tyN1:allUpto tyN 13 2=true:=by decide+kernel
theorem tyN2:allUpto tyN 11 8194=true:=by decide+kernel
theorem tyN_all(y:Nat)(h0:2<=y)(h1:y<=10001):tyN y=true:=by
 by_cases h:y<8194
 ·exact allUpto_spec _ _ _ tyN1 y h0 (by omega)
 ·exact allUpto_spec _ _ _ tyN2 y (by omega) (by omega)
theorem tyN_spec(y:Nat)(h0:2<=y)(h1:y<=10001):
  firstN (y+1)-firstN y-(if lpN y then 383 else 353)<=2/\rowsN (3*((firstN y+1) % 7)+(firstN (y+1)-firstN y-(if lpN y then 383 else 353))) (lpN y)=true:=by
 have h:=tyN_all y h0 h1
 unfold tyN at h
 simp only [firstK_eq,force_eq]at h
 rw [Bool.and_eq_true]at h
 obtain⟨h1,h2⟩:=h
 cases hl:lpN y <;> rw [hl]at h1 h2 <;> exact⟨Nat.le_of_ble_eq_true h1,h2⟩
end Cal
theorem year_row(y:Int)(h1:1<=y)(h2:y<=9999):∃i:Nat,i<14/\Cal.first y % 7=kevB i/\Cal.kind y=kevK i/\Cal.leap y=kevL i:=by
 by_cases h:y<2
 ·obtain rfl:y=1:=by omega
  exact⟨1,by omega,by decide+kernel,by decide+kernel,by decide+kernel⟩
 ·obtain⟨n,rfl⟩:=Int.eq_ofNat_of_zero_le (show 0<=y by omega)
  obtain⟨hk,hr⟩:=Cal.tyN_spec n (by omega) (by omega)
  have hb:=kind_bd n h1 h2
  unfold Cal.kind Cal.long at hb⊢
  have e:((n:Int)+1)=((n+1:Nat):Int):=by omega
  rw [e,Cal.first_nat n (by omega),Cal.first_nat (n+1) (by omega),Cal.lp_nat n]at hb
  rw [e,Cal.first_nat n (by omega),Cal.first_nat (n+1) (by omega),Cal.lp_nat n]
  generalize Cal.firstN n=a at*
  generalize Cal.firstN (n+1)=b at*
  unfold Cal.rowsN at hr
  cases hl:Cal.lpN n <;> rw [hl]at hk hr hb <;> simp only [Bool.or_eq_true,Nat.beq_eq,cond_true,cond_false,if_true,if_false,Bool.false_eq_true]at hk hr hb⊢
  ·rcases hr with c|c|c|c|c|c|c
   ·exact⟨0,by omega,by simp only [kevB];omega,by simp only [kevK];omega,rfl⟩
   ·exact⟨1,by omega,by simp only [kevB];omega,by simp only [kevK];omega,rfl⟩
   ·exact⟨2,by omega,by simp only [kevB];omega,by simp only [kevK];omega,rfl⟩
   ·exact⟨3,by omega,by simp only [kevB];omega,by simp only [kevK];omega,rfl⟩
   ·exact⟨4,by omega,by simp only [kevB];omega,by simp only [kevK];omega,rfl⟩
   ·exact⟨5,by omega,by simp only [kevB];omega,by simp only [kevK];omega,rfl⟩
   ·exact⟨6,by omega,by simp only [kevB];omega,by simp only [kevK];omega,rfl⟩
  ·rcases hr with c|c|c|c|c|c|c
   ·exact⟨7,by omega,by simp only [kevB];omega,by simp only [kevK];omega,rfl⟩
   ·exact⟨8,by omega,by simp only [kevB];omega,by simp only [kevK];omega,rfl⟩
   ·exact⟨9,by omega,by simp only [kevB];omega,by simp only [kevK];omega,rfl⟩
   ·exact⟨10,by omega,by simp only [kevB];omega,by simp only [kevK];omega,rfl⟩
   ·exact⟨11,by omega,by simp only [kevB];omega,by simp only [kevK];omega,rfl⟩
   ·exact⟨12,by omega,by simp only [kevB];omega,by simp only [kevK];omega,rfl⟩
   ·exact⟨13,by omega,by simp only [kevB];omega,by simp only [kevK];omega,rfl⟩
end Go.Proofs.YthpipedifekmpaaGreatDoor
end
