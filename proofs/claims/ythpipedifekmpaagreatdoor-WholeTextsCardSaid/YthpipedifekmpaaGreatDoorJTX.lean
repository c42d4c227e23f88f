import Derived.Test.YthpipedifekmpaaGreatDoorJBB
import Derived.Test.YthpipedifekmpaaGreatDoorJCO
import Derived.LoopTactic
import Derived.Outline
import Derived.Test.YthpipedifekmpaaGreatDoorJHE
set_option maxHeartbeats 8000000
set_option maxRecDepth 100000
set_option linter.unusedVariables false
namespace Go.Proofs.YthpipedifekmpaaGreatDoor
section
open Go.ChangeShapes Go.WideShapes Go.ChangeAt Go.RowKit
def MaxAt(w:World)(m:Int):Prop:=w.cell? ⟨3,0,none⟩=some (.int .i64 m)/\3<w.heap.size
theorem MaxAt.below{a b:World}{m:Int}(h:MaxAt a m)(hb:Below a.heap.size a b):MaxAt b m:=⟨(hb.cell (p:=⟨3,0,none⟩) h.2).trans h.1,Nat.lt_of_lt_of_le h.2 hb.size⟩
end
section
open Go.ChangeShapes Go.WideShapes Go.ChangeAt Go.RowKit
def isDig(b:UInt8):Bool:=decide (48<=b.toNat)&&decide (b.toNat<=57)
def numFold(l:List UInt8):Int:=l.foldl (fun a b=>10*a+((b.toNat:Int)-48)) 0
def numOk(l:List UInt8)(M:Nat):Bool:=decide (l.length=M)&&l.all isDig
def numVal(l:List UInt8)(M:Nat):Int:=if numOk l M then numFold l else 0
theorem numFold_snoc(l:List UInt8)(b:UInt8):numFold (l++ [b])=10*numFold l+((b.toNat:Int)-48):=by simp [numFold]
theorem numFold_bd':∀ (n:Nat) (l:List UInt8),l.length=n->l.all isDig=true->0<=numFold l/\numFold l<10 ^ n
 |0,l,hl,_=>by
  have:l= []:=List.length_eq_zero_iff.1 hl
  subst this
  simp [numFold]
 |n+1,l,hl,h=>by
  have hne:l≠ []:=by rintro rfl;simp at hl
  obtain⟨L,b,rfl⟩:∃L b,l=L++ [b]:=⟨_,_,(List.dropLast_concat_getLast hne).symm⟩
  rw [List.all_append,Bool.and_eq_true]at h
  obtain⟨h1,h2⟩:=h
  have hb:isDig b=true:=by simpa using h2
  unfold isDig at hb
  simp only [Bool.and_eq_true,decide_eq_true_eq]at hb
  obtain⟨i1,i2⟩:=numFold_bd' n L (by simpa using hl) h1
  rw [numFold_snoc,Int.pow_succ]
  omega
theorem numFold_bd(l:List UInt8)(h:l.all isDig=true):0<=numFold l/\numFold l<10 ^ l.length:=numFold_bd' _ l rfl h
theorem take_snoc'(s:ByteArray)(k:Nat)(h:k<s.size):s.data.toList.take (k+1)=s.data.toList.take k++ [s[k]]:=by
 rw [List.take_succ_eq_append_getElem (by simpa using h)];rfl
theorem all_take(s:ByteArray)(k:Nat)(h:k<s.size)(hb:isDig s[k]=false):s.data.toList.all isDig=false:=by
 rw [Bool.eq_false_iff]
 intro hA
 have:=List.all_eq_true.1 hA s[k] (by
  have e:s[k]=s.data.toList[k]'(by simpa using h):=rfl
  rw [e];exact List.getElem_mem _)
 rw [hb]at this
 cases this
end
section
open Go.ChangeShapes Go.WideShapes Go.ChangeAt Go.RowKit
def codeTxt(n:Int)(l:Bool):ByteArray:=
 if l then⟨#[77,UInt8.ofNat (48+n.toNat / 10),UInt8.ofNat (48+n.toNat % 10),76]⟩else⟨#[77,UInt8.ofNat (48+n.toNat / 10),UInt8.ofNat (48+n.toNat % 10)]⟩
def txtV(n:Int)(l:Bool):ByteArray:=if Cal.right n l then codeTxt n l else ByteArray.empty
theorem codeTxt_1:codeTxt 1 false=⟨#[77,48,49]⟩:=rfl
theorem codeTxt_2:codeTxt 2 false=⟨#[77,48,50]⟩:=rfl
theorem codeTxt_3:codeTxt 3 false=⟨#[77,48,51]⟩:=rfl
theorem codeTxt_4:codeTxt 4 false=⟨#[77,48,52]⟩:=rfl
theorem codeTxt_5:codeTxt 5 false=⟨#[77,48,53]⟩:=rfl
theorem codeTxt_6:codeTxt 6 false=⟨#[77,48,54]⟩:=rfl
theorem codeTxt_7:codeTxt 7 false=⟨#[77,48,55]⟩:=rfl
theorem codeTxt_8:codeTxt 8 false=⟨#[77,48,56]⟩:=rfl
theorem codeTxt_9:codeTxt 9 false=⟨#[77,48,57]⟩:=rfl
theorem codeTxt_10:codeTxt 10 false=⟨#[77,49,48]⟩:=rfl
theorem codeTxt_11:codeTxt 11 false=⟨#[77,49,49]⟩:=rfl
theorem codeTxt_12:codeTxt 12 false=⟨#[77,49,50]⟩:=rfl
theorem codeTxt_5L:codeTxt 5 true=⟨#[77,48,53,76]⟩:=rfl
theorem code_Text_any(n:Int)(l:Bool)(w:World):Calls Tryo.prog 13 #[.agg #[.int .i64 n,.bool l]] w fun e w'=>e= .returned (.tuple #[.string (txtV n l),.bool (Cal.right n l)])/\Below w.heap.size w w':=by
 cases h:Cal.right n l
 ·rw [txtV,h,if_neg Bool.false_ne_true]
  exact code_Text_no n l w h
 ·rw [txtV,h,if_pos rfl]
  rcases right_cases n l h with ⟨h1,h2,rfl⟩|⟨rfl,rfl⟩
  ·rcases(show n=1∨n=2∨n=3∨n=4∨n=5∨n=6∨n=7∨n=8∨n=9∨n=10∨n=11∨n=12 by omega)with rfl|rfl|rfl|rfl|rfl|rfl|rfl|rfl|rfl|rfl|rfl|rfl
   ·rw [codeTxt_1];exact code_Text_1 w
   ·rw [codeTxt_2];exact code_Text_2 w
   ·rw [codeTxt_3];exact code_Text_3 w
   ·rw [codeTxt_4];exact code_Text_4 w
   ·rw [codeTxt_5];exact code_Text_5 w
   ·rw [codeTxt_6];exact code_Text_6 w
   ·rw [codeTxt_7];exact code_Text_7 w
   ·rw [codeTxt_8];exact code_Text_8 w
   ·rw [codeTxt_9];exact code_Text_9 w
   ·rw [codeTxt_10];exact code_Text_10 w
   ·rw [codeTxt_11];exact code_Text_11 w
   ·rw [codeTxt_12];exact code_Text_12 w
  ·rw [codeTxt_5L];exact code_Text_5L w
end
section
open Go.ChangeShapes Go.WideShapes Go.ChangeAt Go.RowKit
def powCells:List Value:= [.int .i64 1,.int .i64 10,.int .i64 100,.int .i64 1000]
def digB(n p:Int):Int:=48+n / p % 10
theorem digB_bd(n p:Int):48<=digB n p/\digB n p<=57:=by unfold digB;omega
def digs(n:Int)(ps:List Int):ByteArray:=⟨(ps.map fun p=>UInt8.ofNat (digB n p).toNat).toArray⟩
theorem text_digits_2(n:Int)(h0:0<=n)(h1:n<=9999)(w:World)(hP:Tab w 0 powCells):
  Calls Tryo.prog 14 #[.int .i64 n,.int .i64 2] w fun e w'=>e= .returned (.string (digs n [10,1]))/\Below w.heap.size w w':=by
 have hp0:w.cell? ⟨0,0,none⟩=some (.int .i64 1):=hP.cell 0
 have hp1:w.cell? ⟨0,1,none⟩=some (.int .i64 10):=hP.cell 1
 have hp2:w.cell? ⟨0,2,none⟩=some (.int .i64 100):=hP.cell 2
 have hp3:w.cell? ⟨0,3,none⟩=some (.int .i64 1000):=hP.cell 3
 have hps:=hP.lt
 have hmk:∀w:World,(Instr.makeSlice 81 (.int .i64 2) (.int .i64 2)).run Tryo.prog w= .ok (.slice (some ⟨w.heap.size,0,none⟩) 2 2) (w.alloc (.cells #[.int .u8 0,.int .u8 0] 5)):=fun _=>by kernel_rfl
 go_enter Tryo.func14,Tryz.ntmps14
 go_wp2_with fail
 go_loopw [11] (fun i wr=>∃k:Int,(k=0∨k=1∨k=2)/\i= .int .i64 k/\wr.cell? ⟨w.heap.size,0,none⟩=some (.int .u8 (if 0<k then 48+n / 10 % 10 else 0))/\wr.cell? ⟨w.heap.size,1,none⟩=some (.int .u8 (if 1<k then 48+n % 10 else 0))/\wr.frozen? ⟨w.heap.size,0,none⟩=false/\wr.frozen? ⟨w.heap.size,1,none⟩=false/\w.heap.size<wr.heap.size/\Below w.heap.size w wr) (fun i _=>(2-intOf i).toNat)
 case atStart=>exact⟨0,by omega,rfl,by simp [go_sem],by simp [go_sem],by simp [go_sem],by simp [go_sem],by simp,ba _ _⟩
 case round=>
  obtain⟨k,hk,rfl,c0,c1,f0,f1,hs,hB⟩:=hrel
  have q0:=(hB.cell (p:=⟨0,0,none⟩) hps).trans hp0
  have q1:=(hB.cell (p:=⟨0,1,none⟩) hps).trans hp1
  have q2:=(hB.cell (p:=⟨0,2,none⟩) hps).trans hp2
  have q3:=(hB.cell (p:=⟨0,3,none⟩) hps).trans hp3
  clear hp0 hp1 hp2 hp3 hP
  rcases hk with rfl|rfl|rfl
  ·have d0:wr.cell? ⟨w.heap.size,0,none⟩=some (.int .u8 (0)):=by simpa using c0
   have d1:wr.cell? ⟨w.heap.size,1,none⟩=some (.int .u8 (0)):=by simpa using c1
   clear c0 c1
   have b0:0<=n / 10 % 10:=by omega
   have b1:n / 10 % 10<10:=by omega
   go_wp2_with fail
   go_roundw
   case rel=>exact⟨1,by omega,rfl,by simp [go_sem, *],by simp [go_sem, *],by simp [go_sem, *],by simp [go_sem, *],by simpa [World.setCell]using hs,bs hB (Nat.le_refl _) _⟩
   case measure=>simp [intOf]
  ·have d0:wr.cell? ⟨w.heap.size,0,none⟩=some (.int .u8 (48+n / 10 % 10)):=by simpa using c0
   have d1:wr.cell? ⟨w.heap.size,1,none⟩=some (.int .u8 (0)):=by simpa using c1
   clear c0 c1
   have b0:0<=n / 1 % 10:=by omega
   have b1:n / 1 % 10<10:=by omega
   go_wp2_with fail
   go_roundw
   case rel=>exact⟨2,by omega,rfl,by simp [go_sem, *],by simp [go_sem, *],by simp [go_sem, *],by simp [go_sem, *],by simpa [World.setCell]using hs,bs hB (Nat.le_refl _) _⟩
   case measure=>simp [intOf]
  ·have d0:wr.cell? ⟨w.heap.size,0,none⟩=some (.int .u8 (48+n / 10 % 10)):=by simpa using c0
   have d1:wr.cell? ⟨w.heap.size,1,none⟩=some (.int .u8 (48+n % 10)):=by simpa using c1
   clear c0 c1
   have kc:=run_convert_bytes_arg (P:=Tryo.prog) wr 81 5 (und_o Tryz.underlying81) (und_o Tryz.underlying5) w.heap.size 0 2 2 [48+n / 10 % 10,48+n % 10] rfl (by
    intro i hi
    rcases i with _|_|i
    ·exact d0
    ·exact d1
    ·exact absurd (show i+2<2 from hi) (by omega)) 9 (und_o Tryz.underlying9)
   go_wp2_with fail
   go_ret
   refine⟨?_,hB⟩
   first|rfl|(simp [digs,digB];rfl)|(simp [digs,digB,strOfNums];done)
theorem text_digits_4(n:Int)(h0:0<=n)(h1:n<=9999)(w:World)(hP:Tab w 0 powCells):
  Calls Tryo.prog 14 #[.int .i64 n,.int .i64 4] w fun e w'=>e= .returned (.string (digs n [1000,100,10,1]))/\Below w.heap.size w w':=by
 have hp0:w.cell? ⟨0,0,none⟩=some (.int .i64 1):=hP.cell 0
 have hp1:w.cell? ⟨0,1,none⟩=some (.int .i64 10):=hP.cell 1
 have hp2:w.cell? ⟨0,2,none⟩=some (.int .i64 100):=hP.cell 2
 have hp3:w.cell? ⟨0,3,none⟩=some (.int .i64 1000):=hP.cell 3
 have hps:=hP.lt
 have hmk:∀w:World,(Instr.makeSlice 81 (.int .i64 4) (.int .i64 4)).run Tryo.prog w= .ok (.slice (some ⟨w.heap.size,0,none⟩) 4 4) (w.alloc (.cells #[.int .u8 0,.int .u8 0,.int .u8 0,.int .u8 0] 5)):=fun _=>by kernel_rfl
 go_enter Tryo.func14,Tryz.ntmps14
 go_wp2_with fail
 go_loopw [11] (fun i wr=>∃k:Int,(k=0∨k=1∨k=2∨k=3∨k=4)/\i= .int .i64 k/\wr.cell? ⟨w.heap.size,0,none⟩=some (.int .u8 (if 0<k then 48+n / 1000 % 10 else 0))/\wr.cell? ⟨w.heap.size,1,none⟩=some (.int .u8 (if 1<k then 48+n / 100 % 10 else 0))/\wr.cell? ⟨w.heap.size,2,none⟩=some (.int .u8 (if 2<k then 48+n / 10 % 10 else 0))/\wr.cell? ⟨w.heap.size,3,none⟩=some (.int .u8 (if 3<k then 48+n % 10 else 0))/\wr.frozen? ⟨w.heap.size,0,none⟩=false/\wr.frozen? ⟨w.heap.size,1,none⟩=false/\wr.frozen? ⟨w.heap.size,2,none⟩=false/\wr.frozen? ⟨w.heap.size,3,none⟩=false/\w.heap.size<wr.heap.size/\Below w.heap.size w wr) (fun i _=>(4-intOf i).toNat)
 case atStart=>exact⟨0,by omega,rfl,by simp [go_sem],by simp [go_sem],by simp [go_sem],by simp [go_sem],by simp [go_sem],by simp [go_sem],by simp [go_sem],by simp [go_sem],by simp,ba _ _⟩
 case round=>
  obtain⟨k,hk,rfl,c0,c1,c2,c3,f0,f1,f2,f3,hs,hB⟩:=hrel
  have q0:=(hB.cell (p:=⟨0,0,none⟩) hps).trans hp0
  have q1:=(hB.cell (p:=⟨0,1,none⟩) hps).trans hp1
  have q2:=(hB.cell (p:=⟨0,2,none⟩) hps).trans hp2
  have q3:=(hB.cell (p:=⟨0,3,none⟩) hps).trans hp3
  clear hp0 hp1 hp2 hp3 hP
  rcases hk with rfl|rfl|rfl|rfl|rfl
  ·have d0:wr.cell? ⟨w.heap.size,0,none⟩=some (.int .u8 (0)):=by simpa using c0
   have d1:wr.cell? ⟨w.heap.size,1,none⟩=some (.int .u8 (0)):=by simpa using c1
   have d2:wr.cell? ⟨w.heap.size,2,none⟩=some (.int .u8 (0)):=by simpa using c2
   have d3:wr.cell? ⟨w.heap.size,3,none⟩=some (.int .u8 (0)):=by simpa using c3
   clear c0 c1 c2 c3
   have b0:0<=n / 1000 % 10:=by omega
   have b1:n / 1000 % 10<10:=by omega
   go_wp2_with fail
   go_roundw
   case rel=>exact⟨1,by omega,rfl,by simp [go_sem, *],by simp [go_sem, *],by simp [go_sem, *],by simp [go_sem, *],by simp [go_sem, *],by simp [go_sem, *],by simp [go_sem, *],by simp [go_sem, *],by simpa [World.setCell]using hs,bs hB (Nat.le_refl _) _⟩
   case measure=>simp [intOf]
  ·have d0:wr.cell? ⟨w.heap.size,0,none⟩=some (.int .u8 (48+n / 1000 % 10)):=by simpa using c0
   have d1:wr.cell? ⟨w.heap.size,1,none⟩=some (.int .u8 (0)):=by simpa using c1
   have d2:wr.cell? ⟨w.heap.size,2,none⟩=some (.int .u8 (0)):=by simpa using c2
   have d3:wr.cell? ⟨w.heap.size,3,none⟩=some (.int .u8 (0)):=by simpa using c3
   clear c0 c1 c2 c3
   have b0:0<=n / 100 % 10:=by omega
   have b1:n / 100 % 10<10:=by omega
   go_wp2_with fail
   go_roundw
   case rel=>exact⟨2,by omega,rfl,by simp [go_sem, *],by simp [go_sem, *],by simp [go_sem, *],by simp [go_sem, *],by simp [go_sem, *],by simp [go_sem, *],by simp [go_sem, *],by simp [go_sem, *],by simpa [World.setCell]using hs,bs hB (Nat.le_refl _) _⟩
   case measure=>simp [intOf]
  ·have d0:wr.cell? ⟨w.heap.size,0,none⟩=some (.int .u8 (48+n / 1000 % 10)):=by simpa using c0
   have d1:wr.cell? ⟨w.heap.size,1,none⟩=some (.int .u8 (48+n / 100 % 10)):=by simpa using c1
   have d2:wr.cell? ⟨w.heap.size,2,none⟩=some (.int .u8 (0)):=by simpa using c2
   have d3:wr.cell? ⟨w.heap.size,3,none⟩=some (.int .u8 (0)):=by simpa using c3
   clear c0 c1 c2 c3
   have b0:0<=n / 10 % 10:=by omega
   have b1:n / 10 % 10<10:=by omega
   go_wp2_with fail
   go_roundw
   case rel=>exact⟨3,by omega,rfl,by simp [go_sem, *],by simp [go_sem, *],by simp [go_sem, *],by simp [go_sem, *],by simp [go_sem, *],by simp [go_sem, *],by simp [go_sem, *],by simp [go_sem, *],by simpa [World.setCell]using hs,bs hB (Nat.le_refl _) _⟩
   case measure=>simp [intOf]
  ·have d0:wr.cell? ⟨w.heap.size,0,none⟩=some (.int .u8 (48+n / 1000 % 10)):=by simpa using c0
   have d1:wr.cell? ⟨w.heap.size,1,none⟩=some (.int .u8 (48+n / 100 % 10)):=by simpa using c1
   have d2:wr.cell? ⟨w.heap.size,2,none⟩=some (.int .u8 (48+n / 10 % 10)):=by simpa using c2
   have d3:wr.cell? ⟨w.heap.size,3,none⟩=some (.int .u8 (0)):=by simpa using c3
   clear c0 c1 c2 c3
   have b0:0<=n / 1 % 10:=by omega
   have b1:n / 1 % 10<10:=by omega
   go_wp2_with fail
   go_roundw
   case rel=>exact⟨4,by omega,rfl,by simp [go_sem, *],by simp [go_sem, *],by simp [go_sem, *],by simp [go_sem, *],by simp [go_sem, *],by simp [go_sem, *],by simp [go_sem, *],by simp [go_sem, *],by simpa [World.setCell]using hs,bs hB (Nat.le_refl _) _⟩
   case measure=>simp [intOf]
  ·have d0:wr.cell? ⟨w.heap.size,0,none⟩=some (.int .u8 (48+n / 1000 % 10)):=by simpa using c0
   have d1:wr.cell? ⟨w.heap.size,1,none⟩=some (.int .u8 (48+n / 100 % 10)):=by simpa using c1
   have d2:wr.cell? ⟨w.heap.size,2,none⟩=some (.int .u8 (48+n / 10 % 10)):=by simpa using c2
   have d3:wr.cell? ⟨w.heap.size,3,none⟩=some (.int .u8 (48+n % 10)):=by simpa using c3
   clear c0 c1 c2 c3
   have kc:=run_convert_bytes_arg (P:=Tryo.prog) wr 81 5 (und_o Tryz.underlying81) (und_o Tryz.underlying5) w.heap.size 0 4 4 [48+n / 1000 % 10,48+n / 100 % 10,48+n / 10 % 10,48+n % 10] rfl (by
    intro i hi
    rcases i with _|_|_|_|i
    ·exact d0
    ·exact d1
    ·exact d2
    ·exact d3
    ·exact absurd (show i+4<4 from hi) (by omega)) 9 (und_o Tryz.underlying9)
   go_wp2_with fail
   go_ret
   refine⟨?_,hB⟩
   first|rfl|(simp [digs,digB];rfl)|(simp [digs,digB,strOfNums];done)
end
section
open Go.ChangeShapes Go.WideShapes Go.ChangeAt Go.RowKit
theorem text_Heb_err(y n:Int)(l:Bool)(d:Int)(w:World)(hy:I64 y)(hT:Tab w 5 kevCells)(hL:Tab w 4 lenCells)(hP:Tab w 0 powCells)(h0:¬ D10.dateE y n l d=0):
  Calls Tryo.prog 5 #[.agg #[.int .i64 (y),.int .i64 (n),.bool (l),.int .i64 (d)]] w fun e w'=>e= .returned (.tuple #[.string ByteArray.empty,.int .i64 (D10.dateE y n l d)])/\Below w.heap.size w w':=by
 have HC:=Lib.hid (fun w hT hL=>heb_Check y n l d w hy hT hL)
 have h1:(D10.dateE y n l d !=0)=true:=by simpa using h0
 clear h0
 generalize D10.dateE y n l d=de at*
 go_enter Tryo.func5,Tryz.ntmps5
 go_wp2_with fail
 refine(HC.out _ (Tab.below hT bel) (Tab.below hL bel)).mono ?_
 rintro e w1 ⟨rfl,hb1⟩
 obtain⟨hc1,hf1⟩:=bcell hb1
 have hz1:=hb1.size
 try simp at hz1
 have hs1x0:w.heap.size<w1.heap.size:=by omega
 have g1x0:w1.cell? ⟨w.heap.size,0,none⟩=some (.int .i64 y):=cel hc1
 have g1x1:w1.cell? ⟨w.heap.size,1,none⟩=some (.int .i64 n):=cel hc1
 have g1x2:w1.cell? ⟨w.heap.size,2,none⟩=some (.bool l):=cel hc1
 have g1x3:w1.cell? ⟨w.heap.size,3,none⟩=some (.int .i64 d):=cel hc1
 go_wp2_with fail
 go_ret2
 refine⟨rfl, ?_⟩
 exact bel
def hebTxt(y n:Int)(l:Bool)(d:Int):ByteArray:=digs y [1000,100,10,1]++⟨#[45]⟩++txtV n l++⟨#[45]⟩++digs d [10,1]
theorem text_Heb_ok(y n:Int)(l:Bool)(d:Int)(w:World)(hy:I64 y)(hT:Tab w 5 kevCells)(hL:Tab w 4 lenCells)(hP:Tab w 0 powCells)(h0:D10.dateE y n l d=0):
  Calls Tryo.prog 5 #[.agg #[.int .i64 (y),.int .i64 (n),.bool (l),.int .i64 (d)]] w fun e w'=>e= .returned (.tuple #[.string (hebTxt y n l d),.int .i64 0])/\Below w.heap.size w w':=by
 have HC:=Lib.hid (fun w hT hL=>heb_Check y n l d w hy hT hL)
 obtain⟨hv,hp⟩:=D10.date_valid h0
 obtain⟨y1,y2,m1,m2,d1,d2⟩:=hv
 have db:=D10.len_bd y _ y1 y2 m1 m2
 have HM:=Lib.hid (fun w=>code_Text_any n l w)
 have HY:=Lib.hid (fun w hP=>text_digits_4 y (by omega) (by omega) w hP)
 have HD:=Lib.hid (fun w hP=>text_digits_2 d (by omega) (by omega) w hP)
 rw [h0]at HC
 have sz:(txtV n l).size<=4:=by unfold txtV codeTxt;split;split;all_goals(first|decide|exact Nat.le_of_ble_eq_true rfl|simp [ByteArray.size])
 have s4:(digs y [1000,100,10,1]).size<=4:=by simp [digs,ByteArray.size]
 have s2:(digs d [10,1]).size<=2:=by simp [digs,ByteArray.size]
 clear m1 m2 d1 d2 db hp h0
 unfold hebTxt
 generalize txtV n l=tm at*
 generalize Cal.right n l=rr at*
 generalize digs y [1000,100,10,1]=ty at*
 generalize digs d [10,1]=td at*
 go_enter Tryo.func5,Tryz.ntmps5
 go_wp2_with fail
 refine(HC.out _ (Tab.below hT bel) (Tab.below hL bel)).mono ?_
 rintro e w1 ⟨rfl,hb1⟩
 obtain⟨hc1,hf1⟩:=bcell hb1
 have hz1:=hb1.size
 try simp at hz1
 have hs1x0:w.heap.size<w1.heap.size:=by omega
 have g1x0:w1.cell? ⟨w.heap.size,0,none⟩=some (.int .i64 y):=cel hc1
 have g1x1:w1.cell? ⟨w.heap.size,1,none⟩=some (.int .i64 n):=cel hc1
 have g1x2:w1.cell? ⟨w.heap.size,2,none⟩=some (.bool l):=cel hc1
 have g1x3:w1.cell? ⟨w.heap.size,3,none⟩=some (.int .i64 d):=cel hc1
 go_wp2_with fail
 refine(HM.out _).mono ?_
 rintro e w2 ⟨rfl,hb2⟩
 obtain⟨hc2,hf2⟩:=bcell hb2
 have hz2:=hb2.size
 try simp at hz2
 have hs2x0:w.heap.size<w2.heap.size:=by omega
 have g2x0:w2.cell? ⟨w.heap.size,0,none⟩=some (.int .i64 y):=cel hc2
 have g2x1:w2.cell? ⟨w.heap.size,1,none⟩=some (.int .i64 n):=cel hc2
 have g2x2:w2.cell? ⟨w.heap.size,2,none⟩=some (.bool l):=cel hc2
 have g2x3:w2.cell? ⟨w.heap.size,3,none⟩=some (.int .i64 d):=cel hc2
 go_wp2_with fail
 have hW2:Below w.heap.size w w2:=bel
 refine wp_region_class (by kernel_rfl) (by kernel_rfl) (fun hall=> ?_)
 repeat(first|go_big_quiet_skip|(go_big_quiet_want;first|(refine quiet_load1 _ _ _ rfl rfl ?_ ?_ ?_;(focus (intro _;simp;done));(focus (first|assumption|omega|(simp;done)|(simp;omega)));apply Exists.intro;refine⟨?_, ?_⟩;assumption;go_simp;go_big_quiet_on)|(refine quiet_load2 _ _ _ _ rfl rfl ?_ ?_ ?_ ?_;(focus (intro _;simp;done));(focus (intro _;simp;done));(focus (first|assumption|omega|(simp;done)|(simp;omega)));apply Exists.intro;apply Exists.intro;refine⟨?_, ?_, ?_⟩;assumption;assumption;go_simp;go_big_quiet_on)|(refine quiet_load3 _ _ _ _ rfl rfl ?_ ?_ ?_ ?_;(focus (intro _;simp;done));(focus (intro _;simp;done));(focus (first|assumption|omega|(simp;done)|(simp;omega)));apply Exists.intro;apply Exists.intro;apply Exists.intro;refine⟨?_, ?_, ?_, ?_⟩;assumption;assumption;assumption;go_simp;go_big_quiet_on)|(refine quiet_load4 _ _ _ _ rfl rfl ?_ ?_ ?_ ?_;(focus (intro _;simp;done));(focus (intro _;simp;done));(focus (first|assumption|omega|(simp;done)|(simp;omega)));apply Exists.intro;apply Exists.intro;apply Exists.intro;apply Exists.intro;refine⟨?_, ?_, ?_, ?_, ?_⟩;assumption;assumption;assumption;assumption;go_simp;go_big_quiet_on)|(go_big_quiet_op;first|go_big_quiet_on|(apply Exists.intro;refine⟨fun x hx=> ?_, ?_⟩;(first|(with_reducible exact call_below hx (HY.out x (Tab.below hP (bt hW2 hx))))|(with_reducible exact call_below hx (HD.out x (Tab.below hP (bt hW2 hx))))|exact call_below hx (HY.out x (Tab.below hP (bt hW2 hx)))|exact call_below hx (HD.out x (Tab.below hP (bt hW2 hx))));go_big_quiet_on))))
 refine wpQuiet_nil ?_
 clear hall
 intro x3 hx3
 go_wp2_with fail
 go_ret2
 exact⟨rfl,bt hW2 hx3⟩
def hebV(y n:Int)(l:Bool)(d:Int):ByteArray:=if D10.dateE y n l d=0 then hebTxt y n l d else ByteArray.empty
theorem text_Heb(y n:Int)(l:Bool)(d:Int)(w:World)(hy:I64 y)(hT:Tab w 5 kevCells)(hL:Tab w 4 lenCells)(hP:Tab w 0 powCells):
  Calls Tryo.prog 5 #[.agg #[.int .i64 (y),.int .i64 (n),.bool (l),.int .i64 (d)]] w fun e w'=>e= .returned (.tuple #[.string (hebV y n l d),.int .i64 (D10.dateE y n l d)])/\Below w.heap.size w w':=by
 unfold hebV
 by_cases h0:D10.dateE y n l d=0
 ·rw [if_pos h0,h0];exact text_Heb_ok y n l d w hy hT hL hP h0
 ·rw [if_neg h0];exact text_Heb_err y n l d w hy hT hL hP h0
end
end Go.Proofs.YthpipedifekmpaaGreatDoor
