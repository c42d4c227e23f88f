import Derived.Test.YthpipedifekmpaaGreatDoorJLibS
import Derived.Test.YthpipedifekmpaaGreatDoorJTX
import Derived.Test.YthpipedifekmpaaGreatDoorJBB
import Derived.LoopTactic
import Derived.RegionTactic
import Derived.Outline
import Derived.Lib.Replace
import Derived.Lib.CountLaws
import Derived.Test.YthpipedifekmpaaGreatDoorJG1
import Derived.Test.YthpipedifekmpaaGreatDoorJHR
set_option maxHeartbeats 8000000
set_option maxRecDepth 100000
set_option linter.unusedVariables false
section
namespace Go.Proofs.YthpipedifekmpaaGreatDoor
open Go.ChangeShapes Go.WideShapes Go.ChangeAt Go.RowKit
theorem text_number_no(s:ByteArray)(M:Int)(w:World)(hs:s.size<=9223372036854775807)(h:((s.size:Int)!=M)=true):
  Calls Tryo.prog 19 #[.string s,.int .i64 M] w fun e w'=>e= .returned (.tuple #[.int .i64 0,.bool false])/\w=w':=by
 go_enter Tryo.func19,Tryz.ntmps19
 go_wp2_with fail
 go_ret2
 exact⟨rfl,rfl⟩
theorem text_number_go(s:ByteArray)(w:World)(hs:s.size<=4):
  Calls Tryo.prog 19 #[.string s,.int .i64 s.size] w fun e w'=>e= .returned (.tuple #[.int .i64 (numVal s.data.toList s.size),.bool (numOk s.data.toList s.size)])/\w=w':=by
 have hlen:s.data.toList.length=s.size:=by simp
 have HOk:=Lib.hid (show numOk s.data.toList s.size=s.data.toList.all isDig by unfold numOk;rw [hlen];simp)
 have HV:=Lib.hid (show numVal s.data.toList s.size=if s.data.toList.all isDig then numFold s.data.toList else 0 by unfold numVal;rw [HOk.out])
 generalize hvv:numVal s.data.toList s.size=vv at HV
 generalize hoo:numOk s.data.toList s.size=oo at HOk
 clear hlen hvv hoo
 go_enter Tryo.func19,Tryz.ntmps19
 go_wp2_with fail
 go_loop [6,13] (fun n i=>∃k:Nat,k<=s.size/\i= .int .i64 k/\n= .int .i64 (numFold (s.data.toList.take k))/\Hid ((s.data.toList.take k).all isDig=true)) (fun _ i=>s.size-(intOf i).toNat)
 case atStart=>exact⟨0,Nat.zero_le _,rfl,rfl,Lib.hid rfl⟩
 case round=>
  obtain⟨k,hk,rfl,rfl,hA⟩:=hrel
  have hbd:=numFold_bd _ hA.out
  have hlt4:(s.data.toList.take k).length<=k:=List.length_take_le _ _
  by_cases hlt:k<s.size
  ·have hpow:(10:Int) ^ (s.data.toList.take k).length<=1000:=by
    rcases(show(s.data.toList.take k).length=0∨(s.data.toList.take k).length=1∨(s.data.toList.take k).length=2∨(s.data.toList.take k).length=3 by omega)with h|h|h|h <;> rw [h] <;> decide
   have hF0:=hbd.1
   have hF1:numFold (s.data.toList.take k)<1000:=by omega
   have hsn:=numFold_snoc (s.data.toList.take k) s[k]
   rw [←take_snoc' s k hlt]at hsn
   have hall:isDig s[k]=true->(s.data.toList.take (k+1)).all isDig=true:=fun h=>by rw [take_snoc' s k hlt,List.all_append,hA.out];simpa using h
   have hno:=all_take s k hlt
   have HS:=Lib.hid (And.intro hsn (And.intro hall hno))
   clear hsn hall hno hbd hpow hlt4
   by_cases h48:48<=(s[k].toNat:Int)
   ·by_cases h57:(s[k].toNat:Int)<=57
    ·have hdig:isDig s[k]=true:=by unfold isDig;simp;omega
     have HD:=Lib.hid hdig
     clear hdig
     go_wp2_with fail
     go_round
     case rel=>exact⟨k+1,by omega,by go_num,by rw [HS.out.1],Lib.hid (HS.out.2.1 HD.out)⟩
     case measure=>simp [intOf];omega
    ·have hf:isDig s[k]=false:=by unfold isDig;simp;omega
     have e:=HS.out.2.2 hf
     have ev:vv=0:=by rw [HV.out,e];rfl
     have eo:oo=false:=by rw [HOk.out,e]
     clear e hf
     subst ev
     subst eo
     go_wp2_with fail
     go_ret2
     exact⟨rfl,rfl⟩
   ·have hf:isDig s[k]=false:=by unfold isDig;simp;omega
    have e:=HS.out.2.2 hf
    have ev:vv=0:=by rw [HV.out,e];rfl
    have eo:oo=false:=by rw [HOk.out,e]
    clear e hf
    subst ev
    subst eo
    go_wp2_with fail
    go_ret2
    exact⟨rfl,rfl⟩
  ·obtain rfl:k=s.size:=by omega
   have ht:s.data.toList.take s.size=s.data.toList:=List.take_of_length_le (by simp)
   rw [ht]at hA hbd⊢
   have ev:vv=numFold s.data.toList:=by rw [HV.out,hA.out];rfl
   have eo:oo=true:=by rw [HOk.out,hA.out]
   clear ht hbd hlt4
   subst ev
   subst eo
   go_wp2_with fail
   go_ret2
   exact⟨rfl,rfl⟩
theorem text_number(s:ByteArray)(M:Nat)(w:World)(hM:M<=4)(hs:s.size<=9223372036854775807):
  Calls Tryo.prog 19 #[.string s,.int .i64 M] w fun e w'=>e= .returned (.tuple #[.int .i64 (numVal s.data.toList M),.bool (numOk s.data.toList M)])/\w=w':=by
 by_cases h:s.size=M
 ·subst h;exact text_number_go s w hM
 ·have hl:¬ s.data.toList.length=M:=by simpa using h
  have e:numOk s.data.toList M=false:=by unfold numOk;rw [decide_eq_false hl];rfl
  rw [show numVal s.data.toList M=0 by unfold numVal;rw [e];rfl,e]
  exact text_number_no s M w hs (by simp;omega)
def cutA(s:ByteArray):ByteArray:=if Go.Lib.lastIndexByte s 45<0 then ByteArray.empty else s.extract 0 (Go.Lib.lastIndexByte s 45).toNat
def cutB(s:ByteArray):ByteArray:=if Go.Lib.lastIndexByte s 45<0 then s else s.extract ((Go.Lib.lastIndexByte s 45).toNat+1) s.size
theorem text_cutLast(s:ByteArray)(w:World)(hs:s.size<=1000000):
  Calls Tryo.prog 41 #[.string s] w fun e w'=>e= .returned (.tuple #[.string (cutA s),.string (cutB s)])/\Below w.heap.size w w':=by
 have HL:=Lib.hid (fun w=>Tryz.strings_LastIndex_one s ⟨#[45]⟩ rfl (by omega) w)
 by_cases h:Go.Lib.lastIndexByte s 45<0
 ·unfold cutA cutB
  rw [if_pos h,if_pos h]
  have HL1:∀w:World,Calls Tryo.prog 22 #[.string s,.string ⟨#[45]⟩] w (fun e w'=>e= .returned (.int .i64 (Go.Lib.lastIndexByte s 45))/\w'=w):=fun w=>HL.out w
  have HL2:=Lib.hid HL1
  clear HL1
  clear HL
  generalize Go.Lib.lastIndexByte s 45=i at*
  go_enter Tryo.func41,Tryz.ntmps41
  go_wp2_with fail
  refine(HL2.out _).mono ?_
  rintro e w' ⟨rfl,rfl⟩
  go_wp2_with fail
  go_ret2
  exact⟨rfl,Below.refl _ _⟩
 ·unfold cutA cutB
  rw [if_neg h,if_neg h]
  have HL1:∀w:World,Calls Tryo.prog 22 #[.string s,.string ⟨#[45]⟩] w (fun e w'=>e= .returned (.int .i64 (Go.Lib.lastIndexByte s 45))/\w'=w):=fun w=>HL.out w
  have HL2:=Lib.hid HL1
  clear HL1
  clear HL
  have hb:∃k:Nat,k<s.size/\Go.Lib.lastIndexByte s 45=(k:Int):=by
   rcases Go.Lib.lastIndexByte_spec s 45 with ⟨e,_⟩|⟨i,hi,e,_⟩
   ·rw [e]at h;omega
   ·exact⟨i,hi,e⟩
  obtain⟨k,hk,e⟩:=hb
  rw [e]at HL2⊢
  have k0:(0:Int)<=(k:Int):=by omega
  have k1:(k:Int)<(s.size:Int):=by omega
  have k2:(k:Int)+1<=(s.size:Int):=by omega
  clear e h
  rw [Int.toNat_natCast]
  go_enter Tryo.func41,Tryz.ntmps41
  go_wp2_with fail
  refine(HL2.out _).mono ?_
  rintro e w' ⟨rfl,rfl⟩
  go_wp2_with fail
  go_region
  all_goals go_wp2_with fail
  all_goals go_ret2
  all_goals exact⟨rfl,bdrew (Below.refl _ _)⟩
theorem cutA_size(s:ByteArray):(cutA s).size<=s.size:=by
 unfold cutA
 split
 ·exact Nat.zero_le _
 ·simp;omega
theorem text_part(s:ByteArray)(w:World)(hs:s.size<=1000000):
  Calls Tryo.prog 18 #[.string s] w fun e w'=>e= .returned (.tuple #[.string (cutA (cutA s)),.string (cutB (cutA s)),.string (cutB s)])/\Below w.heap.size w w':=by
 have h2:=cutA_size s
 have H1:=Lib.hid (fun w=>text_cutLast s w hs)
 have H2:=Lib.hid (fun w=>text_cutLast (cutA s) w (by omega))
 clear h2
 generalize cutA (cutA s)=x at*
 generalize cutB (cutA s)=y at*
 generalize cutA s=a at*
 generalize cutB s=b at*
 go_enter Tryo.func18,Tryz.ntmps18
 go_wp2_with fail
 refine(H1.out _).mono ?_
 rintro e w1 ⟨rfl,hb1⟩
 obtain⟨hc1,hf1⟩:=bcell hb1
 have hz1:=hb1.size
 try simp at hz1
 go_wp2_with fail
 refine(H2.out _).mono ?_
 rintro e w2 ⟨rfl,hb2⟩
 obtain⟨hc2,hf2⟩:=bcell hb2
 have hz2:=hb2.size
 try simp at hz2
 go_wp2_with fail
 go_ret3
 refine⟨rfl, ?_⟩
 exact bel
end Go.Proofs.YthpipedifekmpaaGreatDoor
end
section
namespace Go.Proofs.YthpipedifekmpaaGreatDoor
open Go.ChangeShapes Go.WideShapes Go.ChangeAt Go.RowKit
theorem str_ne{a b:ByteArray}(h:a≠b):(a.toList==b.toList)=false:=by
 rw [beq_eq_false_iff_ne]
 intro e
 apply h
 rw [ByteArray.toList_eq,ByteArray.toList_eq]at e
 cases a;cases b
 congr 1
 exact Array.toList_inj.1 e
def IsCode(s:ByteArray)(n:Int)(l:Bool)(ok:Bool):Prop:=(ok=true/\Cal.right n l=true/\codeTxt n l=s)∨(ok=false/\n=0/\l=false/\∀n' l',Cal.right n' l'=true->codeTxt n' l'≠s)
theorem isCode_some(s:ByteArray):∃n l ok,IsCode s n l ok:=by
 by_cases h:∃n l,Cal.right n l=true/\codeTxt n l=s
 ·obtain⟨n,l,h1,h2⟩:=h
  exact⟨n,l,true,.inl ⟨rfl,h1,h2⟩⟩
 ·exact⟨0,false,false,.inr ⟨rfl,rfl,rfl,fun n' l' h1 h2=>h ⟨n',l',h1,h2⟩⟩⟩
theorem code_Read_yes(n:Int)(l:Bool)(w:World)(h:Cal.right n l=true):Calls Tryo.prog 20 #[.string (codeTxt n l)] w fun e w'=>e= .returned (.tuple #[.agg #[.int .i64 n,.bool l],.bool true])/\Below w.heap.size w w':=by
 rcases right_cases n l h with ⟨h1,h2,rfl⟩|⟨rfl,rfl⟩
 ·rcases(show n=1∨n=2∨n=3∨n=4∨n=5∨n=6∨n=7∨n=8∨n=9∨n=10∨n=11∨n=12 by omega)with rfl|rfl|rfl|rfl|rfl|rfl|rfl|rfl|rfl|rfl|rfl|rfl
  ·exact code_Read_1 w
  ·exact code_Read_2 w
  ·exact code_Read_3 w
  ·exact code_Read_4 w
  ·exact code_Read_5 w
  ·exact code_Read_6 w
  ·exact code_Read_7 w
  ·exact code_Read_8 w
  ·exact code_Read_9 w
  ·exact code_Read_10 w
  ·exact code_Read_11 w
  ·exact code_Read_12 w
 ·exact code_Read_5L w
theorem code_Read_no(s:ByteArray)(w:World)(h100:s.size<=1000000)(hno:∀n' l',Cal.right n' l'=true->codeTxt n' l'≠s):
  Calls Tryo.prog 20 #[.string s] w fun e w'=>e= .returned (.tuple #[.agg #[.int .i64 0,.bool false],.bool false])/\Below w.heap.size w w':=by
 have HNO:=Lib.hid hno
 clear hno
 by_cases h3:3<=s.size
 ·have i1:1<s.size:=by omega
  have i2:2<s.size:=by omega
  obtain⟨b1,x1⟩:∃b:Nat,(s[1]'i1).toNat=b:=⟨_,rfl⟩
  obtain⟨b2,x2⟩:∃b:Nat,(s[2]'i2).toNat=b:=⟨_,rfl⟩
  have q1:b1<256:=by rw [←x1];exact UInt8.toNat_lt _
  have q2:b2<256:=by rw [←x2];exact UInt8.toNat_lt _
  obtain⟨d1,y1⟩:∃d:Int,IntKind.u8.wrap ((b1:Int)-48)=d:=⟨_,rfl⟩
  obtain⟨d2,y2⟩:∃d:Int,IntKind.u8.wrap ((b2:Int)-48)=d:=⟨_,rfl⟩
  have k1:0<=d1/\d1<=255:=by rw [←y1,IntKind.wrap_u8];omega
  have k2:0<=d2/\d2<=255:=by rw [←y2,IntKind.wrap_u8];omega
  obtain⟨k3,k4⟩:=k1
  obtain⟨k5,k6⟩:=k2
  have HR:=Lib.hid (code_Text_any (10*d1+d2) (decide (3<(s.size:Int))))
  have hT:Cal.right (10*d1+d2) (decide (3<(s.size:Int)))=true->txtV (10*d1+d2) (decide (3<(s.size:Int)))≠s:=fun h=>by
   rw [txtV,h,if_pos rfl]
   exact HNO.out _ _ h
  generalize Cal.right (10*d1+d2) (decide (3<(s.size:Int)))=R at*
  generalize txtV (10*d1+d2) (decide (3<(s.size:Int)))=T at*
  cases R
  ·clear hT
   go_enter Tryo.func20,Tryz.ntmps20
   go_wp2_with fail
   go_region_held (fun x=>x.cell? ⟨w.heap.size,0,none⟩=some (.int .i64 0)/\x.cell? ⟨w.heap.size,1,none⟩=some (.bool false)) (first|assumption|go_keep) (first|fail)
   all_goals go_wp2_with fail
   all_goals
    refine(HR.out _).mono ?_
    rintro e w1 ⟨rfl,hb1⟩
    obtain⟨hc1,hf1⟩:=bcell hb1
    have hz1:=hb1.size
    try simp at hz1
    have hs1x0:w.heap.size<w1.heap.size:=by omega
    have g1x0:w1.cell? ⟨w.heap.size,0,none⟩=some (.int .i64 0):=celB hc1
    have g1x1:w1.cell? ⟨w.heap.size,1,none⟩=some (.bool false):=celB hc1
    go_wp2_with fail
    refine bodyPost_ret (v:= .tuple #[.agg #[.int .i64 0,.bool false],.bool false]) (by simp [results,Tryz.results20,go_sem,g1x0,g1x1]) rfl ⟨rfl, ?_⟩
    first
     |exact bt (baa (ba _ _) _).drew hb1
     |exact bs (bs (bt (baa (ba _ _) _).drew hb1) (Nat.le_refl _) _) (Nat.le_refl _) _
  ·have hq:=str_ne (hT rfl)
   clear hT
   go_enter Tryo.func20,Tryz.ntmps20
   go_wp2_with fail
   go_region_held (fun x=>x.cell? ⟨w.heap.size,0,none⟩=some (.int .i64 0)/\x.cell? ⟨w.heap.size,1,none⟩=some (.bool false)) (first|assumption|go_keep) (first|fail)
   all_goals go_wp2_with fail
   all_goals
    refine(HR.out _).mono ?_
    rintro e w1 ⟨rfl,hb1⟩
    obtain⟨hc1,hf1⟩:=bcell hb1
    have hz1:=hb1.size
    try simp at hz1
    have hs1x0:w.heap.size<w1.heap.size:=by omega
    have g1x0:w1.cell? ⟨w.heap.size,0,none⟩=some (.int .i64 0):=celB hc1
    have g1x1:w1.cell? ⟨w.heap.size,1,none⟩=some (.bool false):=celB hc1
    go_wp2_with fail
    refine bodyPost_ret (v:= .tuple #[.agg #[.int .i64 0,.bool false],.bool false]) (by simp [results,Tryz.results20,go_sem,g1x0,g1x1]) rfl ⟨rfl, ?_⟩
    first
     |exact bt (baa (ba _ _) _).drew hb1
     |exact bs (bs (bt (baa (ba _ _) _).drew hb1) (Nat.le_refl _) _) (Nat.le_refl _) _
 ·have h3':s.size<3:=by omega
  go_enter Tryo.func20,Tryz.ntmps20
  go_wp2_with fail
  refine bodyPost_ret (v:= .tuple #[.agg #[.int .i64 0,.bool false],.bool false]) (by simp [results,Tryz.results20,go_sem]) rfl ⟨rfl, ?_⟩
  repeat(first|exact Below.refl _ _|assumption|(with_reducible refine bdrew ?_)|(with_reducible refine baa ?_ _)|(with_reducible refine bs ?_ (by first|exact Nat.le_refl _|omega|(simp;omega)) _)|(with_reducible refine bt ?_ (by assumption)))
theorem code_Read_any(s:ByteArray)(n:Int)(l ok:Bool)(w:World)(h100:s.size<=1000000)(h:IsCode s n l ok):
  Calls Tryo.prog 20 #[.string s] w fun e w'=>e= .returned (.tuple #[.agg #[.int .i64 n,.bool l],.bool ok])/\Below w.heap.size w w':=by
 rcases h with ⟨rfl,h1,rfl⟩|⟨rfl,rfl,rfl,h1⟩
 ·exact code_Read_yes n l w h1
 ·exact code_Read_no s w h100 h1
end Go.Proofs.YthpipedifekmpaaGreatDoor
end
section
namespace Go.Proofs.YthpipedifekmpaaGreatDoor
namespace Rep
open Go.Lib
def sub(a b x:UInt8):UInt8:=if x=a then b else x
theorem index_nil(a:UInt8):index [] [a]= -1:=rfl
theorem index_same(a:UInt8)(l:List UInt8):index (a :: l) [a]=0:=by simp [index]
theorem index_other(a x:UInt8)(l:List UInt8)(h:¬ x=a):index (x :: l) [a]=if index l [a]== -1 then -1 else index l [a]+1:=by
 have:([a]:List UInt8).isPrefixOf (x :: l)=false:=by simp [List.isPrefixOf];exact fun e=>h e.symm
 rw [index,this];rfl
theorem replace_one(a b:UInt8):∀l:List UInt8,replaceK [a] [b] (count l [a]) l=l.map (sub a b)
 | []=>by rw [count_miss (index_nil a)];rfl
 | x :: l=>by
  have ih:=replace_one a b l
  by_cases h:x=a
  ·have hi:index (x :: l) [a]=(0:Nat):=by rw [h];exact index_same a l
   have hc:=count_hit (by simp) hi
   rw [hc,Nat.add_comm,replaceK_hit _ _ _ _ 0 hi]
   simp only [List.length_singleton,Nat.zero_add,List.drop_succ_cons,List.drop_zero,List.take_zero,List.nil_append,List.map_cons]
   rw [ih,h]
   simp [sub]
  ·have hs:sub a b x=x:=by simp [sub,h]
   have ho:=index_other a x l h
   by_cases hm:index l [a]= -1
   ·rw [if_pos (by simp [hm])]at ho
    rw [count_miss ho]
    rw [count_miss hm]at ih
    rw [List.map_cons,←ih,hs]
    rfl
   ·have hge:=index_ge l [a]
    obtain⟨i,hi⟩:∃i:Nat,index l [a]=i:=⟨(index l [a]).toNat,by omega⟩
    rw [if_neg (by simp [hm]),hi]at ho
    have ho':index (x :: l) [a]=((i+1:Nat):Int):=by rw [ho];omega
    have hc:=count_hit (by simp) ho'
    have hc2:=count_hit (by simp) hi
    rw [hc,Nat.add_comm,replaceK_hit _ _ _ _ (i+1) ho']
    rw [hc2,Nat.add_comm,replaceK_hit _ _ _ _ i hi]at ih
    rw [List.length_singleton]at ih⊢
    rw [List.map_cons,←ih,hs,List.drop_succ_cons,List.take_succ_cons]
    rfl
theorem replaceAll_one(a b:UInt8)(h:¬ a=b)(l:List UInt8):replaceAll l [a] [b]=l.map (sub a b):=by
 unfold replaceAll replace
 rw [if_neg (by simp [h])]
 have:replaceNum l [a] (-1)=count l [a]:=by unfold replaceNum;rw [if_pos (.inl (by omega))]
 rw [this]
 exact replace_one a b l
theorem count_le(a:UInt8):∀l:List UInt8,count l [a]<=l.length
 | []=>by rw [count_miss (index_nil a)];exact Nat.zero_le _
 | x :: l=>by
  have ih:=count_le a l
  by_cases h:x=a
  ·have hi:index (x :: l) [a]=(0:Nat):=by rw [h];exact index_same a l
   rw [count_hit (by simp) hi,List.length_singleton,Nat.zero_add,List.drop_succ_cons,List.drop_zero,List.length_cons]
   omega
  ·have ho:=index_other a x l h
   by_cases hm:index l [a]= -1
   ·rw [if_pos (by simp [hm])]at ho
    rw [count_miss ho];exact Nat.zero_le _
   ·have hge:=index_ge l [a]
    obtain⟨i,hi⟩:∃i:Nat,index l [a]=i:=⟨(index l [a]).toNat,by omega⟩
    rw [if_neg (by simp [hm]),hi]at ho
    have ho':index (x :: l) [a]=((i+1:Nat):Int):=by rw [ho];omega
    rw [count_hit (by simp) ho']
    rw [count_hit (by simp) hi]at ih
    rw [List.length_singleton]at ih⊢
    rw [List.drop_succ_cons,List.length_cons]
    omega
end Rep
end Go.Proofs.YthpipedifekmpaaGreatDoor
end
section
namespace Go.Proofs.YthpipedifekmpaaGreatDoor
open Go.ChangeShapes Go.WideShapes Go.ChangeAt Go.RowKit
def greatB(a b:UInt8)(s:ByteArray):ByteArray:=⟨(s.data.toList.map (Rep.sub a b)).toArray⟩
theorem greatB_size(a b:UInt8)(s:ByteArray):(greatB a b s).size=s.size:=by
 show((s.data.toList.map (Rep.sub a b)).toArray).size=s.data.size
 simp
theorem replaceAll_byte(a b:UInt8)(h:¬ a=b)(s:ByteArray)(m:Int)(w:World)(hs:s.size<=1000000)(hm:MaxAt w m):
  Calls Tryo.prog 17 #[.string s,.string ⟨#[a]⟩,.string ⟨#[b]⟩] w fun e w'=>e= .returned (.string (greatB a b s))/\Below w.heap.size w w':=by
 have hc:Go.Lib.countB s ⟨#[a]⟩<=s.size:=Rep.count_le a s.data.toList
 have:=Tryz.strings_ReplaceAll s ⟨#[a]⟩ ⟨#[b]⟩ m w (by omega) hm.1 (show 1<=1 from Nat.le_refl 1) (by
  show s.size+Go.Lib.countB s ⟨#[a]⟩*1<=140737488355328
  omega)
 rw [show Go.Lib.replaceAll s.data.toList (⟨#[a]⟩:ByteArray).data.toList (⟨#[b]⟩:ByteArray).data.toList=s.data.toList.map (Rep.sub a b)from Rep.replaceAll_one a b h _]at this
 exact this
def great(s:ByteArray):ByteArray:=greatB 108 76 (greatB 109 77 s)
theorem numVal_bd(l:List UInt8)(M:Nat):0<=numVal l M/\numVal l M<10 ^ M:=by
 unfold numVal
 by_cases h:numOk l M=true
 ·rw [if_pos h]
  unfold numOk at h
  simp only [Bool.and_eq_true,decide_eq_true_eq]at h
  have:=numFold_bd l h.2
  rw [h.1]at this
  exact this
 ·rw [if_neg h]
  exact⟨Int.le_refl _,Int.pow_pos (by omega)⟩
theorem cutB_size(s:ByteArray):(cutB s).size<=s.size:=by
 unfold cutB
 split
 ·exact Nat.le_refl _
 ·simp
theorem text_ReadHeb_y(s:ByteArray)(cn:Int)(cl ok:Bool)(m:Int)(hs:s.size<=1000000)(w:World)(hT:Tab w 5 kevCells)(hL:Tab w 4 lenCells)(hm:MaxAt w m)(hc:IsCode (cutB (cutA (great s))) cn cl ok)(h4:numOk (cutA (cutA (great s))).data.toList 4=false):
  Calls Tryo.prog 7 #[.string s] w fun e w'=>e= .returned (.tuple #[.agg #[.int .i64 (0),.int .i64 (0),.bool (false),.int .i64 (0)],.int .i64 (5)])/\Below w.heap.size w w':=by
 have g1:=greatB_size 109 77 s
 have g2:=greatB_size 108 76 (greatB 109 77 s)
 have c1:=cutA_size (great s)
 have HR1:=Lib.hid (fun w hm=>replaceAll_byte 109 77 (by decide) s m w hs hm)
 have HR2:=Lib.hid (fun w hm=>replaceAll_byte 108 76 (by decide) (greatB 109 77 s) m w (by omega) hm)
 have HP:=Lib.hid (fun w=>text_part (great s) w (by unfold great;omega))
 rw [show greatB 108 76 (greatB 109 77 s)=great s from rfl]at HR2
 have zA:(cutA (cutA (great s))).size<=1000000:=by have:=cutA_size (cutA (great s));unfold great at*;omega
 have zB:(cutB (cutA (great s))).size<=1000000:=by have:=cutB_size (cutA (great s));unfold great at*;omega
 have zC:(cutB (great s)).size<=1000000:=by have:=cutB_size (great s);unfold great at*;omega
 have HN4:=Lib.hid (fun w=>text_number (cutA (cutA (great s))) 4 w (by omega) (by omega))
 have HN2:=Lib.hid (fun w=>text_number (cutB (great s)) 2 w (by omega) (by omega))
 have HCo:=Lib.hid (fun w=>code_Read_any (cutB (cutA (great s))) cn cl ok w zB hc)
 clear hc g1 g2 c1
 rw [h4]at HN4
 clear h4
 generalize numVal (cutA (cutA (great s))).data.toList 4=yv at*
 generalize numVal (cutB (great s)).data.toList 2=dv at*
 try generalize numOk (cutA (cutA (great s))).data.toList 4=o4 at*
 try generalize numOk (cutB (great s)).data.toList 2=o2 at*
 generalize greatB 109 77 s=s1 at*
 generalize cutA (cutA (great s))=tA at*
 generalize cutB (cutA (great s))=tB at*
 generalize cutB (great s)=tC at*
 generalize great s=s2 at*
 clear zA zB zC
 go_enter Tryo.func7,Tryz.ntmps7
 go_wp2_with fail
 have hmA:=MaxAt.below hm (ba w (.cells #[.int .i64 0,.int .i64 0,.bool false,.int .i64 0] 25))
 refine(HR1.out _ hmA).mono ?_
 rintro e w1 ⟨rfl,hb1⟩
 obtain⟨hc1,hf1⟩:=bcell hb1
 have hz1:=hb1.size
 try simp at hz1
 have hs1x0:w.heap.size<w1.heap.size:=by omega
 have g1x0:w1.cell? ⟨w.heap.size,0,none⟩=some (.int .i64 0):=cel hc1
 have g1x1:w1.cell? ⟨w.heap.size,1,none⟩=some (.int .i64 0):=cel hc1
 have g1x2:w1.cell? ⟨w.heap.size,2,none⟩=some (.bool false):=cel hc1
 have g1x3:w1.cell? ⟨w.heap.size,3,none⟩=some (.int .i64 0):=cel hc1
 go_wp2_with fail
 refine(HR2.out _ (MaxAt.below hmA hb1)).mono ?_
 rintro e w2 ⟨rfl,hb2⟩
 obtain⟨hc2,hf2⟩:=bcell hb2
 have hz2:=hb2.size
 try simp at hz2
 have hs2x0:w.heap.size<w2.heap.size:=by omega
 have g2x0:w2.cell? ⟨w.heap.size,0,none⟩=some (.int .i64 0):=cel hc2
 have g2x1:w2.cell? ⟨w.heap.size,1,none⟩=some (.int .i64 0):=cel hc2
 have g2x2:w2.cell? ⟨w.heap.size,2,none⟩=some (.bool false):=cel hc2
 have g2x3:w2.cell? ⟨w.heap.size,3,none⟩=some (.int .i64 0):=cel hc2
 go_wp2_with fail
 refine(HP.out _).mono ?_
 rintro e w3 ⟨rfl,hb3⟩
 obtain⟨hc3,hf3⟩:=bcell hb3
 have hz3:=hb3.size
 try simp at hz3
 have hs3x0:w.heap.size<w3.heap.size:=by omega
 have g3x0:w3.cell? ⟨w.heap.size,0,none⟩=some (.int .i64 0):=cel hc3
 have g3x1:w3.cell? ⟨w.heap.size,1,none⟩=some (.int .i64 0):=cel hc3
 have g3x2:w3.cell? ⟨w.heap.size,2,none⟩=some (.bool false):=cel hc3
 have g3x3:w3.cell? ⟨w.heap.size,3,none⟩=some (.int .i64 0):=cel hc3
 go_wp2_with fail
 refine(HN4.out _).mono ?_
 rintro e w' ⟨rfl,rfl⟩
 go_wp2_with fail
 refine(HCo.out _).mono ?_
 rintro e w4 ⟨rfl,hb4⟩
 obtain⟨hc4,hf4⟩:=bcell hb4
 have hz4:=hb4.size
 try simp at hz4
 have hs4x0:w.heap.size<w4.heap.size:=by omega
 have g4x0:w4.cell? ⟨w.heap.size,0,none⟩=some (.int .i64 0):=cel hc4
 have g4x1:w4.cell? ⟨w.heap.size,1,none⟩=some (.int .i64 0):=cel hc4
 have g4x2:w4.cell? ⟨w.heap.size,2,none⟩=some (.bool false):=cel hc4
 have g4x3:w4.cell? ⟨w.heap.size,3,none⟩=some (.int .i64 0):=cel hc4
 go_wp2_with fail
 refine(HN2.out _).mono ?_
 rintro e w' ⟨rfl,rfl⟩
 go_wp2_with fail
 refine bodyPost_ret (v:= .tuple #[.agg #[.int .i64 (0),.int .i64 (0),.bool (false),.int .i64 (0)],.int .i64 (5)]) (by simp [results,Tryz.results7,go_sem, *]) rfl ⟨rfl, ?_⟩
 exact bel
theorem text_ReadHeb_c(s:ByteArray)(cn:Int)(cl ok:Bool)(m:Int)(hs:s.size<=1000000)(w:World)(hT:Tab w 5 kevCells)(hL:Tab w 4 lenCells)(hm:MaxAt w m)(hc:IsCode (cutB (cutA (great s))) cn cl ok)(h4:numOk (cutA (cutA (great s))).data.toList 4=true)(ho:ok=false):
  Calls Tryo.prog 7 #[.string s] w fun e w'=>e= .returned (.tuple #[.agg #[.int .i64 (0),.int .i64 (0),.bool (false),.int .i64 (0)],.int .i64 (5)])/\Below w.heap.size w w':=by
 have g1:=greatB_size 109 77 s
 have g2:=greatB_size 108 76 (greatB 109 77 s)
 have c1:=cutA_size (great s)
 have HR1:=Lib.hid (fun w hm=>replaceAll_byte 109 77 (by decide) s m w hs hm)
 have HR2:=Lib.hid (fun w hm=>replaceAll_byte 108 76 (by decide) (greatB 109 77 s) m w (by omega) hm)
 have HP:=Lib.hid (fun w=>text_part (great s) w (by unfold great;omega))
 rw [show greatB 108 76 (greatB 109 77 s)=great s from rfl]at HR2
 have zA:(cutA (cutA (great s))).size<=1000000:=by have:=cutA_size (cutA (great s));unfold great at*;omega
 have zB:(cutB (cutA (great s))).size<=1000000:=by have:=cutB_size (cutA (great s));unfold great at*;omega
 have zC:(cutB (great s)).size<=1000000:=by have:=cutB_size (great s);unfold great at*;omega
 have HN4:=Lib.hid (fun w=>text_number (cutA (cutA (great s))) 4 w (by omega) (by omega))
 have HN2:=Lib.hid (fun w=>text_number (cutB (great s)) 2 w (by omega) (by omega))
 have HCo:=Lib.hid (fun w=>code_Read_any (cutB (cutA (great s))) cn cl ok w zB hc)
 clear hc g1 g2 c1
 rw [h4]at HN4
 clear h4
 subst ho
 generalize numVal (cutA (cutA (great s))).data.toList 4=yv at*
 generalize numVal (cutB (great s)).data.toList 2=dv at*
 try generalize numOk (cutA (cutA (great s))).data.toList 4=o4 at*
 try generalize numOk (cutB (great s)).data.toList 2=o2 at*
 generalize greatB 109 77 s=s1 at*
 generalize cutA (cutA (great s))=tA at*
 generalize cutB (cutA (great s))=tB at*
 generalize cutB (great s)=tC at*
 generalize great s=s2 at*
 clear zA zB zC
 go_enter Tryo.func7,Tryz.ntmps7
 go_wp2_with fail
 have hmA:=MaxAt.below hm (ba w (.cells #[.int .i64 0,.int .i64 0,.bool false,.int .i64 0] 25))
 refine(HR1.out _ hmA).mono ?_
 rintro e w1 ⟨rfl,hb1⟩
 obtain⟨hc1,hf1⟩:=bcell hb1
 have hz1:=hb1.size
 try simp at hz1
 have hs1x0:w.heap.size<w1.heap.size:=by omega
 have g1x0:w1.cell? ⟨w.heap.size,0,none⟩=some (.int .i64 0):=cel hc1
 have g1x1:w1.cell? ⟨w.heap.size,1,none⟩=some (.int .i64 0):=cel hc1
 have g1x2:w1.cell? ⟨w.heap.size,2,none⟩=some (.bool false):=cel hc1
 have g1x3:w1.cell? ⟨w.heap.size,3,none⟩=some (.int .i64 0):=cel hc1
 go_wp2_with fail
 refine(HR2.out _ (MaxAt.below hmA hb1)).mono ?_
 rintro e w2 ⟨rfl,hb2⟩
 obtain⟨hc2,hf2⟩:=bcell hb2
 have hz2:=hb2.size
 try simp at hz2
 have hs2x0:w.heap.size<w2.heap.size:=by omega
 have g2x0:w2.cell? ⟨w.heap.size,0,none⟩=some (.int .i64 0):=cel hc2
 have g2x1:w2.cell? ⟨w.heap.size,1,none⟩=some (.int .i64 0):=cel hc2
 have g2x2:w2.cell? ⟨w.heap.size,2,none⟩=some (.bool false):=cel hc2
 have g2x3:w2.cell? ⟨w.heap.size,3,none⟩=some (.int .i64 0):=cel hc2
 go_wp2_with fail
 refine(HP.out _).mono ?_
 rintro e w3 ⟨rfl,hb3⟩
 obtain⟨hc3,hf3⟩:=bcell hb3
 have hz3:=hb3.size
 try simp at hz3
 have hs3x0:w.heap.size<w3.heap.size:=by omega
 have g3x0:w3.cell? ⟨w.heap.size,0,none⟩=some (.int .i64 0):=cel hc3
 have g3x1:w3.cell? ⟨w.heap.size,1,none⟩=some (.int .i64 0):=cel hc3
 have g3x2:w3.cell? ⟨w.heap.size,2,none⟩=some (.bool false):=cel hc3
 have g3x3:w3.cell? ⟨w.heap.size,3,none⟩=some (.int .i64 0):=cel hc3
 go_wp2_with fail
 refine(HN4.out _).mono ?_
 rintro e w' ⟨rfl,rfl⟩
 go_wp2_with fail
 refine(HCo.out _).mono ?_
 rintro e w4 ⟨rfl,hb4⟩
 obtain⟨hc4,hf4⟩:=bcell hb4
 have hz4:=hb4.size
 try simp at hz4
 have hs4x0:w.heap.size<w4.heap.size:=by omega
 have g4x0:w4.cell? ⟨w.heap.size,0,none⟩=some (.int .i64 0):=cel hc4
 have g4x1:w4.cell? ⟨w.heap.size,1,none⟩=some (.int .i64 0):=cel hc4
 have g4x2:w4.cell? ⟨w.heap.size,2,none⟩=some (.bool false):=cel hc4
 have g4x3:w4.cell? ⟨w.heap.size,3,none⟩=some (.int .i64 0):=cel hc4
 go_wp2_with fail
 refine(HN2.out _).mono ?_
 rintro e w' ⟨rfl,rfl⟩
 go_wp2_with fail
 refine bodyPost_ret (v:= .tuple #[.agg #[.int .i64 (0),.int .i64 (0),.bool (false),.int .i64 (0)],.int .i64 (5)]) (by simp [results,Tryz.results7,go_sem, *]) rfl ⟨rfl, ?_⟩
 exact bel
theorem text_ReadHeb_d(s:ByteArray)(cn:Int)(cl ok:Bool)(m:Int)(hs:s.size<=1000000)(w:World)(hT:Tab w 5 kevCells)(hL:Tab w 4 lenCells)(hm:MaxAt w m)(hc:IsCode (cutB (cutA (great s))) cn cl ok)(h4:numOk (cutA (cutA (great s))).data.toList 4=true)(ho:ok=true)(h2:numOk (cutB (great s)).data.toList 2=false):
  Calls Tryo.prog 7 #[.string s] w fun e w'=>e= .returned (.tuple #[.agg #[.int .i64 (0),.int .i64 (0),.bool (false),.int .i64 (0)],.int .i64 (5)])/\Below w.heap.size w w':=by
 have g1:=greatB_size 109 77 s
 have g2:=greatB_size 108 76 (greatB 109 77 s)
 have c1:=cutA_size (great s)
 have HR1:=Lib.hid (fun w hm=>replaceAll_byte 109 77 (by decide) s m w hs hm)
 have HR2:=Lib.hid (fun w hm=>replaceAll_byte 108 76 (by decide) (greatB 109 77 s) m w (by omega) hm)
 have HP:=Lib.hid (fun w=>text_part (great s) w (by unfold great;omega))
 rw [show greatB 108 76 (greatB 109 77 s)=great s from rfl]at HR2
 have zA:(cutA (cutA (great s))).size<=1000000:=by have:=cutA_size (cutA (great s));unfold great at*;omega
 have zB:(cutB (cutA (great s))).size<=1000000:=by have:=cutB_size (cutA (great s));unfold great at*;omega
 have zC:(cutB (great s)).size<=1000000:=by have:=cutB_size (great s);unfold great at*;omega
 have HN4:=Lib.hid (fun w=>text_number (cutA (cutA (great s))) 4 w (by omega) (by omega))
 have HN2:=Lib.hid (fun w=>text_number (cutB (great s)) 2 w (by omega) (by omega))
 have HCo:=Lib.hid (fun w=>code_Read_any (cutB (cutA (great s))) cn cl ok w zB hc)
 clear hc g1 g2 c1
 rw [h4]at HN4
 rw [h2]at HN2
 clear h4 h2
 subst ho
 generalize numVal (cutA (cutA (great s))).data.toList 4=yv at*
 generalize numVal (cutB (great s)).data.toList 2=dv at*
 try generalize numOk (cutA (cutA (great s))).data.toList 4=o4 at*
 try generalize numOk (cutB (great s)).data.toList 2=o2 at*
 generalize greatB 109 77 s=s1 at*
 generalize cutA (cutA (great s))=tA at*
 generalize cutB (cutA (great s))=tB at*
 generalize cutB (great s)=tC at*
 generalize great s=s2 at*
 clear zA zB zC
 go_enter Tryo.func7,Tryz.ntmps7
 go_wp2_with fail
 have hmA:=MaxAt.below hm (ba w (.cells #[.int .i64 0,.int .i64 0,.bool false,.int .i64 0] 25))
 refine(HR1.out _ hmA).mono ?_
 rintro e w1 ⟨rfl,hb1⟩
 obtain⟨hc1,hf1⟩:=bcell hb1
 have hz1:=hb1.size
 try simp at hz1
 have hs1x0:w.heap.size<w1.heap.size:=by omega
 have g1x0:w1.cell? ⟨w.heap.size,0,none⟩=some (.int .i64 0):=cel hc1
 have g1x1:w1.cell? ⟨w.heap.size,1,none⟩=some (.int .i64 0):=cel hc1
 have g1x2:w1.cell? ⟨w.heap.size,2,none⟩=some (.bool false):=cel hc1
 have g1x3:w1.cell? ⟨w.heap.size,3,none⟩=some (.int .i64 0):=cel hc1
 go_wp2_with fail
 refine(HR2.out _ (MaxAt.below hmA hb1)).mono ?_
 rintro e w2 ⟨rfl,hb2⟩
 obtain⟨hc2,hf2⟩:=bcell hb2
 have hz2:=hb2.size
 try simp at hz2
 have hs2x0:w.heap.size<w2.heap.size:=by omega
 have g2x0:w2.cell? ⟨w.heap.size,0,none⟩=some (.int .i64 0):=cel hc2
 have g2x1:w2.cell? ⟨w.heap.size,1,none⟩=some (.int .i64 0):=cel hc2
 have g2x2:w2.cell? ⟨w.heap.size,2,none⟩=some (.bool false):=cel hc2
 have g2x3:w2.cell? ⟨w.heap.size,3,none⟩=some (.int .i64 0):=cel hc2
 go_wp2_with fail
 refine(HP.out _).mono ?_
 rintro e w3 ⟨rfl,hb3⟩
 obtain⟨hc3,hf3⟩:=bcell hb3
 have hz3:=hb3.size
 try simp at hz3
 have hs3x0:w.heap.size<w3.heap.size:=by omega
 have g3x0:w3.cell? ⟨w.heap.size,0,none⟩=some (.int .i64 0):=cel hc3
 have g3x1:w3.cell? ⟨w.heap.size,1,none⟩=some (.int .i64 0):=cel hc3
 have g3x2:w3.cell? ⟨w.heap.size,2,none⟩=some (.bool false):=cel hc3
 have g3x3:w3.cell? ⟨w.heap.size,3,none⟩=some (.int .i64 0):=cel hc3
 go_wp2_with fail
 refine(HN4.out _).mono ?_
 rintro e w' ⟨rfl,rfl⟩
 go_wp2_with fail
 refine(HCo.out _).mono ?_
 rintro e w4 ⟨rfl,hb4⟩
 obtain⟨hc4,hf4⟩:=bcell hb4
 have hz4:=hb4.size
 try simp at hz4
 have hs4x0:w.heap.size<w4.heap.size:=by omega
 have g4x0:w4.cell? ⟨w.heap.size,0,none⟩=some (.int .i64 0):=cel hc4
 have g4x1:w4.cell? ⟨w.heap.size,1,none⟩=some (.int .i64 0):=cel hc4
 have g4x2:w4.cell? ⟨w.heap.size,2,none⟩=some (.bool false):=cel hc4
 have g4x3:w4.cell? ⟨w.heap.size,3,none⟩=some (.int .i64 0):=cel hc4
 go_wp2_with fail
 refine(HN2.out _).mono ?_
 rintro e w' ⟨rfl,rfl⟩
 go_wp2_with fail
 refine bodyPost_ret (v:= .tuple #[.agg #[.int .i64 (0),.int .i64 (0),.bool (false),.int .i64 (0)],.int .i64 (5)]) (by simp [results,Tryz.results7,go_sem, *]) rfl ⟨rfl, ?_⟩
 exact bel
theorem text_ReadHeb_range(s:ByteArray)(cn:Int)(cl ok:Bool)(m:Int)(hs:s.size<=1000000)(w:World)(hT:Tab w 5 kevCells)(hL:Tab w 4 lenCells)(hm:MaxAt w m)(hc:IsCode (cutB (cutA (great s))) cn cl ok)(h4:numOk (cutA (cutA (great s))).data.toList 4=true)(ho:ok=true)(h2:numOk (cutB (great s)).data.toList 2=true)(h0:¬ D10.dateE (numVal (cutA (cutA (great s))).data.toList 4) cn cl (numVal (cutB (great s)).data.toList 2)=0):
  Calls Tryo.prog 7 #[.string s] w fun e w'=>e= .returned (.tuple #[.agg #[.int .i64 (0),.int .i64 (0),.bool (false),.int .i64 (0)],.int .i64 (2)])/\Below w.heap.size w w':=by
 have g1:=greatB_size 109 77 s
 have g2:=greatB_size 108 76 (greatB 109 77 s)
 have c1:=cutA_size (great s)
 have HR1:=Lib.hid (fun w hm=>replaceAll_byte 109 77 (by decide) s m w hs hm)
 have HR2:=Lib.hid (fun w hm=>replaceAll_byte 108 76 (by decide) (greatB 109 77 s) m w (by omega) hm)
 have HP:=Lib.hid (fun w=>text_part (great s) w (by unfold great;omega))
 rw [show greatB 108 76 (greatB 109 77 s)=great s from rfl]at HR2
 have zA:(cutA (cutA (great s))).size<=1000000:=by have:=cutA_size (cutA (great s));unfold great at*;omega
 have zB:(cutB (cutA (great s))).size<=1000000:=by have:=cutB_size (cutA (great s));unfold great at*;omega
 have zC:(cutB (great s)).size<=1000000:=by have:=cutB_size (great s);unfold great at*;omega
 have HN4:=Lib.hid (fun w=>text_number (cutA (cutA (great s))) 4 w (by omega) (by omega))
 have HN2:=Lib.hid (fun w=>text_number (cutB (great s)) 2 w (by omega) (by omega))
 have HCo:=Lib.hid (fun w=>code_Read_any (cutB (cutA (great s))) cn cl ok w zB hc)
 clear hc g1 g2 c1
 have hI:=numVal_bd (cutA (cutA (great s))).data.toList 4
 have HCk:=Lib.hid (fun w hT hL=>heb_Check (numVal (cutA (cutA (great s))).data.toList 4) cn cl (numVal (cutB (great s)).data.toList 2) w ⟨by omega,by omega⟩ hT hL)
 rw [h4]at HN4
 rw [h2]at HN2
 clear h4 h2 hI
 subst ho
 have hne:(D10.dateE (numVal (cutA (cutA (great s))).data.toList 4) cn cl (numVal (cutB (great s)).data.toList 2)!=0)=true:=by simpa using h0
 clear h0
 generalize D10.dateE (numVal (cutA (cutA (great s))).data.toList 4) cn cl (numVal (cutB (great s)).data.toList 2)=de at*
 generalize numVal (cutA (cutA (great s))).data.toList 4=yv at*
 generalize numVal (cutB (great s)).data.toList 2=dv at*
 try generalize numOk (cutA (cutA (great s))).data.toList 4=o4 at*
 try generalize numOk (cutB (great s)).data.toList 2=o2 at*
 generalize greatB 109 77 s=s1 at*
 generalize cutA (cutA (great s))=tA at*
 generalize cutB (cutA (great s))=tB at*
 generalize cutB (great s)=tC at*
 generalize great s=s2 at*
 clear zA zB zC
 go_enter Tryo.func7,Tryz.ntmps7
 go_wp2_with fail
 have hmA:=MaxAt.below hm (ba w (.cells #[.int .i64 0,.int .i64 0,.bool false,.int .i64 0] 25))
 refine(HR1.out _ hmA).mono ?_
 rintro e w1 ⟨rfl,hb1⟩
 obtain⟨hc1,hf1⟩:=bcell hb1
 have hz1:=hb1.size
 try simp at hz1
 have hs1x0:w.heap.size<w1.heap.size:=by omega
 have g1x0:w1.cell? ⟨w.heap.size,0,none⟩=some (.int .i64 0):=cel hc1
 have g1x1:w1.cell? ⟨w.heap.size,1,none⟩=some (.int .i64 0):=cel hc1
 have g1x2:w1.cell? ⟨w.heap.size,2,none⟩=some (.bool false):=cel hc1
 have g1x3:w1.cell? ⟨w.heap.size,3,none⟩=some (.int .i64 0):=cel hc1
 go_wp2_with fail
 refine(HR2.out _ (MaxAt.below hmA hb1)).mono ?_
 rintro e w2 ⟨rfl,hb2⟩
 obtain⟨hc2,hf2⟩:=bcell hb2
 have hz2:=hb2.size
 try simp at hz2
 have hs2x0:w.heap.size<w2.heap.size:=by omega
 have g2x0:w2.cell? ⟨w.heap.size,0,none⟩=some (.int .i64 0):=cel hc2
 have g2x1:w2.cell? ⟨w.heap.size,1,none⟩=some (.int .i64 0):=cel hc2
 have g2x2:w2.cell? ⟨w.heap.size,2,none⟩=some (.bool false):=cel hc2
 have g2x3:w2.cell? ⟨w.heap.size,3,none⟩=some (.int .i64 0):=cel hc2
 go_wp2_with fail
 refine(HP.out _).mono ?_
 rintro e w3 ⟨rfl,hb3⟩
 obtain⟨hc3,hf3⟩:=bcell hb3
 have hz3:=hb3.size
 try simp at hz3
 have hs3x0:w.heap.size<w3.heap.size:=by omega
 have g3x0:w3.cell? ⟨w.heap.size,0,none⟩=some (.int .i64 0):=cel hc3
 have g3x1:w3.cell? ⟨w.heap.size,1,none⟩=some (.int .i64 0):=cel hc3
 have g3x2:w3.cell? ⟨w.heap.size,2,none⟩=some (.bool false):=cel hc3
 have g3x3:w3.cell? ⟨w.heap.size,3,none⟩=some (.int .i64 0):=cel hc3
 go_wp2_with fail
 refine(HN4.out _).mono ?_
 rintro e w' ⟨rfl,rfl⟩
 go_wp2_with fail
 refine(HCo.out _).mono ?_
 rintro e w4 ⟨rfl,hb4⟩
 obtain⟨hc4,hf4⟩:=bcell hb4
 have hz4:=hb4.size
 try simp at hz4
 have hs4x0:w.heap.size<w4.heap.size:=by omega
 have g4x0:w4.cell? ⟨w.heap.size,0,none⟩=some (.int .i64 0):=cel hc4
 have g4x1:w4.cell? ⟨w.heap.size,1,none⟩=some (.int .i64 0):=cel hc4
 have g4x2:w4.cell? ⟨w.heap.size,2,none⟩=some (.bool false):=cel hc4
 have g4x3:w4.cell? ⟨w.heap.size,3,none⟩=some (.int .i64 0):=cel hc4
 go_wp2_with fail
 refine(HN2.out _).mono ?_
 rintro e w' ⟨rfl,rfl⟩
 go_wp2_with fail
 have hq5:w.heap.size<w4.heap.size+1+1:=by omega
 refine(HCk.out _ (Tab.below hT bel) (Tab.below hL bel)).mono ?_
 rintro e w5 ⟨rfl,hb5⟩
 obtain⟨hc5,hf5⟩:=bcell hb5
 have hz5:=hb5.size
 try simp at hz5
 have hs5x0:w.heap.size<w5.heap.size:=by omega
 have hs5x1:(w4.heap.size+1)<w5.heap.size:=by omega
 have g5x0:w5.cell? ⟨w.heap.size,0,none⟩=some (.int .i64 0):=cel hc5
 have g5x1:w5.cell? ⟨w.heap.size,1,none⟩=some (.int .i64 0):=cel hc5
 have g5x2:w5.cell? ⟨w.heap.size,2,none⟩=some (.bool false):=cel hc5
 have g5x3:w5.cell? ⟨w.heap.size,3,none⟩=some (.int .i64 0):=cel hc5
 have g5x4:w5.cell? ⟨(w4.heap.size+1),0,none⟩=some (.int .i64 yv):=cel hc5
 have g5x5:w5.cell? ⟨(w4.heap.size+1),1,none⟩=some (.int .i64 cn):=cel hc5
 have g5x6:w5.cell? ⟨(w4.heap.size+1),2,none⟩=some (.bool cl):=cel hc5
 have g5x7:w5.cell? ⟨(w4.heap.size+1),3,none⟩=some (.int .i64 dv):=cel hc5
 go_wp2_with fail
 clear hc5
 refine bodyPost_ret (v:= .tuple #[.agg #[.int .i64 (0),.int .i64 (0),.bool (false),.int .i64 (0)],.int .i64 (2)]) (by simp [results,Tryz.results7,go_sem, *]) rfl ⟨rfl, ?_⟩
 exact bel
theorem text_ReadHeb_ok(s:ByteArray)(cn:Int)(cl ok:Bool)(m:Int)(hs:s.size<=1000000)(w:World)(hT:Tab w 5 kevCells)(hL:Tab w 4 lenCells)(hm:MaxAt w m)(hc:IsCode (cutB (cutA (great s))) cn cl ok)(h4:numOk (cutA (cutA (great s))).data.toList 4=true)(ho:ok=true)(h2:numOk (cutB (great s)).data.toList 2=true)(h0:D10.dateE (numVal (cutA (cutA (great s))).data.toList 4) cn cl (numVal (cutB (great s)).data.toList 2)=0):
  Calls Tryo.prog 7 #[.string s] w fun e w'=>e= .returned (.tuple #[.agg #[.int .i64 (numVal (cutA (cutA (great s))).data.toList 4),.int .i64 (cn),.bool (cl),.int .i64 (numVal (cutB (great s)).data.toList 2)],.int .i64 (0)])/\Below w.heap.size w w':=by
 have g1:=greatB_size 109 77 s
 have g2:=greatB_size 108 76 (greatB 109 77 s)
 have c1:=cutA_size (great s)
 have HR1:=Lib.hid (fun w hm=>replaceAll_byte 109 77 (by decide) s m w hs hm)
 have HR2:=Lib.hid (fun w hm=>replaceAll_byte 108 76 (by decide) (greatB 109 77 s) m w (by omega) hm)
 have HP:=Lib.hid (fun w=>text_part (great s) w (by unfold great;omega))
 rw [show greatB 108 76 (greatB 109 77 s)=great s from rfl]at HR2
 have zA:(cutA (cutA (great s))).size<=1000000:=by have:=cutA_size (cutA (great s));unfold great at*;omega
 have zB:(cutB (cutA (great s))).size<=1000000:=by have:=cutB_size (cutA (great s));unfold great at*;omega
 have zC:(cutB (great s)).size<=1000000:=by have:=cutB_size (great s);unfold great at*;omega
 have HN4:=Lib.hid (fun w=>text_number (cutA (cutA (great s))) 4 w (by omega) (by omega))
 have HN2:=Lib.hid (fun w=>text_number (cutB (great s)) 2 w (by omega) (by omega))
 have HCo:=Lib.hid (fun w=>code_Read_any (cutB (cutA (great s))) cn cl ok w zB hc)
 clear hc g1 g2 c1
 have hI:=numVal_bd (cutA (cutA (great s))).data.toList 4
 have HCk:=Lib.hid (fun w hT hL=>heb_Check (numVal (cutA (cutA (great s))).data.toList 4) cn cl (numVal (cutB (great s)).data.toList 2) w ⟨by omega,by omega⟩ hT hL)
 rw [h4]at HN4
 rw [h2]at HN2
 clear h4 h2 hI
 subst ho
 rw [h0]at HCk
 clear h0
 generalize numVal (cutA (cutA (great s))).data.toList 4=yv at*
 generalize numVal (cutB (great s)).data.toList 2=dv at*
 try generalize numOk (cutA (cutA (great s))).data.toList 4=o4 at*
 try generalize numOk (cutB (great s)).data.toList 2=o2 at*
 generalize greatB 109 77 s=s1 at*
 generalize cutA (cutA (great s))=tA at*
 generalize cutB (cutA (great s))=tB at*
 generalize cutB (great s)=tC at*
 generalize great s=s2 at*
 clear zA zB zC
 go_enter Tryo.func7,Tryz.ntmps7
 go_wp2_with fail
 have hmA:=MaxAt.below hm (ba w (.cells #[.int .i64 0,.int .i64 0,.bool false,.int .i64 0] 25))
 refine(HR1.out _ hmA).mono ?_
 rintro e w1 ⟨rfl,hb1⟩
 obtain⟨hc1,hf1⟩:=bcell hb1
 have hz1:=hb1.size
 try simp at hz1
 have hs1x0:w.heap.size<w1.heap.size:=by omega
 have g1x0:w1.cell? ⟨w.heap.size,0,none⟩=some (.int .i64 0):=cel hc1
 have g1x1:w1.cell? ⟨w.heap.size,1,none⟩=some (.int .i64 0):=cel hc1
 have g1x2:w1.cell? ⟨w.heap.size,2,none⟩=some (.bool false):=cel hc1
 have g1x3:w1.cell? ⟨w.heap.size,3,none⟩=some (.int .i64 0):=cel hc1
 go_wp2_with fail
 refine(HR2.out _ (MaxAt.below hmA hb1)).mono ?_
 rintro e w2 ⟨rfl,hb2⟩
 obtain⟨hc2,hf2⟩:=bcell hb2
 have hz2:=hb2.size
 try simp at hz2
 have hs2x0:w.heap.size<w2.heap.size:=by omega
 have g2x0:w2.cell? ⟨w.heap.size,0,none⟩=some (.int .i64 0):=cel hc2
 have g2x1:w2.cell? ⟨w.heap.size,1,none⟩=some (.int .i64 0):=cel hc2
 have g2x2:w2.cell? ⟨w.heap.size,2,none⟩=some (.bool false):=cel hc2
 have g2x3:w2.cell? ⟨w.heap.size,3,none⟩=some (.int .i64 0):=cel hc2
 go_wp2_with fail
 refine(HP.out _).mono ?_
 rintro e w3 ⟨rfl,hb3⟩
 obtain⟨hc3,hf3⟩:=bcell hb3
 have hz3:=hb3.size
 try simp at hz3
 have hs3x0:w.heap.size<w3.heap.size:=by omega
 have g3x0:w3.cell? ⟨w.heap.size,0,none⟩=some (.int .i64 0):=cel hc3
 have g3x1:w3.cell? ⟨w.heap.size,1,none⟩=some (.int .i64 0):=cel hc3
 have g3x2:w3.cell? ⟨w.heap.size,2,none⟩=some (.bool false):=cel hc3
 have g3x3:w3.cell? ⟨w.heap.size,3,none⟩=some (.int .i64 0):=cel hc3
 go_wp2_with fail
 refine(HN4.out _).mono ?_
 rintro e w' ⟨rfl,rfl⟩
 go_wp2_with fail
 refine(HCo.out _).mono ?_
 rintro e w4 ⟨rfl,hb4⟩
 obtain⟨hc4,hf4⟩:=bcell hb4
 have hz4:=hb4.size
 try simp at hz4
 have hs4x0:w.heap.size<w4.heap.size:=by omega
 have g4x0:w4.cell? ⟨w.heap.size,0,none⟩=some (.int .i64 0):=cel hc4
 have g4x1:w4.cell? ⟨w.heap.size,1,none⟩=some (.int .i64 0):=cel hc4
 have g4x2:w4.cell? ⟨w.heap.size,2,none⟩=some (.bool false):=cel hc4
 have g4x3:w4.cell? ⟨w.heap.size,3,none⟩=some (.int .i64 0):=cel hc4
 go_wp2_with fail
 refine(HN2.out _).mono ?_
 rintro e w' ⟨rfl,rfl⟩
 go_wp2_with fail
 have hq5:w.heap.size<w4.heap.size+1+1:=by omega
 refine(HCk.out _ (Tab.below hT bel) (Tab.below hL bel)).mono ?_
 rintro e w5 ⟨rfl,hb5⟩
 obtain⟨hc5,hf5⟩:=bcell hb5
 have hz5:=hb5.size
 try simp at hz5
 have hs5x0:w.heap.size<w5.heap.size:=by omega
 have hs5x1:(w4.heap.size+1)<w5.heap.size:=by omega
 have g5x0:w5.cell? ⟨w.heap.size,0,none⟩=some (.int .i64 0):=cel hc5
 have g5x1:w5.cell? ⟨w.heap.size,1,none⟩=some (.int .i64 0):=cel hc5
 have g5x2:w5.cell? ⟨w.heap.size,2,none⟩=some (.bool false):=cel hc5
 have g5x3:w5.cell? ⟨w.heap.size,3,none⟩=some (.int .i64 0):=cel hc5
 have g5x4:w5.cell? ⟨(w4.heap.size+1),0,none⟩=some (.int .i64 yv):=cel hc5
 have g5x5:w5.cell? ⟨(w4.heap.size+1),1,none⟩=some (.int .i64 cn):=cel hc5
 have g5x6:w5.cell? ⟨(w4.heap.size+1),2,none⟩=some (.bool cl):=cel hc5
 have g5x7:w5.cell? ⟨(w4.heap.size+1),3,none⟩=some (.int .i64 dv):=cel hc5
 go_wp2_with fail
 clear hc5
 refine bodyPost_ret (v:= .tuple #[.agg #[.int .i64 (yv),.int .i64 (cn),.bool (cl),.int .i64 (dv)],.int .i64 (0)]) (by simp [results,Tryz.results7,go_sem, *]) rfl ⟨rfl, ?_⟩
 exact bel
def rhE(s:ByteArray)(cn:Int)(cl ok:Bool):Int:=if(numOk (cutA (cutA (great s))).data.toList 4&&(ok&&numOk (cutB (great s)).data.toList 2))=true then(if D10.dateE (numVal (cutA (cutA (great s))).data.toList 4) cn cl (numVal (cutB (great s)).data.toList 2)=0 then 0 else 2)else 5
def rhY(s:ByteArray)(cn:Int)(cl ok:Bool):Int:=if rhE s cn cl ok=0 then numVal (cutA (cutA (great s))).data.toList 4 else 0
def rhN(s:ByteArray)(cn:Int)(cl ok:Bool):Int:=if rhE s cn cl ok=0 then cn else 0
def rhL(s:ByteArray)(cn:Int)(cl ok:Bool):Bool:=if rhE s cn cl ok=0 then cl else false
def rhD(s:ByteArray)(cn:Int)(cl ok:Bool):Int:=if rhE s cn cl ok=0 then numVal (cutB (great s)).data.toList 2 else 0
theorem text_ReadHeb(s:ByteArray)(cn:Int)(cl ok:Bool)(m:Int)(hs:s.size<=1000000)(w:World)(hT:Tab w 5 kevCells)(hL:Tab w 4 lenCells)(hm:MaxAt w m)(hc:IsCode (cutB (cutA (great s))) cn cl ok):
  Calls Tryo.prog 7 #[.string s] w fun e w'=>e= .returned (.tuple #[.agg #[.int .i64 (rhY s cn cl ok),.int .i64 (rhN s cn cl ok),.bool (rhL s cn cl ok),.int .i64 (rhD s cn cl ok)],.int .i64 (rhE s cn cl ok)])/\Below w.heap.size w w':=by
 have bad:∀E:Int,rhE s cn cl ok=E->¬ E=0->rhY s cn cl ok=0/\rhN s cn cl ok=0/\rhL s cn cl ok=false/\rhD s cn cl ok=0:=by
  intro E e h
  have h':¬ rhE s cn cl ok=0:=by rw [e];exact h
  unfold rhY rhN rhL rhD
  rw [if_neg h',if_neg h',if_neg h',if_neg h']
  exact⟨rfl,rfl,rfl,rfl⟩
 cases h4:numOk (cutA (cutA (great s))).data.toList 4 with
 |false=>
  have e:rhE s cn cl ok=5:=by unfold rhE;rw [h4];rfl
  obtain⟨e1,e2,e3,e4⟩:=bad 5 e (by omega)
  rw [e,e1,e2,e3,e4]
  exact text_ReadHeb_y s cn cl ok m hs w hT hL hm hc h4
 | true=>
  cases ho:ok with
  |false=>
   subst ho
   have e:rhE s cn cl false=5:=by unfold rhE;rw [h4];rfl
   obtain⟨e1,e2,e3,e4⟩:=bad 5 e (by omega)
   rw [e,e1,e2,e3,e4]
   exact text_ReadHeb_c s cn cl false m hs w hT hL hm hc h4 rfl
  | true=>
   subst ho
   cases h2:numOk (cutB (great s)).data.toList 2 with
   |false=>
    have e:rhE s cn cl true=5:=by unfold rhE;rw [h4,h2];rfl
    obtain⟨e1,e2,e3,e4⟩:=bad 5 e (by omega)
    rw [e,e1,e2,e3,e4]
    exact text_ReadHeb_d s cn cl true m hs w hT hL hm hc h4 rfl h2
   | true=>
    by_cases h0:D10.dateE (numVal (cutA (cutA (great s))).data.toList 4) cn cl (numVal (cutB (great s)).data.toList 2)=0
    ·have e:rhE s cn cl true=0:=by unfold rhE;rw [h4,h2,if_pos (show(true&&(true&&true))=true from rfl),if_pos h0]
     unfold rhY rhN rhL rhD
     rw [if_pos e,if_pos e,if_pos e,if_pos e,e]
     exact text_ReadHeb_ok s cn cl true m hs w hT hL hm hc h4 rfl h2 h0
    ·have e:rhE s cn cl true=2:=by unfold rhE;rw [h4,h2,if_pos (show(true&&(true&&true))=true from rfl),if_neg h0]
     obtain⟨e1,e2,e3,e4⟩:=bad 2 e (by omega)
     rw [e,e1,e2,e3,e4]
     exact text_ReadHeb_range s cn cl true m hs w hT hL hm hc h4 rfl h2 h0
end Go.Proofs.YthpipedifekmpaaGreatDoor
end
section
namespace Go.Proofs.YthpipedifekmpaaGreatDoor
open Go.ChangeShapes Go.WideShapes Go.ChangeAt Go.RowKit
end Go.Proofs.YthpipedifekmpaaGreatDoor
end
section
namespace Go.Proofs.YthpipedifekmpaaGreatDoor
open Go.ChangeShapes Go.WideShapes Go.ChangeAt Go.RowKit
namespace Gr
def before(y m:Int):Int:=((ml y).take (m-1).toNat).sum
def dayOf(y m d:Int):Int:=ahead y+d+before y m
end Gr
end Go.Proofs.YthpipedifekmpaaGreatDoor
end
section
namespace Go.Proofs.YthpipedifekmpaaGreatDoor
open Go.ChangeShapes Go.WideShapes Go.ChangeAt Go.RowKit
end Go.Proofs.YthpipedifekmpaaGreatDoor
end
section
namespace Go.Proofs.YthpipedifekmpaaGreatDoor
open Go.ChangeShapes Go.WideShapes Go.ChangeAt Go.RowKit
namespace Gr
end Gr
end Go.Proofs.YthpipedifekmpaaGreatDoor
end
section
namespace Go.Proofs.YthpipedifekmpaaGreatDoor
open Go.ChangeShapes Go.WideShapes Go.ChangeAt Go.RowKit
def bare(s:ByteArray):ByteArray:=⟨(Go.Lib.trimPrefix s.data.toList [45]).toArray⟩
end Go.Proofs.YthpipedifekmpaaGreatDoor
end
section
namespace Go.Proofs.YthpipedifekmpaaGreatDoor
open Go.ChangeShapes Go.WideShapes Go.ChangeAt Go.RowKit
end Go.Proofs.YthpipedifekmpaaGreatDoor
end
section
namespace Go.Proofs.YthpipedifekmpaaGreatDoor
open Go.ChangeShapes Go.WideShapes Go.ChangeAt Go.RowKit
namespace D13
def P(u v:Int)(X:Bool):Bool:=decide (u<v)||(decide (u=v)&&X)
theorem P_comb(q r q' r':Int)(X:Bool)(h1:0<=r)(h2:r<10)(h3:0<=r')(h4:r'<10):P q q' (P r r' X)=P (10*q+r) (10*q'+r') X:=by
 cases X <;> simp only [P,Bool.and_false,Bool.and_true,Bool.or_false] <;> rw [Bool.eq_iff_iff] <;> simp <;> omega
theorem P_add(c u v:Int)(X:Bool):P (c+u) (c+v) X=P u v X:=by
 cases X <;> simp only [P,Bool.and_false,Bool.and_true,Bool.or_false] <;> rw [Bool.eq_iff_iff] <;> simp <;> omega
theorem bl(a b:Nat)(x y:List UInt8)(ha:a<256)(hb:b<256):Op.bytesLess (UInt8.ofNat a :: x) (UInt8.ofNat b :: y)=P (a:Int) (b:Int) (Op.bytesLess x y):=by
 have e1:(UInt8.ofNat a).toNat=a:=by simp;omega
 have e2:(UInt8.ofNat b).toNat=b:=by simp;omega
 have k1:decide (UInt8.ofNat a<UInt8.ofNat b)=decide ((a:Int)<(b:Int)):=by
  rw [decide_eq_decide,UInt8.lt_iff_toNat_lt,e1,e2];omega
 have k2:(UInt8.ofNat a==UInt8.ofNat b)=decide ((a:Int)=(b:Int)):=by
  rw [Bool.eq_iff_iff]
  simp only [beq_iff_eq,decide_eq_true_eq]
  rw [←UInt8.toNat_inj,e1,e2];omega
 simp only [Op.bytesLess,P,k1,k2]
theorem bl_same(c:UInt8)(x y:List UInt8):Op.bytesLess (c :: x) (c :: y)=Op.bytesLess x y:=by simp [Op.bytesLess]
theorem bl_refl:∀x:List UInt8,Op.bytesLess x x=false
 | []=>rfl
 |c :: x=>by rw [bl_same];exact bl_refl x
theorem bl_lt(x y:List UInt8):Op.bytesLess (45 :: x) (76 :: y)=true:=by simp [Op.bytesLess]
theorem bl_gt(x y:List UInt8):Op.bytesLess (76 :: x) (45 :: y)=false:=by simp [Op.bytesLess]
def B(n p:Int):UInt8:=UInt8.ofNat (digB n p).toNat
theorem bl_dig(n m p:Int)(x y:List UInt8):Op.bytesLess (B n p :: x) (B m p :: y)=P (n / p % 10) (m / p % 10) (Op.bytesLess x y):=by
 have h1:=digB_bd n p
 have h2:=digB_bd m p
 unfold B
 rw [bl _ _ _ _ (by omega) (by omega),Int.toNat_of_nonneg (by omega),Int.toNat_of_nonneg (by omega)]
 exact P_add 48 _ _ _
theorem bl_num2(n m:Nat)(hn:n<100)(hm:m<100)(x y:List UInt8):Op.bytesLess (UInt8.ofNat (48+n / 10) :: UInt8.ofNat (48+n % 10) :: x) (UInt8.ofNat (48+m / 10) :: UInt8.ofNat (48+m % 10) :: y)=P (n:Int) (m:Int) (Op.bytesLess x y):=by
 rw [bl _ _ _ _ (by omega) (by omega),bl _ _ _ _ (by omega) (by omega)]
 rw [show((48+n / 10:Nat):Int)=48+(n:Int) / 10 by omega,show((48+m / 10:Nat):Int)=48+(m:Int) / 10 by omega,show((48+n % 10:Nat):Int)=48+(n:Int) % 10 by omega,show((48+m % 10:Nat):Int)=48+(m:Int) % 10 by omega,P_add,P_add,P_comb _ _ _ _ _ (by omega) (by omega) (by omega) (by omega)]
 rw [show 10*((n:Int) / 10)+(n:Int) % 10=n by omega,show 10*((m:Int) / 10)+(m:Int) % 10=m by omega]
theorem bl_d2(n m:Int)(h1:0<=n)(h2:n<100)(h3:0<=m)(h4:m<100)(x y:List UInt8):Op.bytesLess (B n 10 :: B n 1 :: x) (B m 10 :: B m 1 :: y)=P n m (Op.bytesLess x y):=by
 rw [bl_dig,bl_dig,P_comb _ _ _ _ _ (by omega) (by omega) (by omega) (by omega)]
 rw [show 10*(n / 10 % 10)+n / 1 % 10=n by omega,show 10*(m / 10 % 10)+m / 1 % 10=m by omega]
theorem bl_d4(n m:Int)(h1:0<=n)(h2:n<10000)(h3:0<=m)(h4:m<10000)(x y:List UInt8):Op.bytesLess (B n 1000 :: B n 100 :: B n 10 :: B n 1 :: x) (B m 1000 :: B m 100 :: B m 10 :: B m 1 :: y)=P n m (Op.bytesLess x y):=by
 rw [bl_dig,bl_dig,bl_dig,bl_dig,P_comb _ _ _ _ _ (by omega) (by omega) (by omega) (by omega)]
 rw [show 10*(n / 1000 % 10)+n / 100 % 10=n / 100 by omega,show 10*(m / 1000 % 10)+m / 100 % 10=m / 100 by omega,P_comb _ _ _ _ _ (by omega) (by omega) (by omega) (by omega)]
 rw [show 10*(n / 100)+n / 10 % 10=n / 10 by omega,show 10*(m / 100)+m / 10 % 10=m / 10 by omega,P_comb _ _ _ _ _ (by omega) (by omega) (by omega) (by omega)]
 rw [show 10*(n / 10)+n / 1 % 10=n by omega,show 10*(m / 10)+m / 1 % 10=m by omega]
theorem heb_list(y n:Int)(l:Bool)(d:Int)(h:Cal.right n l=true):(hebTxt y n l d).toList=B y 1000 :: B y 100 :: B y 10 :: B y 1 :: 45 :: 77 :: UInt8.ofNat (48+n.toNat / 10) :: UInt8.ofNat (48+n.toNat % 10) :: ((if l then [76]else [])++ [45,B d 10,B d 1]):=by
 rw [Lib.toList_data]
 unfold hebTxt txtV codeTxt
 rw [h]
 cases l <;> simp [digs,B]
theorem right_bd{n:Int}{l:Bool}(h:Cal.right n l=true):1<=n/\n<=12:=by simp [Cal.right]at h;omega
theorem order{y n d z k f:Int}{l h:Bool}(h1:D10.dateE y n l d=0)(h2:D10.dateE z k h f=0):Op.bytesLess (hebTxt y n l d).toList (hebTxt z k h f).toList=D10.lessD y n l d z k h f:=by
 obtain⟨⟨a1,a2,a3,a4,a5,a6⟩,a7⟩:=D10.date_valid h1
 obtain⟨⟨b1,b2,b3,b4,b5,b6⟩,b7⟩:=D10.date_valid h2
 have a8:=(D10.len_bd y _ a1 a2 a3 a4).2
 have b8:=(D10.len_bd z _ b1 b2 b3 b4).2
 have r1:Cal.right n l=true:=by simp [Cal.plOk]at a7;exact a7.1
 have r2:Cal.right k h=true:=by simp [Cal.plOk]at b7;exact b7.1
 have n1:=right_bd r1
 have n2:=right_bd r2
 rw [heb_list _ _ _ _ r1,heb_list _ _ _ _ r2,bl_d4 _ _ (by omega) (by omega) (by omega) (by omega),bl_same,bl_same,bl_num2 _ _ (by omega) (by omega),Int.toNat_of_nonneg (by omega),Int.toNat_of_nonneg (by omega)]
 have e:Op.bytesLess ((if l then [76]else [])++ [45,B d 10,B d 1]) ((if h then [76]else [])++ [45,B f 10,B f 1])=if l=h then decide (d<f)else(!l&&h):=by
  have q:Op.bytesLess [B d 10,B d 1] [B f 10,B f 1]=decide (d<f):=by
   rw [bl_d2 _ _ (by omega) (by omega) (by omega) (by omega)];simp [P,Op.bytesLess]
  cases l <;> cases h
  ·simp only [Bool.false_eq_true,if_false,List.nil_append,if_true,bl_same];exact q
  ·exact bl_lt _ _
  ·exact bl_gt _ _
  ·show Op.bytesLess (76 :: 45 :: [B d 10,B d 1]) (76 :: 45 :: [B f 10,B f 1])=_
   rw [bl_same,bl_same,q];rfl
 rw [e]
 unfold D10.lessD Cal.lessV P
 by_cases c1:y=z
 ·by_cases c2:n=k
  ·by_cases c3:l=h <;> simp [c1,c2,c3]
  ·simp [c1,c2]
 ·simp [c1]
theorem alike{y n d z k f:Int}{l h:Bool}(h1:D10.dateE y n l d=0)(h2:D10.dateE z k h f=0):((hebTxt y n l d).toList==(hebTxt z k h f).toList)=decide (y=z/\n=k/\l=h/\d=f):=by
 by_cases c:y=z/\n=k/\l=h/\d=f
 ·obtain⟨rfl,rfl,rfl,rfl⟩:=c
  simp
 ·have e:¬ (hebTxt y n l d).toList=(hebTxt z k h f).toList:=fun e=>by
   have p:=order h1 h2
   have q:=order h2 h1
   rw [e,bl_refl,D10.less_day h1 h2]at p
   rw [e,bl_refl,D10.less_day h2 h1]at q
   have p:=(decide_eq_false_iff_not.1 p.symm)
   have q:=(decide_eq_false_iff_not.1 q.symm)
   exact c (D10.same_day h1 h2 (by omega))
  rw [decide_eq_false c]
  simpa using e
end D13
end Go.Proofs.YthpipedifekmpaaGreatDoor
end
section
namespace Go.Proofs.YthpipedifekmpaaGreatDoor
open Go.ChangeShapes Go.WideShapes Go.ChangeAt Go.RowKit
namespace D13
theorem ext{a b:ByteArray}(h:a.data.toList=b.data.toList):a=b:=by
 cases a;cases b
 simp only [ByteArray.mk.injEq]
 exact Array.toList_inj.1 h
theorem split_last:∀l:List UInt8,(∃b c,l=b++45 :: c/\∀x∈c,¬ x=45)∨(∀x∈l,¬ x=45)
 | []=> .inr (by simp)
 | x :: l=>by
  rcases split_last l with ⟨b,c,rfl,h⟩|h
  ·exact .inl ⟨x :: b,c,rfl,h⟩
  ·by_cases e:x=45
   ·exact .inl ⟨[],l,by rw [e];rfl,h⟩
   ·exact .inr (by simpa [e]using h)
theorem get_at(s:ByteArray)(i:Nat)(h:i<s.data.toList.length):s.data[i]! =s.data.toList[i]:=by
 rw [getElem!_pos s.data i (by simpa using h)]
 simp
theorem last_some{s:ByteArray}{b c:List UInt8}(e:s.data.toList=b++45 :: c)(h:∀x∈c,¬ x=45):Go.Lib.lastIndexByte s 45=(b.length:Int):=by
 have hsz:s.size=b.length+1+c.length:=by
  have:s.data.toList.length=s.size:=by simp
  rw [←this,e];simp;omega
 have hl:s.data.toList.length=s.size:=by simp
 have hat:s.data.toList[b.length]'(by omega)=45:=by simp [e]
 rcases Go.Lib.lastIndexByte_spec s 45 with ⟨_,g⟩|⟨i,hi,g,g1,g2⟩
 ·have:=g b.length (by omega)
  rw [get_at _ _ (by omega),hat]at this
  exact absurd rfl this
 ·rw [g]
  rcases Nat.lt_trichotomy i b.length with q|q|q
  ·have:=g2 b.length q (by omega)
   rw [get_at _ _ (by omega),hat]at this
   exact absurd rfl this
  ·rw [q]
  ·rw [get_at _ _ (by omega)]at g1
   have hx:s.data.toList[i]'(by omega)∈c:=by
    simp only [e]
    rw [List.getElem_append_right (by omega)]
    obtain⟨j,hj⟩:∃j,i-b.length=j+1:=⟨i-b.length-1,by omega⟩
    simp only [hj,List.getElem_cons_succ]
    exact List.getElem_mem _
   exact absurd (by rw [←UInt8.toNat_inj];show _=45;omega) (h _ hx)
theorem last_none{s:ByteArray}(h:∀x∈s.data.toList,¬ x=45):Go.Lib.lastIndexByte s 45= -1:=by
 have hl:s.data.toList.length=s.size:=by simp
 rcases Go.Lib.lastIndexByte_spec s 45 with ⟨e,_⟩|⟨i,hi,e,e1,e2⟩
 ·exact e
 ·rw [get_at _ _ (by omega)]at e1
  have hx:s.data.toList[i]'(by omega)=45:=by rw [←UInt8.toNat_inj];show _=45;omega
  exact absurd hx (h _ (List.getElem_mem _))
theorem ext_take(s:ByteArray)(i j:Nat):(s.extract i j).data.toList=(s.data.toList.take j).drop i:=by
 simp [List.drop_take]
theorem cut_dash{s:ByteArray}{b c:List UInt8}(e:s.data.toList=b++45 :: c)(h:∀x∈c,¬ x=45):(cutA s).data.toList=b/\(cutB s).data.toList=c:=by
 have hi:=last_some e h
 have hl:s.data.toList.length=s.size:=by simp
 unfold cutA cutB
 rw [hi,if_neg (by omega),if_neg (by omega),Int.toNat_natCast,ext_take,ext_take,←hl,List.take_length,e]
 simp
theorem cut_no{s:ByteArray}(h:∀x∈s.data.toList,¬ x=45):(cutA s).data.toList= []/\cutB s=s:=by
 unfold cutA cutB
 rw [last_none h,if_pos (by omega),if_pos (by omega)]
 exact⟨rfl,rfl⟩
theorem dig_ne{x:UInt8}(h:isDig x=true):¬ x=45/\¬ x=76/\¬ x=77/\¬ x=108/\¬ x=109:=by
 refine⟨?_, ?_, ?_, ?_, ?_⟩ <;> (rintro rfl;revert h;decide)
theorem three{X:ByteArray}(h4:numOk (cutA (cutA X)).data.toList 4=true)(h2:numOk (cutB X).data.toList 2=true):X.data.toList=(cutA (cutA X)).data.toList++45 :: ((cutB (cutA X)).data.toList++45 :: (cutB X).data.toList):=by
 have no:∀{t:ByteArray},t.data.toList= []->numOk (cutA t).data.toList 4=false:=fun {t} h=>by
  rw [(cut_no (s:=t) (by rw [h];simp)).1];rfl
 rcases split_last X.data.toList with ⟨b,c,e,h⟩|h
 ·obtain⟨a1,a2⟩:=cut_dash e h
  rcases split_last b with ⟨b',c',e',h'⟩|h'
  ·obtain⟨a3,a4⟩:=cut_dash (s:=cutA X) (a1.trans e') h'
   rw [a3,a4,a2,e,e']
   simp
  ·rw [(cut_no (s:=cutA X) (by rw [a1];exact h')).1]at h4
   cases h4
 ·rw [no (cut_no h).1]at h4
  cases h4
theorem B_dig(n p:Int):isDig (B n p)=true/\((B n p).toNat:Int)=48+n / p % 10:=by
 have h:=digB_bd n p
 unfold B
 have e:(UInt8.ofNat (digB n p).toNat).toNat=(digB n p).toNat:=by simp;omega
 refine⟨by unfold isDig;rw [e];simp;omega, ?_⟩
 rw [e];unfold digB at h⊢;omega
theorem digs4_list(n:Int):(digs n [1000,100,10,1]).data.toList= [B n 1000,B n 100,B n 10,B n 1]:=by simp [digs,B]
theorem digs2_list(n:Int):(digs n [10,1]).data.toList= [B n 10,B n 1]:=by simp [digs,B]
theorem digs4_ok{n:Int}(h0:0<=n)(h1:n<=9999):numOk (digs n [1000,100,10,1]).data.toList 4=true/\numVal (digs n [1000,100,10,1]).data.toList 4=n:=by
 have a:=B_dig n 1000;have b:=B_dig n 100;have c:=B_dig n 10;have d:=B_dig n 1
 have ok:numOk (digs n [1000,100,10,1]).data.toList 4=true:=by rw [digs4_list];simp [numOk,a.1,b.1,c.1,d.1]
 refine⟨ok, ?_⟩
 unfold numVal
 rw [if_pos ok,digs4_list]
 simp only [numFold,List.foldl_cons,List.foldl_nil]
 omega
theorem digs2_ok{n:Int}(h0:0<=n)(h1:n<=99):numOk (digs n [10,1]).data.toList 2=true/\numVal (digs n [10,1]).data.toList 2=n:=by
 have c:=B_dig n 10;have d:=B_dig n 1
 have ok:numOk (digs n [10,1]).data.toList 2=true:=by rw [digs2_list];simp [numOk,c.1,d.1]
 refine⟨ok, ?_⟩
 unfold numVal
 rw [if_pos ok,digs2_list]
 simp only [numFold,List.foldl_cons,List.foldl_nil]
 omega
theorem dig_bd{x:UInt8}(h:isDig x=true):48<=(x.toNat:Int)/\(x.toNat:Int)<=57:=by
 unfold isDig at h
 simp only [Bool.and_eq_true,decide_eq_true_eq]at h
 omega
theorem B_of{n p:Int}{x:UInt8}(h:48+n / p % 10=(x.toNat:Int)):B n p=x:=by
 rw [←UInt8.toNat_inj]
 have:=(B_dig n p).2
 omega
theorem digs4_back{l:List UInt8}(h:numOk l 4=true):(digs (numVal l 4) [1000,100,10,1]).data.toList=l:=by
 have hv:numVal l 4=numFold l:=by unfold numVal;rw [if_pos h]
 rw [hv]
 unfold numOk at h
 simp only [Bool.and_eq_true,decide_eq_true_eq]at h
 match l,h with
 | [a,b,c,d],⟨_,h⟩=>
  simp only [List.all_cons,List.all_nil,Bool.and_true,Bool.and_eq_true]at h
  have ha:=dig_bd h.1;have hb:=dig_bd h.2.1;have hc:=dig_bd h.2.2.1;have hd:=dig_bd h.2.2.2
  rw [digs4_list]
  simp only [numFold,List.foldl_cons,List.foldl_nil]
  rw [B_of (x:=a) (by omega),B_of (x:=b) (by omega),B_of (x:=c) (by omega),B_of (x:=d) (by omega)]
theorem digs2_back{l:List UInt8}(h:numOk l 2=true):(digs (numVal l 2) [10,1]).data.toList=l:=by
 have hv:numVal l 2=numFold l:=by unfold numVal;rw [if_pos h]
 rw [hv]
 unfold numOk at h
 simp only [Bool.and_eq_true,decide_eq_true_eq]at h
 match l,h with
 | [c,d],⟨_,h⟩=>
  simp only [List.all_cons,List.all_nil,Bool.and_true,Bool.and_eq_true]at h
  have hc:=dig_bd h.1;have hd:=dig_bd h.2
  rw [digs2_list]
  simp only [numFold,List.foldl_cons,List.foldl_nil]
  rw [B_of (x:=c) (by omega),B_of (x:=d) (by omega)]
def g(x:UInt8):UInt8:=Rep.sub 108 76 (Rep.sub 109 77 x)
theorem great_list(s:ByteArray):(great s).data.toList=s.data.toList.map g:=by
 show((((s.data.toList.map (Rep.sub 109 77)).toArray).toList.map (Rep.sub 108 76)).toArray).toList=_
 simp [g,Function.comp_def]
theorem g_same{x:UInt8}(h1:¬ x=108)(h2:¬ x=109):g x=x:=by simp [g,Rep.sub,h1,h2]
theorem g_back{x v:UInt8}(h:g x=v)(h1:¬ v=76)(h2:¬ v=77):x=v:=by
 unfold g Rep.sub at h
 by_cases c:x=109
 ·rw [if_pos c,if_neg (by decide)]at h;exact absurd h.symm h2
 ·rw [if_neg c]at h
  by_cases c2:x=108
  ·rw [if_pos c2]at h;exact absurd h.symm h1
  ·rw [if_neg c2]at h;exact h
theorem code_bytes{n:Int}{l:Bool}(h:Cal.right n l=true):∀x∈(codeTxt n l).data.toList,¬ x=45/\¬ x=108/\¬ x=109:=by
 have hr:1<=n/\n<=12:=by simp [Cal.right]at h;omega
 have hn:n=1∨n=2∨n=3∨n=4∨n=5∨n=6∨n=7∨n=8∨n=9∨n=10∨n=11∨n=12:=by omega
 rcases hn with rfl|rfl|rfl|rfl|rfl|rfl|rfl|rfl|rfl|rfl|rfl|rfl <;> cases l <;> first|(exfalso;revert h;decide)|decide+kernel
theorem heb_parts(y n:Int)(l:Bool)(d:Int)(h:Cal.right n l=true):(hebTxt y n l d).data.toList=(digs y [1000,100,10,1]).data.toList++45 :: ((codeTxt n l).data.toList++45 :: (digs d [10,1]).data.toList):=by
 unfold hebTxt txtV
 rw [h]
 simp
theorem heb_date{y n d:Int}{l:Bool}(h:D10.dateE y n l d=0):Cal.right n l=true/\1<=y/\y<=9999/\1<=d/\d<=30:=by
 obtain⟨⟨a1,a2,a3,a4,a5,a6⟩,a7⟩:=D10.date_valid h
 have a8:=(D10.len_bd y _ a1 a2 a3 a4).2
 have r1:Cal.right n l=true:=by simp [Cal.plOk]at a7;exact a7.1
 exact⟨r1,a1,a2,a5,by omega⟩
theorem read_heb{y n d:Int}{l:Bool}(h:D10.dateE y n l d=0):
  IsCode (cutB (cutA (great (hebTxt y n l d)))) n l true/\rhE (hebTxt y n l d) n l true=0/\rhY (hebTxt y n l d) n l true=y/\rhN (hebTxt y n l d) n l true=n/\rhL (hebTxt y n l d) n l true=l/\rhD (hebTxt y n l d) n l true=d:=by
 obtain⟨r1,y1,y2,d1,d2⟩:=heb_date h
 have hp:=heb_parts y n l d r1
 have q4:=digs4_ok (n:=y) (by omega) y2
 have q2:=digs2_ok (n:=d) (by omega) (by omega)
 have n4:∀x∈(digs y [1000,100,10,1]).data.toList,isDig x=true:=by
  have:=q4.1;unfold numOk at this;simp only [Bool.and_eq_true]at this;exact List.all_eq_true.1 this.2
 have n2:∀x∈(digs d [10,1]).data.toList,isDig x=true:=by
  have:=q2.1;unfold numOk at this;simp only [Bool.and_eq_true]at this;exact List.all_eq_true.1 this.2
 have nc:=code_bytes r1
 have hg:great (hebTxt y n l d)=hebTxt y n l d:=by
  apply ext
  rw [great_list]
  refine(List.map_congr_left (g:=id) ?_).trans (List.map_id _)
  intro x hx
  show g x=x
  rw [hp]at hx
  simp only [List.mem_append,List.mem_cons]at hx
  rcases hx with hx|rfl|hx|rfl|hx
  ·exact g_same (dig_ne (n4 x hx)).2.2.2.1 (dig_ne (n4 x hx)).2.2.2.2
  ·rfl
  ·exact g_same (nc x hx).2.1 (nc x hx).2.2
  ·rfl
  ·exact g_same (dig_ne (n2 x hx)).2.2.2.1 (dig_ne (n2 x hx)).2.2.2.2
 obtain⟨a1,a2⟩:=cut_dash (s:=hebTxt y n l d) (b:=(digs y [1000,100,10,1]).data.toList++45 :: (codeTxt n l).data.toList) (c:=(digs d [10,1]).data.toList) (by rw [hp];simp) (fun x hx=>(dig_ne (n2 x hx)).1)
 obtain⟨a3,a4⟩:=cut_dash (s:=cutA (hebTxt y n l d)) a1 (fun x hx=>(nc x hx).1)
 have e:rhE (hebTxt y n l d) n l true=0:=by
  unfold rhE
  rw [hg,a2,a3,q4.1,q4.2,q2.1,q2.2,h]
  rfl
 refine⟨.inl ⟨rfl,r1,by rw [hg];exact(ext a4).symm⟩,e, ?_, ?_, ?_, ?_⟩
 ·unfold rhY;rw [if_pos e,hg,a3,q4.2]
 ·unfold rhN;rw [if_pos e]
 ·unfold rhL;rw [if_pos e]
 ·unfold rhD;rw [if_pos e,hg,a2,q2.2]
theorem heb_back{s:ByteArray}{n:Int}{l ok:Bool}(hc:IsCode (cutB (cutA (great s))) n l ok)(h:rhE s n l ok=0):
  D10.dateE (rhY s n l ok) (rhN s n l ok) (rhL s n l ok) (rhD s n l ok)=0/\hebTxt (rhY s n l ok) (rhN s n l ok) (rhL s n l ok) (rhD s n l ok)=great s:=by
 have h':=h
 unfold rhE at h'
 by_cases c:(numOk (cutA (cutA (great s))).data.toList 4&&(ok&&numOk (cutB (great s)).data.toList 2))=true
 ·rw [if_pos c]at h'
  simp only [Bool.and_eq_true]at c
  obtain⟨c4,rfl,c2⟩:=c
  by_cases hd:D10.dateE (numVal (cutA (cutA (great s))).data.toList 4) n l (numVal (cutB (great s)).data.toList 2)=0
  ·have ey:rhY s n l true=numVal (cutA (cutA (great s))).data.toList 4:=if_pos h
   have en:rhN s n l true=n:=if_pos h
   have el:rhL s n l true=l:=if_pos h
   have ed:rhD s n l true=numVal (cutB (great s)).data.toList 2:=if_pos h
   rw [ey,en,el,ed]
   refine⟨hd,ext ?_⟩
   rcases hc with ⟨_,r,e⟩|⟨g0,_⟩
   ·rw [heb_parts _ _ _ _ r,digs4_back c4,digs2_back c2,e]
    exact(three c4 c2).symm
   ·cases g0
  ·rw [if_neg hd]at h';omega
 ·rw [if_neg c]at h';omega
theorem heb_ends{s t:ByteArray}{y n d:Int}{l:Bool}(hr:Cal.right n l=true)(e:hebTxt y n l d=great s)(ht:t=great s):t.size=s.size/\11<=s.size/\t.extract 0 4=s.extract 0 4/\t.extract (s.size-3) s.size=s.extract (s.size-3) s.size:=by
 have hp:=heb_parts y n l d hr
 rw [e,great_list,digs4_list,digs2_list]at hp
 have hl:s.data.toList.length=s.size:=by simp
 have hts:t.size=s.size:=by rw [ht];unfold great;rw [greatB_size,greatB_size]
 have cl:3<=(codeTxt n l).data.toList.length:=by
  have hr2:1<=n/\n<=12:=right_bd hr
  unfold codeTxt
  cases l <;> simp
 have hlen:=congrArg List.length hp
 simp only [List.length_map,List.length_append,List.length_cons,List.length_nil]at hlen
 have tl:t.data.toList=s.data.toList.map g:=by rw [ht];exact great_list s
 refine⟨hts,by omega,ext ?_,ext ?_⟩
 ·rw [ext_take,ext_take,tl]
  have e1:(s.data.toList.map g).take 4= [B y 1000,B y 100,B y 10,B y 1]:=by rw [hp];rfl
  simp only [List.drop_zero]
  rw [←List.map_take]at e1⊢
  have:∀ (L M:List UInt8),L.map g=M->(∀v∈M,¬ v=76/\¬ v=77)->L.map g=L:=by
   intro L
   induction L with
   |nil=>intro M _ _;rfl
   | cons x L ih=>
    intro M hM hv
    cases M with
    |nil=>simp at hM
    |cons v M=>
     simp only [List.map_cons,List.cons.injEq]at hM
     have hx:=g_back hM.1 (hv v List.mem_cons_self).1 (hv v List.mem_cons_self).2
     simp only [List.map_cons]
     rw [ih M hM.2 (fun u hu=>hv u (List.mem_cons_of_mem _ hu)),hM.1,hx]
  refine this _ _ e1 (fun v hv=> ?_)
  simp only [List.mem_cons,List.not_mem_nil,or_false]at hv
  rcases hv with rfl|rfl|rfl|rfl <;> exact⟨(dig_ne (B_dig _ _).1).2.1,(dig_ne (B_dig _ _).1).2.2.1⟩
 ·rw [ext_take,ext_take,tl]
  have hk:s.size-3=([B y 1000,B y 100,B y 10,B y 1]++45 :: (codeTxt n l).data.toList).length:=by
   simp only [List.length_append,List.length_cons,List.length_nil];omega
  have e1:(s.data.toList.map g).drop (s.size-3)= [45,B d 10,B d 1]:=by
   rw [hp,hk]
   rw [show [B y 1000,B y 100,B y 10,B y 1]++45 :: ((codeTxt n l).data.toList++45 :: [B d 10,B d 1])=([B y 1000,B y 100,B y 10,B y 1]++45 :: (codeTxt n l).data.toList)++ [45,B d 10,B d 1] by simp]
   exact List.drop_left
  rw [List.take_of_length_le (by simp),List.take_of_length_le (by simp)]
  rw [←List.map_drop]at e1⊢
  have:∀ (L M:List UInt8),L.map g=M->(∀v∈M,¬ v=76/\¬ v=77)->L.map g=L:=by
   intro L
   induction L with
   |nil=>intro M _ _;rfl
   | cons x L ih=>
    intro M hM hv
    cases M with
    |nil=>simp at hM
    |cons v M=>
     simp only [List.map_cons,List.cons.injEq]at hM
     have hx:=g_back hM.1 (hv v List.mem_cons_self).1 (hv v List.mem_cons_self).2
     simp only [List.map_cons]
     rw [ih M hM.2 (fun u hu=>hv u (List.mem_cons_of_mem _ hu)),hM.1,hx]
  refine this _ _ e1 (fun v hv=> ?_)
  simp only [List.mem_cons,List.not_mem_nil,or_false]at hv
  rcases hv with rfl|rfl|rfl
  ·exact⟨by decide,by decide⟩
  ·exact⟨(dig_ne (B_dig _ _).1).2.1,(dig_ne (B_dig _ _).1).2.2.1⟩
  ·exact⟨(dig_ne (B_dig _ _).1).2.1,(dig_ne (B_dig _ _).1).2.2.1⟩
end D13
end Go.Proofs.YthpipedifekmpaaGreatDoor
end
section
namespace Go.Proofs.YthpipedifekmpaaGreatDoor
open Go.ChangeShapes Go.WideShapes Go.ChangeAt Go.RowKit
namespace D13
theorem num_bd4(l:List UInt8):0<=numVal l 4/\numVal l 4<=9999:=by
 unfold numVal
 split
 ·rename_i h
  unfold numOk at h
  simp only [Bool.and_eq_true,decide_eq_true_eq]at h
  match l,h with
  | [a,b,c,d],⟨_,h⟩=>
   simp only [List.all_cons,List.all_nil,Bool.and_true,Bool.and_eq_true]at h
   have ha:=dig_bd h.1;have hb:=dig_bd h.2.1;have hc:=dig_bd h.2.2.1;have hd:=dig_bd h.2.2.2
   simp only [numFold,List.foldl_cons,List.foldl_nil]
   omega
 ·omega
theorem heb_size{y n d:Int}{l:Bool}(hr:Cal.right n l=true):(hebTxt y n l d).size<=100:=by
 have h:=congrArg List.length (heb_parts y n l d hr)
 rw [digs4_list,digs2_list]at h
 have hl:(hebTxt y n l d).data.toList.length=(hebTxt y n l d).size:=by simp
 rw [hl]at h
 have:(codeTxt n l).data.toList.length<=4:=by unfold codeTxt;cases l <;> simp
 simp only [List.length_append,List.length_cons,List.length_nil]at h
 omega
theorem rhE_cases(s:ByteArray)(n:Int)(l ok:Bool):rhE s n l ok=0∨rhE s n l ok=5∨rhE s n l ok=2:=by
 unfold rhE;split
 ·split <;> simp
 ·simp
theorem rhY_bd(s:ByteArray)(n:Int)(l ok:Bool):I64 (rhY s n l ok):=by
 have:=num_bd4 (cutA (cutA (great s))).data.toList
 unfold rhY I64;split <;> omega
end D13
end Go.Proofs.YthpipedifekmpaaGreatDoor
end
