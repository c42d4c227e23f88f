import Derived.Test.YtljbnicolhhicaaGreatDoorZLibS
import Derived.Test.YtljbnicolhhicaaGreatDoorZTX
import Derived.Test.YtljbnicolhhicaaGreatDoorZG2
set_option linter.defProp false
set_option maxHeartbeats 8000000
set_option maxRecDepth 100000
set_option linter.unusedVariables false
namespace Go.Proofs.YtljbnicolhhicaaGreatDoor
section
open Go.ChangeShapes Go.WideShapes Go.ChangeAt Go.RowKit
theorem IK(s:ByteArray)(M:Int)(w:World)(hs:s.size<=9223372036854775807)(h:((s.size:Int)!=M)=true):
  vC 54 #[.string s,.int .i64 M] w (.tuple #[.int .i64 0,.bool false]):=by
 go_enter (vF Tryz.func54),Tryz.ntmps54
 go_wp2_with fail
 go_ret2
 exact⟨rfl,rfl⟩
theorem G7(s:ByteArray)(w:World)(hs:s.size<=4):
  vC 54 #[.string s,.int .i64 s.size] w (.tuple #[.int .i64 (aH s.data.toList s.size),.bool (aZ s.data.toList s.size)]):=by
 have hlen:s.data.toList.length=s.size:=vS
 have HOk:=Lib.hid (show aZ s.data.toList s.size=s.data.toList.all fK by unfold aZ;rw [hlen];simp)
 have HV:=Lib.hid (show aH s.data.toList s.size=if s.data.toList.all fK then fH s.data.toList else 0 by unfold aH;rw [HOk.out])
 generalize hvv:aH s.data.toList s.size=vv at HV
 generalize hoo:aZ s.data.toList s.size=oo at HOk
 clear hlen hvv hoo
 go_enter (vF Tryz.func54),Tryz.ntmps54
 go_wp2_with fail
 go_loop [6,13] (fun n i=>∃k:Nat,k<=s.size/\i= .int .i64 k/\n= .int .i64 (fH (s.data.toList.take k))/\Hid ((s.data.toList.take k).all fK=true)) (fun _ i=>s.size-(intOf i).toNat)
 case atStart=>exact⟨0,Nat.zero_le _,rfl,rfl,Lib.hid rfl⟩
 case round=>
  obtain⟨k,hk,rfl,rfl,hA⟩:=hrel
  have hbd:=sV _ hA.out
  have hlt4:(s.data.toList.take k).length<=k:=List.length_take_le _ _
  by_cases hlt:k<s.size
  ·have hpow:(10:Int) ^ (s.data.toList.take k).length<=1000:=by
    rcases(show(s.data.toList.take k).length=0∨(s.data.toList.take k).length=1∨(s.data.toList.take k).length=2∨(s.data.toList.take k).length=3 by omega)with h|h|h|h <;> rw [h] <;> decide
   have hF0:=hbd.1
   have hF1:fH (s.data.toList.take k)<1000:=vO
   have hsn:=uw (s.data.toList.take k) s[k]
   rw [←take_snoc' s k hlt]at hsn
   have hall:fK s[k]=true->(s.data.toList.take (k+1)).all fK=true:=fun h=>by rw [take_snoc' s k hlt,List.all_append,hA.out];simpa using h
   have hno:=Pw s k hlt
   have HS:=Lib.hid (And.intro hsn (And.intro hall hno))
   clear hsn hall hno hbd hpow hlt4
   by_cases h48:48<=(s[k].toNat:Int)
   ·by_cases h57:(s[k].toNat:Int)<=57
    ·have hdig:fK s[k]=true:=by unfold fK;simp;omega
     have HD:=Lib.hid hdig
     clear hdig
     go_wp2_with fail
     go_round
     case rel=>exact⟨k+1,vO,by go_num,by rw [HS.out.1],Lib.hid (HS.out.2.1 HD.out)⟩
     case measure=>simp [intOf];omega
    ·have hf:fK s[k]=false:=by unfold fK;simp;omega
     have e:=HS.out.2.2 hf
     have ev:vv=0:=by rw [HV.out,e];rfl
     have eo:oo=false:=by rw [HOk.out,e]
     clear e hf
     subst ev
     subst eo
     go_wp2_with fail
     go_ret2
     exact⟨rfl,rfl⟩
   ·have hf:fK s[k]=false:=by unfold fK;simp;omega
    have e:=HS.out.2.2 hf
    have ev:vv=0:=by rw [HV.out,e];rfl
    have eo:oo=false:=by rw [HOk.out,e]
    clear e hf
    subst ev
    subst eo
    go_wp2_with fail
    go_ret2
    exact⟨rfl,rfl⟩
  ·obtain rfl:k=s.size:=vO
   have ht:s.data.toList.take s.size=s.data.toList:=List.take_of_length_le vS
   rw [ht]at hA hbd⊢
   have ev:vv=fH s.data.toList:=by rw [HV.out,hA.out];rfl
   have eo:oo=true:=by rw [HOk.out,hA.out]
   clear ht hbd hlt4
   subst ev
   subst eo
   go_wp2_with fail
   go_ret2
   exact⟨rfl,rfl⟩
theorem bJ(s:ByteArray)(M:Nat)(w:World)(hM:M<=4)(hs:s.size<=9223372036854775807):
  vC 54 #[.string s,.int .i64 M] w (.tuple #[.int .i64 (aH s.data.toList M),.bool (aZ s.data.toList M)]):=by
 by_cases h:s.size=M
 ·subst h;exact G7 s w hM
 ·have hl:¬ s.data.toList.length=M:=by simpa using h
  have e:aZ s.data.toList M=false:=by unfold aZ;rw [decide_eq_false hl];rfl
  rw [show aH s.data.toList M=0 by unfold aH;rw [e];rfl,e]
  exact IK s M w hs vQ
def aD(s:ByteArray):ByteArray:=if Go.Lib.lastIndexByte s 45<0 then ByteArray.empty else s.extract 0 (Go.Lib.lastIndexByte s 45).toNat
def aQ(s:ByteArray):ByteArray:=if Go.Lib.lastIndexByte s 45<0 then s else s.extract ((Go.Lib.lastIndexByte s 45).toNat+1) s.size
theorem Dh(s:ByteArray)(w:World)(hs:s.size<=1000000):
  vB 99 #[.string s] w (.tuple #[.string (aD s),.string (aQ s)]):=by
 have HL:=Lib.hid (fun w=>Tryz.strings_LastIndex_one s ⟨#[45]⟩ rfl vO w)
 by_cases h:Go.Lib.lastIndexByte s 45<0
 ·unfold aD aQ
  rw [if_pos h,if_pos h]
  have HL1:∀w:World,Calls Tryo.prog 66 #[.string s,.string ⟨#[45]⟩] w (fun e w'=>e= .returned (.int .i64 (Go.Lib.lastIndexByte s 45))/\w'=w):=fun w=>HL.out w
  have HL2:=Lib.hid HL1
  clear HL1
  clear HL
  generalize Go.Lib.lastIndexByte s 45=i at*
  go_enter (vF Tryz.func99),Tryz.ntmps99
  go_wp2_with fail
  refine(HL2.out _).mono ?_
  rintro e w' ⟨rfl,rfl⟩
  go_wp2_with fail
  go_ret2
  exact⟨rfl,Below.refl _ _⟩
 ·unfold aD aQ
  rw [if_neg h,if_neg h]
  have HL1:∀w:World,Calls Tryo.prog 66 #[.string s,.string ⟨#[45]⟩] w (fun e w'=>e= .returned (.int .i64 (Go.Lib.lastIndexByte s 45))/\w'=w):=fun w=>HL.out w
  have HL2:=Lib.hid HL1
  clear HL1
  clear HL
  have hb:∃k:Nat,k<s.size/\Go.Lib.lastIndexByte s 45=(k:Int):=by
   rcases Go.Lib.lastIndexByte_spec s 45 with ⟨e,_⟩|⟨i,hi,e,_⟩
   ·rw [e]at h;omega
   ·exact⟨i,hi,e⟩
  obtain⟨k,hk,e⟩:=hb
  rw [e]at HL2⊢
  have k0:(0:Int)<=(k:Int):=vO
  have k1:(k:Int)<(s.size:Int):=vO
  have k2:(k:Int)+1<=(s.size:Int):=vO
  clear e h
  rw [Int.toNat_natCast]
  go_enter (vF Tryz.func99),Tryz.ntmps99
  go_wp2_with fail
  refine(HL2.out _).mono ?_
  rintro e w' ⟨rfl,rfl⟩
  go_wp2_with fail
  go_region
  all_goals go_wp2_with fail
  all_goals go_ret2
  all_goals exact⟨rfl,aT (Below.refl _ _)⟩
theorem dW(s:ByteArray):(aD s).size<=s.size:=by
 unfold aD
 split
 ·exact Nat.zero_le _
 ·simp;omega
theorem lH(s:ByteArray)(w:World)(hs:s.size<=1000000):
  vB 53 #[.string s] w (.tuple #[.string (aD (aD s)),.string (aQ (aD s)),.string (aQ s)]):=by
 have h2:=dW s
 have H1:=Lib.hid (fun w=>Dh s w hs)
 have H2:=Lib.hid (fun w=>Dh (aD s) w vO)
 clear h2
 generalize aD (aD s)=x at*
 generalize aQ (aD s)=y at*
 generalize aD s=a at*
 generalize aQ s=b at*
 go_enter (vF Tryz.func53),Tryz.ntmps53
 go_wp2_with fail
 refine vX (H1.out _) fun w1 hb1 hz1 hc1 hf1=>?_
 try simp at hz1
 go_wp2_with fail
 refine vX (H2.out _) fun w2 hb2 hz2 hc2 hf2=>?_
 try simp at hz2
 go_wp2_with fail
 go_ret3
 refine⟨rfl, ?_⟩
 exact bel
end
section
open Go.ChangeShapes Go.WideShapes Go.ChangeAt Go.RowKit
theorem D8{a b:ByteArray}(h:a≠b):(a.toList==b.toList)=false:=by
 rw [beq_eq_false_iff_ne]
 intro e
 apply h
 rw [ByteArray.toList_eq,ByteArray.toList_eq]at e
 cases a;cases b
 congr 1
 exact Array.toList_inj.1 e
def yU(s:ByteArray)(n:Int)(l:Bool)(ok:Bool):Prop:=(ok=true/\Cal.right n l=true/\fA n l=s)∨(ok=false/\n=0/\l=false/\∀n' l',Cal.right n' l'=true->fA n' l'≠s)
theorem Rj(s:ByteArray):∃n l ok,yU s n l ok:=by
 by_cases h:∃n l,Cal.right n l=true/\fA n l=s
 ·obtain⟨n,l,h1,h2⟩:=h
  exact⟨n,l,true,.inl ⟨rfl,h1,h2⟩⟩
 ·exact⟨0,false,false,.inr ⟨rfl,rfl,rfl,fun n' l' h1 h2=>h ⟨n',l',h1,h2⟩⟩⟩
theorem K8(n:Int)(l:Bool)(w:World)(h:Cal.right n l=true):vB 55 #[.string (fA n l)] w (.tuple #[.agg #[.int .i64 n,.bool l],.bool true]):=by
 rcases iM n l h with ⟨h1,h2,rfl⟩|⟨rfl,rfl⟩
 ·rcases(show n=1∨n=2∨n=3∨n=4∨n=5∨n=6∨n=7∨n=8∨n=9∨n=10∨n=11∨n=12 by omega)with rfl|rfl|rfl|rfl|rfl|rfl|rfl|rfl|rfl|rfl|rfl|rfl
  ·exact Qp w
  ·exact Sv w
  ·exact RJ w
  ·exact RH w
  ·exact Pt w
  ·exact Q8 w
  ·exact Qh w
  ·exact QO w
  ·exact Rz w
  ·exact Nr w
  ·exact NY w
  ·exact OI w
 ·exact OW w
theorem Ol(s:ByteArray)(w:World)(h100:s.size<=1000000)(hno:∀n' l',Cal.right n' l'=true->fA n' l'≠s):
  vB 55 #[.string s] w (.tuple #[.agg #[.int .i64 0,.bool false],.bool false]):=by
 have HNO:=Lib.hid hno
 clear hno
 by_cases h3:3<=s.size
 ·have i1:1<s.size:=vO
  have i2:2<s.size:=vO
  obtain⟨b1,x1⟩:∃b:Nat,(s[1]'i1).toNat=b:=⟨_,rfl⟩
  obtain⟨b2,x2⟩:∃b:Nat,(s[2]'i2).toNat=b:=⟨_,rfl⟩
  have q1:b1<256:=by rw [←x1];exact UInt8.toNat_lt _
  have q2:b2<256:=by rw [←x2];exact UInt8.toNat_lt _
  obtain⟨d1,y1⟩:∃d:Int,IntKind.u8.wrap ((b1:Int)-48)=d:=⟨_,rfl⟩
  obtain⟨d2,y2⟩:∃d:Int,IntKind.u8.wrap ((b2:Int)-48)=d:=⟨_,rfl⟩
  have k1:0<=d1/\d1<=255:=by rw [←y1,IntKind.wrap_u8];omega
  have k2:0<=d2/\d2<=255:=by rw [←y2,IntKind.wrap_u8];omega
  obtain⟨k3,k4⟩:=k1
  obtain⟨k5,k6⟩:=k2
  have HR:=Lib.hid (AQ (10*d1+d2) (decide (3<(s.size:Int))))
  have hT:Cal.right (10*d1+d2) (decide (3<(s.size:Int)))=true->Ld (10*d1+d2) (decide (3<(s.size:Int)))≠s:=fun h=>by
   rw [Ld,h,if_pos rfl]
   exact HNO.out _ _ h
  generalize Cal.right (10*d1+d2) (decide (3<(s.size:Int)))=R at*
  generalize Ld (10*d1+d2) (decide (3<(s.size:Int)))=T at*
  cases R
  ·clear hT
   go_enter (vF Tryz.func55),Tryz.ntmps55
   go_wp2_with fail
   go_region_held (fun x=>x.cell? ⟨w.1.size,0,none⟩=some (.int .i64 0)/\x.cell? ⟨w.1.size,1,none⟩=some (.bool false)) (first|assumption|go_keep) (first|fail)
   all_goals go_wp2_with fail
   all_goals
    refine vX (HR.out _) fun w1 hb1 hz1 hc1 hf1=>?_
    try simp at hz1
    have hs1x0:w.1.size<w1.1.size:=vO
    have g1x0:w1.cell? ⟨w.1.size,0,none⟩=some (.int .i64 0):=bg hc1
    have g1x1:w1.cell? ⟨w.1.size,1,none⟩=some (.bool false):=bg hc1
    go_wp2_with fail
    refine bodyPost_ret (v:= .tuple #[.agg #[.int .i64 0,.bool false],.bool false]) (by simp [results,Tryz.results55,go_sem,g1x0,g1x1]) rfl ⟨rfl, ?_⟩
    first
     |exact bt (baa (ba _ _) _).drew hb1
     |exact bs (bs (bt (baa (ba _ _) _).drew hb1) (Nat.le_refl _) _) (Nat.le_refl _) _
  ·have hq:=D8 (hT rfl)
   clear hT
   go_enter (vF Tryz.func55),Tryz.ntmps55
   go_wp2_with fail
   go_region_held (fun x=>x.cell? ⟨w.1.size,0,none⟩=some (.int .i64 0)/\x.cell? ⟨w.1.size,1,none⟩=some (.bool false)) (first|assumption|go_keep) (first|fail)
   all_goals go_wp2_with fail
   all_goals
    refine vX (HR.out _) fun w1 hb1 hz1 hc1 hf1=>?_
    try simp at hz1
    have hs1x0:w.1.size<w1.1.size:=vO
    have g1x0:w1.cell? ⟨w.1.size,0,none⟩=some (.int .i64 0):=bg hc1
    have g1x1:w1.cell? ⟨w.1.size,1,none⟩=some (.bool false):=bg hc1
    go_wp2_with fail
    refine bodyPost_ret (v:= .tuple #[.agg #[.int .i64 0,.bool false],.bool false]) (by simp [results,Tryz.results55,go_sem,g1x0,g1x1]) rfl ⟨rfl, ?_⟩
    first
     |exact bt (baa (ba _ _) _).drew hb1
     |exact bs (bs (bt (baa (ba _ _) _).drew hb1) (Nat.le_refl _) _) (Nat.le_refl _) _
 ·have h3':s.size<3:=vO
  go_enter (vF Tryz.func55),Tryz.ntmps55
  go_wp2_with fail
  refine bodyPost_ret (v:= .tuple #[.agg #[.int .i64 0,.bool false],.bool false]) (by simp [results,Tryz.results55,go_sem]) rfl ⟨rfl, ?_⟩
  exact beo
theorem ql(s:ByteArray)(n:Int)(l ok:Bool)(w:World)(h100:s.size<=1000000)(h:yU s n l ok):
  vB 55 #[.string s] w (.tuple #[.agg #[.int .i64 n,.bool l],.bool ok]):=by
 rcases h with ⟨rfl,h1,rfl⟩|⟨rfl,rfl,rfl,h1⟩
 ·exact K8 n l w h1
 ·exact Ol s w h100 h1
end
section
namespace Rep
open Go.Lib
def sub(a b x:UInt8):UInt8:=if x=a then b else x
theorem DL(a:UInt8):index [] [a]= -1:=rfl
theorem Bv(a:UInt8)(l:List UInt8):index (a :: l) [a]=0:=by simp [index]
theorem pz(a x:UInt8)(l:List UInt8)(h:¬ x=a):index (x :: l) [a]=if index l [a]== -1 then -1 else index l [a]+1:=by
 have:([a]:List UInt8).isPrefixOf (x :: l)=false:=by simp [List.isPrefixOf];exact fun e=>h e.symm
 rw [index,this];rfl
theorem EU(a b:UInt8):∀l:List UInt8,replaceK [a] [b] (count l [a]) l=l.map (sub a b)
 | []=>by rw [count_miss (DL a)];rfl
 | x :: l=>by
  have ih:=EU a b l
  by_cases h:x=a
  ·have hi:index (x :: l) [a]=(0:Nat):=by rw [h];exact Bv a l
   have hc:=count_hit vS hi
   rw [hc,Nat.add_comm,replaceK_hit _ _ _ _ 0 hi]
   simp only [List.length_singleton,Nat.zero_add,List.drop_succ_cons,List.drop_zero,List.take_zero,List.nil_append,List.map_cons]
   rw [ih,h]
   simp [sub]
  ·have hs:sub a b x=x:=by simp [sub,h]
   have ho:=pz a x l h
   by_cases hm:index l [a]= -1
   ·rw [if_pos (by simp [hm])]at ho
    rw [count_miss ho]
    rw [count_miss hm]at ih
    rw [List.map_cons,←ih,hs]
    rfl
   ·have hge:=index_ge l [a]
    obtain⟨i,hi⟩:∃i:Nat,index l [a]=i:=⟨(index l [a]).toNat,vO⟩
    rw [if_neg (by simp [hm]),hi]at ho
    have ho':index (x :: l) [a]=((i+1:Nat):Int):=by rw [ho];omega
    have hc:=count_hit vS ho'
    have hc2:=count_hit vS hi
    rw [hc,Nat.add_comm,replaceK_hit _ _ _ _ (i+1) ho']
    rw [hc2,Nat.add_comm,replaceK_hit _ _ _ _ i hi]at ih
    rw [List.length_singleton]at ih⊢
    rw [List.map_cons,←ih,hs,List.drop_succ_cons,List.take_succ_cons]
    rfl
theorem I9(a b:UInt8)(h:¬ a=b)(l:List UInt8):replaceAll l [a] [b]=l.map (sub a b):=by
 unfold replaceAll replace
 rw [if_neg (by simp [h])]
 have:replaceNum l [a] (-1)=count l [a]:=by unfold replaceNum;rw [if_pos (.inl vO)]
 rw [this]
 exact EU a b l
theorem count_le(a:UInt8):∀l:List UInt8,count l [a]<=l.length
 | []=>by rw [count_miss (DL a)];exact Nat.zero_le _
 | x :: l=>by
  have ih:=count_le a l
  by_cases h:x=a
  ·have hi:index (x :: l) [a]=(0:Nat):=by rw [h];exact Bv a l
   rw [count_hit vS hi,List.length_singleton,Nat.zero_add,List.drop_succ_cons,List.drop_zero,List.length_cons]
   omega
  ·have ho:=pz a x l h
   by_cases hm:index l [a]= -1
   ·rw [if_pos (by simp [hm])]at ho
    rw [count_miss ho];exact Nat.zero_le _
   ·have hge:=index_ge l [a]
    obtain⟨i,hi⟩:∃i:Nat,index l [a]=i:=⟨(index l [a]).toNat,vO⟩
    rw [if_neg (by simp [hm]),hi]at ho
    have ho':index (x :: l) [a]=((i+1:Nat):Int):=by rw [ho];omega
    rw [count_hit vS ho']
    rw [count_hit vS hi]at ih
    rw [List.length_singleton]at ih⊢
    rw [List.drop_succ_cons,List.length_cons]
    omega
end Rep
end
section
open Go.ChangeShapes Go.WideShapes Go.ChangeAt Go.RowKit
def iT(a b:UInt8)(s:ByteArray):ByteArray:=⟨(s.data.toList.map (Rep.sub a b)).toArray⟩
theorem kE(a b:UInt8)(s:ByteArray):(iT a b s).size=s.size:=by
 show((s.data.toList.map (Rep.sub a b)).toArray).size=s.data.size
 simp
theorem fV(a b:UInt8)(h:¬ a=b)(s:ByteArray)(m:Int)(w:World)(hs:s.size<=1000000)(hm:dG w m):
  vB 52 #[.string s,.string ⟨#[a]⟩,.string ⟨#[b]⟩] w (.string (iT a b s)):=by
 have hc:Go.Lib.countB s ⟨#[a]⟩<=s.size:=Rep.count_le a s.data.toList
 have:=Tryz.strings_ReplaceAll s ⟨#[a]⟩ ⟨#[b]⟩ m w vO hm.1 (show 1<=1 from Nat.le_refl 1) (by
  show s.size+Go.Lib.countB s ⟨#[a]⟩*1<=140737488355328
  omega)
 rw [show Go.Lib.replaceAll s.data.toList (⟨#[a]⟩:ByteArray).data.toList (⟨#[b]⟩:ByteArray).data.toList=s.data.toList.map (Rep.sub a b)from Rep.I9 a b h _]at this
 exact this
def great(s:ByteArray):ByteArray:=iT 108 76 (iT 109 77 s)
theorem lN(l:List UInt8)(M:Nat):0<=aH l M/\aH l M<10 ^ M:=by
 unfold aH
 by_cases h:aZ l M=true
 ·rw [if_pos h]
  unfold aZ at h
  simp only [Bool.and_eq_true,decide_eq_true_eq]at h
  have:=sV l h.2
  rw [h.1]at this
  exact this
 ·rw [if_neg h]
  exact⟨Int.le_refl _,Int.pow_pos vO⟩
theorem fB(s:ByteArray):(aQ s).size<=s.size:=by
 unfold aQ
 split
 ·exact Nat.le_refl _
 ·simp
theorem qW:(∀(s:ByteArray)(cn:Int)(cl ok:Bool)(m:Int)(hs:s.size<=1000000)(w:World)(hT:Tab w 6 kevCells)(hL:Tab w 4 lenCells)(hm:dG w m)(hc:yU (aQ (aD (great s))) cn cl ok)(h4:aZ (aD (aD (great s))).data.toList 4=false),vB 28 #[.string s] w (.tuple #[.agg #[.int .i64 (0),.int .i64 (0),.bool (false),.int .i64 (0)],.int .i64 (5)]))/\(∀(s:ByteArray)(cn:Int)(cl ok:Bool)(m:Int)(hs:s.size<=1000000)(w:World)(hT:Tab w 6 kevCells)(hL:Tab w 4 lenCells)(hm:dG w m)(hc:yU (aQ (aD (great s))) cn cl ok)(h4:aZ (aD (aD (great s))).data.toList 4=true)(ho:ok=false),vB 28 #[.string s] w (.tuple #[.agg #[.int .i64 (0),.int .i64 (0),.bool (false),.int .i64 (0)],.int .i64 (5)])):=by
 refine⟨@fun s cn cl ok m hs w hT hL hm hc h4=>(fun(k90:Nat)=> ?_) 0,@fun s cn cl ok m hs w hT hL hm hc h4 ho=> ?_⟩
 all_goals(
 have g1:=kE 109 77 s
 have g2:=kE 108 76 (iT 109 77 s)
 have c1:=dW (great s)
 have HR1:=Lib.hid (fun w hm=>fV 109 77 vD s m w hs hm)
 have HR2:=Lib.hid (fun w hm=>fV 108 76 vD (iT 109 77 s) m w vO hm)
 have HP:=Lib.hid (fun w=>lH (great s) w (by unfold great;omega))
 rw [show iT 108 76 (iT 109 77 s)=great s from rfl]at HR2
 have zA:(aD (aD (great s))).size<=1000000:=by have:=dW (aD (great s));unfold great at*;omega
 have zB:(aQ (aD (great s))).size<=1000000:=by have:=fB (aD (great s));unfold great at*;omega
 have zC:(aQ (great s)).size<=1000000:=by have:=fB (great s);unfold great at*;omega
 have HN4:=Lib.hid (fun w=>bJ (aD (aD (great s))) 4 w vO vO)
 have HN2:=Lib.hid (fun w=>bJ (aQ (great s)) 2 w vO vO)
 have HCo:=Lib.hid (fun w=>ql (aQ (aD (great s))) cn cl ok w zB hc)
 clear hc g1 g2 c1
 rw [h4]at HN4
 clear h4
 first|(have _:=k90;skip)|(subst ho)
 generalize aH (aD (aD (great s))).data.toList 4=yv at*
 generalize aH (aQ (great s)).data.toList 2=dv at*
 try generalize aZ (aD (aD (great s))).data.toList 4=o4 at*
 try generalize aZ (aQ (great s)).data.toList 2=o2 at*
 generalize iT 109 77 s=s1 at*
 generalize aD (aD (great s))=tA at*
 generalize aQ (aD (great s))=tB at*
 generalize aQ (great s)=tC at*
 generalize great s=s2 at*
 clear zA zB zC
 go_enter (vF Tryz.func28),Tryz.ntmps28
 go_wp2_with fail
 have hmA:=dG.below hm (ba w (.cells #[.int .i64 0,.int .i64 0,.bool false,.int .i64 0] 33))
 refine vX (HR1.out _ hmA) fun w1 hb1 hz1 hc1 hf1=>?_
 try simp at hz1
 have hs1x0:w.1.size<w1.1.size:=vO
 have⟨g1x0,g1x1,g1x2,g1x3⟩:=ce4 hc1 (w.1.size) 0 0 false 0
 go_wp2_with fail
 refine vX (HR2.out _ (dG.below hmA hb1)) fun w2 hb2 hz2 hc2 hf2=>?_
 try simp at hz2
 have hs2x0:w.1.size<w2.1.size:=vO
 have⟨g2x0,g2x1,g2x2,g2x3⟩:=ce4 hc2 (w.1.size) 0 0 false 0
 go_wp2_with fail
 refine vX (HP.out _) fun w3 hb3 hz3 hc3 hf3=>?_
 try simp at hz3
 have hs3x0:w.1.size<w3.1.size:=vO
 have⟨g3x0,g3x1,g3x2,g3x3⟩:=ce4 hc3 (w.1.size) 0 0 false 0
 go_wp2_with fail
 refine vW (HN4.out _) ?_
 go_wp2_with fail
 refine vX (HCo.out _) fun w4 hb4 hz4 hc4 hf4=>?_
 try simp at hz4
 have hs4x0:w.1.size<w4.1.size:=vO
 have⟨g4x0,g4x1,g4x2,g4x3⟩:=ce4 hc4 (w.1.size) 0 0 false 0
 go_wp2_with fail
 refine vW (HN2.out _) ?_
 go_wp2_with fail
 refine bodyPost_ret (v:= .tuple #[.agg #[.int .i64 (0),.int .i64 (0),.bool (false),.int .i64 (0)],.int .i64 (5)]) (by simp [results,Tryz.results28,go_sem, *]) rfl ⟨rfl, ?_⟩
 exact bel
 )
def Hz:=qW.1
def Js:=qW.2
theorem G5(s:ByteArray)(cn:Int)(cl ok:Bool)(m:Int)(hs:s.size<=1000000)(w:World)(hT:Tab w 6 kevCells)(hL:Tab w 4 lenCells)(hm:dG w m)(hc:yU (aQ (aD (great s))) cn cl ok)(h4:aZ (aD (aD (great s))).data.toList 4=true)(ho:ok=true)(h2:aZ (aQ (great s)).data.toList 2=false):
  vB 28 #[.string s] w (.tuple #[.agg #[.int .i64 (0),.int .i64 (0),.bool (false),.int .i64 (0)],.int .i64 (5)]):=by
 have g1:=kE 109 77 s
 have g2:=kE 108 76 (iT 109 77 s)
 have c1:=dW (great s)
 have HR1:=Lib.hid (fun w hm=>fV 109 77 vD s m w hs hm)
 have HR2:=Lib.hid (fun w hm=>fV 108 76 vD (iT 109 77 s) m w vO hm)
 have HP:=Lib.hid (fun w=>lH (great s) w (by unfold great;omega))
 rw [show iT 108 76 (iT 109 77 s)=great s from rfl]at HR2
 have zA:(aD (aD (great s))).size<=1000000:=by have:=dW (aD (great s));unfold great at*;omega
 have zB:(aQ (aD (great s))).size<=1000000:=by have:=fB (aD (great s));unfold great at*;omega
 have zC:(aQ (great s)).size<=1000000:=by have:=fB (great s);unfold great at*;omega
 have HN4:=Lib.hid (fun w=>bJ (aD (aD (great s))) 4 w vO vO)
 have HN2:=Lib.hid (fun w=>bJ (aQ (great s)) 2 w vO vO)
 have HCo:=Lib.hid (fun w=>ql (aQ (aD (great s))) cn cl ok w zB hc)
 clear hc g1 g2 c1
 rw [h4]at HN4
 rw [h2]at HN2
 clear h4 h2
 subst ho
 generalize aH (aD (aD (great s))).data.toList 4=yv at*
 generalize aH (aQ (great s)).data.toList 2=dv at*
 try generalize aZ (aD (aD (great s))).data.toList 4=o4 at*
 try generalize aZ (aQ (great s)).data.toList 2=o2 at*
 generalize iT 109 77 s=s1 at*
 generalize aD (aD (great s))=tA at*
 generalize aQ (aD (great s))=tB at*
 generalize aQ (great s)=tC at*
 generalize great s=s2 at*
 clear zA zB zC
 go_enter (vF Tryz.func28),Tryz.ntmps28
 go_wp2_with fail
 have hmA:=dG.below hm (ba w (.cells #[.int .i64 0,.int .i64 0,.bool false,.int .i64 0] 33))
 refine vX (HR1.out _ hmA) fun w1 hb1 hz1 hc1 hf1=>?_
 try simp at hz1
 have hs1x0:w.1.size<w1.1.size:=vO
 have⟨g1x0,g1x1,g1x2,g1x3⟩:=ce4 hc1 (w.1.size) 0 0 false 0
 go_wp2_with fail
 refine vX (HR2.out _ (dG.below hmA hb1)) fun w2 hb2 hz2 hc2 hf2=>?_
 try simp at hz2
 have hs2x0:w.1.size<w2.1.size:=vO
 have⟨g2x0,g2x1,g2x2,g2x3⟩:=ce4 hc2 (w.1.size) 0 0 false 0
 go_wp2_with fail
 refine vX (HP.out _) fun w3 hb3 hz3 hc3 hf3=>?_
 try simp at hz3
 have hs3x0:w.1.size<w3.1.size:=vO
 have⟨g3x0,g3x1,g3x2,g3x3⟩:=ce4 hc3 (w.1.size) 0 0 false 0
 go_wp2_with fail
 refine vW (HN4.out _) ?_
 go_wp2_with fail
 refine vX (HCo.out _) fun w4 hb4 hz4 hc4 hf4=>?_
 try simp at hz4
 have hs4x0:w.1.size<w4.1.size:=vO
 have⟨g4x0,g4x1,g4x2,g4x3⟩:=ce4 hc4 (w.1.size) 0 0 false 0
 go_wp2_with fail
 refine vW (HN2.out _) ?_
 go_wp2_with fail
 refine bodyPost_ret (v:= .tuple #[.agg #[.int .i64 (0),.int .i64 (0),.bool (false),.int .i64 (0)],.int .i64 (5)]) (by simp [results,Tryz.results28,go_sem, *]) rfl ⟨rfl, ?_⟩
 exact bel
theorem mU:(∀(s:ByteArray)(cn:Int)(cl ok:Bool)(m:Int)(hs:s.size<=1000000)(w:World)(hT:Tab w 6 kevCells)(hL:Tab w 4 lenCells)(hm:dG w m)(hc:yU (aQ (aD (great s))) cn cl ok)(h4:aZ (aD (aD (great s))).data.toList 4=true)(ho:ok=true)(h2:aZ (aQ (great s)).data.toList 2=true)(h0:¬ D10.aK (aH (aD (aD (great s))).data.toList 4) cn cl (aH (aQ (great s)).data.toList 2)=0),vB 28 #[.string s] w (.tuple #[.agg #[.int .i64 (0),.int .i64 (0),.bool (false),.int .i64 (0)],.int .i64 (2)]))/\(∀(s:ByteArray)(cn:Int)(cl ok:Bool)(m:Int)(hs:s.size<=1000000)(w:World)(hT:Tab w 6 kevCells)(hL:Tab w 4 lenCells)(hm:dG w m)(hc:yU (aQ (aD (great s))) cn cl ok)(h4:aZ (aD (aD (great s))).data.toList 4=true)(ho:ok=true)(h2:aZ (aQ (great s)).data.toList 2=true)(h0:D10.aK (aH (aD (aD (great s))).data.toList 4) cn cl (aH (aQ (great s)).data.toList 2)=0),vB 28 #[.string s] w (.tuple #[.agg #[.int .i64 (aH (aD (aD (great s))).data.toList 4),.int .i64 (cn),.bool (cl),.int .i64 (aH (aQ (great s)).data.toList 2)],.int .i64 (0)])):=by
 refine⟨@fun s cn cl ok m hs w hT hL hm hc h4 ho h2 h0=>(fun(k90:Nat)=> ?_) 0,@fun s cn cl ok m hs w hT hL hm hc h4 ho h2 h0=> ?_⟩
 all_goals(
 have g1:=kE 109 77 s
 have g2:=kE 108 76 (iT 109 77 s)
 have c1:=dW (great s)
 have HR1:=Lib.hid (fun w hm=>fV 109 77 vD s m w hs hm)
 have HR2:=Lib.hid (fun w hm=>fV 108 76 vD (iT 109 77 s) m w vO hm)
 have HP:=Lib.hid (fun w=>lH (great s) w (by unfold great;omega))
 rw [show iT 108 76 (iT 109 77 s)=great s from rfl]at HR2
 have zA:(aD (aD (great s))).size<=1000000:=by have:=dW (aD (great s));unfold great at*;omega
 have zB:(aQ (aD (great s))).size<=1000000:=by have:=fB (aD (great s));unfold great at*;omega
 have zC:(aQ (great s)).size<=1000000:=by have:=fB (great s);unfold great at*;omega
 have HN4:=Lib.hid (fun w=>bJ (aD (aD (great s))) 4 w vO vO)
 have HN2:=Lib.hid (fun w=>bJ (aQ (great s)) 2 w vO vO)
 have HCo:=Lib.hid (fun w=>ql (aQ (aD (great s))) cn cl ok w zB hc)
 clear hc g1 g2 c1
 have hI:=lN (aD (aD (great s))).data.toList 4
 have HCk:=Lib.hid (fun w hT hL=>je (aH (aD (aD (great s))).data.toList 4) cn cl (aH (aQ (great s)).data.toList 2) w ⟨vO,vO⟩ hT hL)
 rw [h4]at HN4
 rw [h2]at HN2
 clear h4 h2 hI
 subst ho
 first|(have _:=k90;have hne:(D10.aK (aH (aD (aD (great s))).data.toList 4) cn cl (aH (aQ (great s)).data.toList 2)!=0)=true:=by simpa using h0)|(rw [h0]at HCk)
 clear h0
 first|(have _:=k90;generalize D10.aK (aH (aD (aD (great s))).data.toList 4) cn cl (aH (aQ (great s)).data.toList 2)=de at*)|(skip)
 generalize aH (aD (aD (great s))).data.toList 4=yv at*
 generalize aH (aQ (great s)).data.toList 2=dv at*
 try generalize aZ (aD (aD (great s))).data.toList 4=o4 at*
 try generalize aZ (aQ (great s)).data.toList 2=o2 at*
 generalize iT 109 77 s=s1 at*
 generalize aD (aD (great s))=tA at*
 generalize aQ (aD (great s))=tB at*
 generalize aQ (great s)=tC at*
 generalize great s=s2 at*
 clear zA zB zC
 go_enter (vF Tryz.func28),Tryz.ntmps28
 go_wp2_with fail
 have hmA:=dG.below hm (ba w (.cells #[.int .i64 0,.int .i64 0,.bool false,.int .i64 0] 33))
 refine vX (HR1.out _ hmA) fun w1 hb1 hz1 hc1 hf1=>?_
 try simp at hz1
 have hs1x0:w.1.size<w1.1.size:=vO
 have⟨g1x0,g1x1,g1x2,g1x3⟩:=ce4 hc1 (w.1.size) 0 0 false 0
 go_wp2_with fail
 refine vX (HR2.out _ (dG.below hmA hb1)) fun w2 hb2 hz2 hc2 hf2=>?_
 try simp at hz2
 have hs2x0:w.1.size<w2.1.size:=vO
 have⟨g2x0,g2x1,g2x2,g2x3⟩:=ce4 hc2 (w.1.size) 0 0 false 0
 go_wp2_with fail
 refine vX (HP.out _) fun w3 hb3 hz3 hc3 hf3=>?_
 try simp at hz3
 have hs3x0:w.1.size<w3.1.size:=vO
 have⟨g3x0,g3x1,g3x2,g3x3⟩:=ce4 hc3 (w.1.size) 0 0 false 0
 go_wp2_with fail
 refine vW (HN4.out _) ?_
 go_wp2_with fail
 refine vX (HCo.out _) fun w4 hb4 hz4 hc4 hf4=>?_
 try simp at hz4
 have hs4x0:w.1.size<w4.1.size:=vO
 have⟨g4x0,g4x1,g4x2,g4x3⟩:=ce4 hc4 (w.1.size) 0 0 false 0
 go_wp2_with fail
 refine vW (HN2.out _) ?_
 go_wp2_with fail
 have hq5:w.1.size<w4.1.size+1+1:=vO
 refine vX (HCk.out _ (Tab.below hT bel) (Tab.below hL bel)) fun w5 hb5 hz5 hc5 hf5=>?_
 try simp at hz5
 have hs5x0:w.1.size<w5.1.size:=vO
 have hs5x1:(w4.1.size+1)<w5.1.size:=vO
 have⟨g5x0,g5x1,g5x2,g5x3⟩:=ce4 hc5 (w.1.size) 0 0 false 0
 have⟨g5x4,g5x5,g5x6,g5x7⟩:=ce4 hc5 (w4.1.size+1) yv cn cl dv
 go_wp2_with fail
 clear hc5
 first|(have _:=k90;refine bodyPost_ret (v:= .tuple #[.agg #[.int .i64 (0),.int .i64 (0),.bool (false),.int .i64 (0)],.int .i64 (2)]) (by simp [results,Tryz.results28,go_sem, *]) rfl ⟨rfl, ?_⟩)|(refine bodyPost_ret (v:= .tuple #[.agg #[.int .i64 (yv),.int .i64 (cn),.bool (cl),.int .i64 (dv)],.int .i64 (0)]) (by simp [results,Tryz.results28,go_sem, *]) rfl ⟨rfl, ?_⟩)
 exact bel
 )
def Bt:=mU.1
def Gl:=mU.2
def rhE(s:ByteArray)(cn:Int)(cl ok:Bool):Int:=if(aZ (aD (aD (great s))).data.toList 4&&(ok&&aZ (aQ (great s)).data.toList 2))=true then(if D10.aK (aH (aD (aD (great s))).data.toList 4) cn cl (aH (aQ (great s)).data.toList 2)=0 then 0 else 2)else 5
def rhY(s:ByteArray)(cn:Int)(cl ok:Bool):Int:=if rhE s cn cl ok=0 then aH (aD (aD (great s))).data.toList 4 else 0
def rhN(s:ByteArray)(cn:Int)(cl ok:Bool):Int:=if rhE s cn cl ok=0 then cn else 0
def rhL(s:ByteArray)(cn:Int)(cl ok:Bool):Bool:=if rhE s cn cl ok=0 then cl else false
def rhD(s:ByteArray)(cn:Int)(cl ok:Bool):Int:=if rhE s cn cl ok=0 then aH (aQ (great s)).data.toList 2 else 0
theorem Oo(s:ByteArray)(cn:Int)(cl ok:Bool)(m:Int)(hs:s.size<=1000000)(w:World)(hT:Tab w 6 kevCells)(hL:Tab w 4 lenCells)(hm:dG w m)(hc:yU (aQ (aD (great s))) cn cl ok):
  vB 28 #[.string s] w (.tuple #[.agg #[.int .i64 (rhY s cn cl ok),.int .i64 (rhN s cn cl ok),.bool (rhL s cn cl ok),.int .i64 (rhD s cn cl ok)],.int .i64 (rhE s cn cl ok)]):=by
 have bad:∀E:Int,rhE s cn cl ok=E->¬ E=0->rhY s cn cl ok=0/\rhN s cn cl ok=0/\rhL s cn cl ok=false/\rhD s cn cl ok=0:=by
  intro E e h
  have h':¬ rhE s cn cl ok=0:=by rw [e];exact h
  unfold rhY rhN rhL rhD
  rw [if_neg h',if_neg h',if_neg h',if_neg h']
  exact⟨rfl,rfl,rfl,rfl⟩
 cases h4:aZ (aD (aD (great s))).data.toList 4 with
 |false=>
  have e:rhE s cn cl ok=5:=by unfold rhE;rw [h4];rfl
  obtain⟨e1,e2,e3,e4⟩:=bad 5 e vO
  rw [e,e1,e2,e3,e4]
  exact Hz s cn cl ok m hs w hT hL hm hc h4
 | true=>
  cases ho:ok with
  |false=>
   subst ho
   have e:rhE s cn cl false=5:=by unfold rhE;rw [h4];rfl
   obtain⟨e1,e2,e3,e4⟩:=bad 5 e vO
   rw [e,e1,e2,e3,e4]
   exact Js s cn cl false m hs w hT hL hm hc h4 rfl
  | true=>
   subst ho
   cases h2:aZ (aQ (great s)).data.toList 2 with
   |false=>
    have e:rhE s cn cl true=5:=by unfold rhE;rw [h4,h2];rfl
    obtain⟨e1,e2,e3,e4⟩:=bad 5 e vO
    rw [e,e1,e2,e3,e4]
    exact G5 s cn cl true m hs w hT hL hm hc h4 rfl h2
   | true=>
    by_cases h0:D10.aK (aH (aD (aD (great s))).data.toList 4) cn cl (aH (aQ (great s)).data.toList 2)=0
    ·have e:rhE s cn cl true=0:=by unfold rhE;rw [h4,h2,if_pos (show(true&&(true&&true))=true from rfl),if_pos h0]
     unfold rhY rhN rhL rhD
     rw [if_pos e,if_pos e,if_pos e,if_pos e,e]
     exact Gl s cn cl true m hs w hT hL hm hc h4 rfl h2 h0
    ·have e:rhE s cn cl true=2:=by unfold rhE;rw [h4,h2,if_pos (show(true&&(true&&true))=true from rfl),if_neg h0]
     obtain⟨e1,e2,e3,e4⟩:=bad 2 e vO
     rw [e,e1,e2,e3,e4]
     exact Bt s cn cl true m hs w hT hL hm hc h4 rfl h2 h0
end
section
open Go.ChangeShapes Go.WideShapes Go.ChangeAt Go.RowKit
def bare(s:ByteArray):ByteArray:=⟨(Go.Lib.trimPrefix s.data.toList [45]).toArray⟩
def jN(s:ByteArray):Bool:=Go.Lib.hasPrefix s.data.toList [45]
theorem zQ(s:ByteArray):(bare s).size<=s.size:=by
 show((Go.Lib.trimPrefix s.data.toList [45]).toArray).size<=s.data.size
 unfold Go.Lib.trimPrefix
 split <;> simp
theorem nO:(∀(s:ByteArray)(hs:s.size<=1000000)(w:World)(hG:Tab w 1 Gr.gregCells)(h4:aZ (bare (aD (aD s))).data.toList 4=false),vB 32 #[.string s] w (.tuple #[.agg #[.int .i64 (0),.int .i64 (0),.int .i64 (0)],.int .i64 (5)]))/\(∀(s:ByteArray)(hs:s.size<=1000000)(w:World)(hG:Tab w 1 Gr.gregCells)(h4:aZ (bare (aD (aD s))).data.toList 4=true)(h5:aZ (aQ (aD s)).data.toList 2=false),vB 32 #[.string s] w (.tuple #[.agg #[.int .i64 (0),.int .i64 (0),.int .i64 (0)],.int .i64 (5)])):=by
 refine⟨@fun s hs w hG h4=>(fun(k90:Nat)=> ?_) 0,@fun s hs w hG h4 h5=> ?_⟩
 all_goals(
 have z1:=dW s
 have z2:=dW (aD s)
 have z3:=zQ (aD (aD s))
 have z4:=fB (aD s)
 have z5:=fB s
 have hyb:=lN (bare (aD (aD s))).data.toList 4
 have y0:=hyb.1
 have y1:aH (bare (aD (aD s))).data.toList 4<10000:=hyb.2
 have HP:=Lib.hid (fun w=>lH s w hs)
 have HX0:∀w:World,vC 63 #[.string (aD (aD s)),.string ⟨#[45]⟩] w (.tuple #[.string (bare (aD (aD s))),.bool (jN (aD (aD s)))]):=fun w=>(Tryz.strings_CutPrefix (aD (aD s)) ⟨#[45]⟩ w).mono fun _ _ h=>⟨h.1,h.2.symm⟩
 have HX:=Lib.hid HX0
 clear HX0
 have HN4:=Lib.hid (fun w=>bJ (bare (aD (aD s))) 4 w vO vO)
 have HNm:=Lib.hid (fun w=>bJ (aQ (aD s)) 2 w vO vO)
 have HNd:=Lib.hid (fun w=>bJ (aQ s) 2 w vO vO)
 clear z1 z2 z3 z4 z5 hyb
 rw [h4]at HN4
 first|(have _:=k90;clear h4)|((rw [h5]at HNm);(clear h4 h5))
 try generalize aH (bare (aD (aD s))).data.toList 4=yv at*
 try generalize aH (aQ (aD s)).data.toList 2=mv at*
 try generalize aH (aQ s).data.toList 2=dv at*
 try generalize aZ (bare (aD (aD s))).data.toList 4=o4 at*
 try generalize aZ (aQ (aD s)).data.toList 2=om at*
 try generalize aZ (aQ s).data.toList 2=od at*
 try generalize jN (aD (aD s))=bw at*
 generalize (bare (aD (aD s)))=tF at*
 generalize (aQ (aD s))=tB at*
 generalize (aQ s)=tC at*
 generalize aD (aD s)=tA at*
 go_enter (vF Tryz.func32),Tryz.ntmps32
 go_wp2_with fail
 refine vX (HP.out _) fun w1 hb1 hz1 hc1 hf1=>?_
 try simp at hz1
 have hs1x0:w.1.size<w1.1.size:=vO
 have g1x0:w1.cell? ⟨w.1.size,0,none⟩=some (.int .i64 (0)):=cel hc1
 have g1x1:w1.cell? ⟨w.1.size,1,none⟩=some (.int .i64 (0)):=cel hc1
 have g1x2:w1.cell? ⟨w.1.size,2,none⟩=some (.int .i64 (0)):=cel hc1
 go_wp2_with fail
 refine vW (HX.out _) ?_
 go_wp2_with fail
 refine vW (HN4.out _) ?_
 go_wp2_with fail
 refine vW (HNm.out _) ?_
 go_wp2_with fail
 refine vW (HNd.out _) ?_
 go_wp2_with fail
 refine bodyPost_ret (v:= .tuple #[.agg #[.int .i64 (0),.int .i64 (0),.int .i64 (0)],.int .i64 (5)]) (by simp [results,Tryz.results32,go_sem, *]) rfl ⟨rfl, ?_⟩
 exact bel
 )
def Em:=nO.1
def DF:=nO.2
theorem oD:(∀(s:ByteArray)(hs:s.size<=1000000)(w:World)(hG:Tab w 1 Gr.gregCells)(h4:aZ (bare (aD (aD s))).data.toList 4=true)(h5:aZ (aQ (aD s)).data.toList 2=true)(h6:aZ (aQ s).data.toList 2=false),vB 32 #[.string s] w (.tuple #[.agg #[.int .i64 (0),.int .i64 (0),.int .i64 (0)],.int .i64 (5)]))/\(∀(s:ByteArray)(hs:s.size<=1000000)(w:World)(hG:Tab w 1 Gr.gregCells)(h4:aZ (bare (aD (aD s))).data.toList 4=true)(h5:aZ (aQ (aD s)).data.toList 2=true)(h6:aZ (aQ s).data.toList 2=true)(hb:jN (aD (aD s))=true)(hz:(aH (bare (aD (aD s))).data.toList 4==0)=true),vB 32 #[.string s] w (.tuple #[.agg #[.int .i64 (0),.int .i64 (0),.int .i64 (0)],.int .i64 (5)])):=by
 refine⟨@fun s hs w hG h4 h5 h6=>(fun(k90:Nat)=> ?_) 0,@fun s hs w hG h4 h5 h6 hb hz=> ?_⟩
 all_goals(
 have z1:=dW s
 have z2:=dW (aD s)
 have z3:=zQ (aD (aD s))
 have z4:=fB (aD s)
 have z5:=fB s
 have hyb:=lN (bare (aD (aD s))).data.toList 4
 have y0:=hyb.1
 have y1:aH (bare (aD (aD s))).data.toList 4<10000:=hyb.2
 have HP:=Lib.hid (fun w=>lH s w hs)
 have HX0:∀w:World,vC 63 #[.string (aD (aD s)),.string ⟨#[45]⟩] w (.tuple #[.string (bare (aD (aD s))),.bool (jN (aD (aD s)))]):=fun w=>(Tryz.strings_CutPrefix (aD (aD s)) ⟨#[45]⟩ w).mono fun _ _ h=>⟨h.1,h.2.symm⟩
 have HX:=Lib.hid HX0
 clear HX0
 have HN4:=Lib.hid (fun w=>bJ (bare (aD (aD s))) 4 w vO vO)
 have HNm:=Lib.hid (fun w=>bJ (aQ (aD s)) 2 w vO vO)
 have HNd:=Lib.hid (fun w=>bJ (aQ s) 2 w vO vO)
 clear z1 z2 z3 z4 z5 hyb
 rw [h4]at HN4
 rw [h5]at HNm
 rw [h6]at HNd
 clear h4 h5 h6
 first|(have _:=k90;skip)|((rw [hb]at HX);(clear hb))
 try generalize aH (bare (aD (aD s))).data.toList 4=yv at*
 try generalize aH (aQ (aD s)).data.toList 2=mv at*
 try generalize aH (aQ s).data.toList 2=dv at*
 try generalize aZ (bare (aD (aD s))).data.toList 4=o4 at*
 try generalize aZ (aQ (aD s)).data.toList 2=om at*
 try generalize aZ (aQ s).data.toList 2=od at*
 try generalize jN (aD (aD s))=bw at*
 generalize (bare (aD (aD s)))=tF at*
 generalize (aQ (aD s))=tB at*
 generalize (aQ s)=tC at*
 generalize aD (aD s)=tA at*
 go_enter (vF Tryz.func32),Tryz.ntmps32
 go_wp2_with fail
 refine vX (HP.out _) fun w1 hb1 hz1 hc1 hf1=>?_
 try simp at hz1
 have hs1x0:w.1.size<w1.1.size:=vO
 have g1x0:w1.cell? ⟨w.1.size,0,none⟩=some (.int .i64 (0)):=cel hc1
 have g1x1:w1.cell? ⟨w.1.size,1,none⟩=some (.int .i64 (0)):=cel hc1
 have g1x2:w1.cell? ⟨w.1.size,2,none⟩=some (.int .i64 (0)):=cel hc1
 go_wp2_with fail
 refine vW (HX.out _) ?_
 go_wp2_with fail
 refine vW (HN4.out _) ?_
 go_wp2_with fail
 refine vW (HNm.out _) ?_
 go_wp2_with fail
 refine vW (HNd.out _) ?_
 go_wp2_with fail
 refine bodyPost_ret (v:= .tuple #[.agg #[.int .i64 (0),.int .i64 (0),.int .i64 (0)],.int .i64 (5)]) (by simp [results,Tryz.results32,go_sem, *]) rfl ⟨rfl, ?_⟩
 exact bel
 )
def Dv:=oD.1
def Dw:=oD.2
theorem nD:(∀(s:ByteArray)(hs:s.size<=1000000)(w:World)(hG:Tab w 1 Gr.gregCells)(h4:aZ (bare (aD (aD s))).data.toList 4=true)(h5:aZ (aQ (aD s)).data.toList 2=true)(h6:aZ (aQ s).data.toList 2=true)(hb:jN (aD (aD s))=false)(h0:¬ Gr.gtE (aH (bare (aD (aD s))).data.toList 4) (aH (aQ (aD s)).data.toList 2) (aH (aQ s).data.toList 2)=0),vB 32 #[.string s] w (.tuple #[.agg #[.int .i64 (0),.int .i64 (0),.int .i64 (0)],.int .i64 (2)]))/\(∀(s:ByteArray)(hs:s.size<=1000000)(w:World)(hG:Tab w 1 Gr.gregCells)(h4:aZ (bare (aD (aD s))).data.toList 4=true)(h5:aZ (aQ (aD s)).data.toList 2=true)(h6:aZ (aQ s).data.toList 2=true)(hb:jN (aD (aD s))=false)(h0:Gr.gtE (aH (bare (aD (aD s))).data.toList 4) (aH (aQ (aD s)).data.toList 2) (aH (aQ s).data.toList 2)=0),vB 32 #[.string s] w (.tuple #[.agg #[.int .i64 (aH (bare (aD (aD s))).data.toList 4),.int .i64 (aH (aQ (aD s)).data.toList 2),.int .i64 (aH (aQ s).data.toList 2)],.int .i64 (0)])):=by
 refine⟨@fun s hs w hG h4 h5 h6 hb h0=>(fun(k90:Nat)=> ?_) 0,@fun s hs w hG h4 h5 h6 hb h0=> ?_⟩
 all_goals(
 have z1:=dW s
 have z2:=dW (aD s)
 have z3:=zQ (aD (aD s))
 have z4:=fB (aD s)
 have z5:=fB s
 have hyb:=lN (bare (aD (aD s))).data.toList 4
 have y0:=hyb.1
 have y1:aH (bare (aD (aD s))).data.toList 4<10000:=hyb.2
 have HP:=Lib.hid (fun w=>lH s w hs)
 have HX0:∀w:World,vC 63 #[.string (aD (aD s)),.string ⟨#[45]⟩] w (.tuple #[.string (bare (aD (aD s))),.bool (jN (aD (aD s)))]):=fun w=>(Tryz.strings_CutPrefix (aD (aD s)) ⟨#[45]⟩ w).mono fun _ _ h=>⟨h.1,h.2.symm⟩
 have HX:=Lib.hid HX0
 clear HX0
 have HN4:=Lib.hid (fun w=>bJ (bare (aD (aD s))) 4 w vO vO)
 have HNm:=Lib.hid (fun w=>bJ (aQ (aD s)) 2 w vO vO)
 have HNd:=Lib.hid (fun w=>bJ (aQ s) 2 w vO vO)
 clear z1 z2 z3 z4 z5 hyb
 rw [h4]at HN4
 rw [h5]at HNm
 rw [h6]at HNd
 clear h4 h5 h6
 rw [hb]at HX
 clear hb
 have HG:=Lib.hid (fun w hG=>Bu (aH (bare (aD (aD s))).data.toList 4) (aH (aQ (aD s)).data.toList 2) (aH (aQ s).data.toList 2) w hG)
 first|(have _:=k90;have hne:(Gr.gtE (aH (bare (aD (aD s))).data.toList 4) (aH (aQ (aD s)).data.toList 2) (aH (aQ s).data.toList 2)!=0)=true:=by simpa using h0)|(rw [h0]at HG)
 clear h0
 first|(have _:=k90;generalize Gr.gtE (aH (bare (aD (aD s))).data.toList 4) (aH (aQ (aD s)).data.toList 2) (aH (aQ s).data.toList 2)=ge at*)|(skip)
 generalize Gr.gtV (aH (bare (aD (aD s))).data.toList 4) (aH (aQ (aD s)).data.toList 2) (aH (aQ s).data.toList 2)=gv at*
 try generalize aH (bare (aD (aD s))).data.toList 4=yv at*
 try generalize aH (aQ (aD s)).data.toList 2=mv at*
 try generalize aH (aQ s).data.toList 2=dv at*
 try generalize aZ (bare (aD (aD s))).data.toList 4=o4 at*
 try generalize aZ (aQ (aD s)).data.toList 2=om at*
 try generalize aZ (aQ s).data.toList 2=od at*
 try generalize jN (aD (aD s))=bw at*
 generalize (bare (aD (aD s)))=tF at*
 generalize (aQ (aD s))=tB at*
 generalize (aQ s)=tC at*
 generalize aD (aD s)=tA at*
 go_enter (vF Tryz.func32),Tryz.ntmps32
 go_wp2_with fail
 refine vX (HP.out _) fun w1 hb1 hz1 hc1 hf1=>?_
 try simp at hz1
 have hs1x0:w.1.size<w1.1.size:=vO
 have g1x0:w1.cell? ⟨w.1.size,0,none⟩=some (.int .i64 (0)):=cel hc1
 have g1x1:w1.cell? ⟨w.1.size,1,none⟩=some (.int .i64 (0)):=cel hc1
 have g1x2:w1.cell? ⟨w.1.size,2,none⟩=some (.int .i64 (0)):=cel hc1
 go_wp2_with fail
 refine vW (HX.out _) ?_
 go_wp2_with fail
 refine vW (HN4.out _) ?_
 go_wp2_with fail
 refine vW (HNm.out _) ?_
 go_wp2_with fail
 refine vW (HNd.out _) ?_
 go_wp2_with fail
 have hq5:w.1.size<w1.1.size+1:=vO
 refine vX (HG.out _ (Tab.below hG bel)) fun w2 hb2 hz2 hc2 hf2=>?_
 try simp at hz2
 have hs2x0:w.1.size<w2.1.size:=vO
 have hs2x1:w1.1.size<w2.1.size:=vO
 have g2x0:w2.cell? ⟨w.1.size,0,none⟩=some (.int .i64 (0)):=cel hc2
 have g2x1:w2.cell? ⟨w.1.size,1,none⟩=some (.int .i64 (0)):=cel hc2
 have g2x2:w2.cell? ⟨w.1.size,2,none⟩=some (.int .i64 (0)):=cel hc2
 have g2x3:w2.cell? ⟨w1.1.size,0,none⟩=some (.int .i64 (yv)):=cel hc2
 have g2x4:w2.cell? ⟨w1.1.size,1,none⟩=some (.int .i64 (mv)):=cel hc2
 have g2x5:w2.cell? ⟨w1.1.size,2,none⟩=some (.int .i64 (dv)):=cel hc2
 go_wp2_with fail
 clear hc2
 first|(have _:=k90;refine bodyPost_ret (v:= .tuple #[.agg #[.int .i64 (0),.int .i64 (0),.int .i64 (0)],.int .i64 (2)]) (by simp [results,Tryz.results32,go_sem, *]) rfl ⟨rfl, ?_⟩)|(refine bodyPost_ret (v:= .tuple #[.agg #[.int .i64 (yv),.int .i64 (mv),.int .i64 (dv)],.int .i64 (0)]) (by simp [results,Tryz.results32,go_sem, *]) rfl ⟨rfl, ?_⟩)
 exact bel
 )
def Cn:=nD.1
def BD:=nD.2
theorem nu:(∀(s:ByteArray)(hs:s.size<=1000000)(w:World)(hG:Tab w 1 Gr.gregCells)(h4:aZ (bare (aD (aD s))).data.toList 4=true)(h5:aZ (aQ (aD s)).data.toList 2=true)(h6:aZ (aQ s).data.toList 2=true)(hb:jN (aD (aD s))=true)(hz:(aH (bare (aD (aD s))).data.toList 4==0)=false)(h0:¬ Gr.gtE (-(aH (bare (aD (aD s))).data.toList 4)) (aH (aQ (aD s)).data.toList 2) (aH (aQ s).data.toList 2)=0),vB 32 #[.string s] w (.tuple #[.agg #[.int .i64 (0),.int .i64 (0),.int .i64 (0)],.int .i64 (2)]))/\(∀(s:ByteArray)(hs:s.size<=1000000)(w:World)(hG:Tab w 1 Gr.gregCells)(h4:aZ (bare (aD (aD s))).data.toList 4=true)(h5:aZ (aQ (aD s)).data.toList 2=true)(h6:aZ (aQ s).data.toList 2=true)(hb:jN (aD (aD s))=true)(hz:(aH (bare (aD (aD s))).data.toList 4==0)=false)(h0:Gr.gtE (-(aH (bare (aD (aD s))).data.toList 4)) (aH (aQ (aD s)).data.toList 2) (aH (aQ s).data.toList 2)=0),vB 32 #[.string s] w (.tuple #[.agg #[.int .i64 (-(aH (bare (aD (aD s))).data.toList 4)),.int .i64 (aH (aQ (aD s)).data.toList 2),.int .i64 (aH (aQ s).data.toList 2)],.int .i64 (0)])):=by
 refine⟨@fun s hs w hG h4 h5 h6 hb hz h0=>(fun(k90:Nat)=> ?_) 0,@fun s hs w hG h4 h5 h6 hb hz h0=> ?_⟩
 all_goals(
 have z1:=dW s
 have z2:=dW (aD s)
 have z3:=zQ (aD (aD s))
 have z4:=fB (aD s)
 have z5:=fB s
 have hyb:=lN (bare (aD (aD s))).data.toList 4
 have y0:=hyb.1
 have y1:aH (bare (aD (aD s))).data.toList 4<10000:=hyb.2
 have HP:=Lib.hid (fun w=>lH s w hs)
 have HX0:∀w:World,vC 63 #[.string (aD (aD s)),.string ⟨#[45]⟩] w (.tuple #[.string (bare (aD (aD s))),.bool (jN (aD (aD s)))]):=fun w=>(Tryz.strings_CutPrefix (aD (aD s)) ⟨#[45]⟩ w).mono fun _ _ h=>⟨h.1,h.2.symm⟩
 have HX:=Lib.hid HX0
 clear HX0
 have HN4:=Lib.hid (fun w=>bJ (bare (aD (aD s))) 4 w vO vO)
 have HNm:=Lib.hid (fun w=>bJ (aQ (aD s)) 2 w vO vO)
 have HNd:=Lib.hid (fun w=>bJ (aQ s) 2 w vO vO)
 clear z1 z2 z3 z4 z5 hyb
 rw [h4]at HN4
 rw [h5]at HNm
 rw [h6]at HNd
 clear h4 h5 h6
 rw [hb]at HX
 clear hb
 have HG:=Lib.hid (fun w hG=>Bu (-(aH (bare (aD (aD s))).data.toList 4)) (aH (aQ (aD s)).data.toList 2) (aH (aQ s).data.toList 2) w hG)
 first|(have _:=k90;have hne:(Gr.gtE (-(aH (bare (aD (aD s))).data.toList 4)) (aH (aQ (aD s)).data.toList 2) (aH (aQ s).data.toList 2)!=0)=true:=by simpa using h0)|(rw [h0]at HG)
 clear h0
 first|(have _:=k90;generalize Gr.gtE (-(aH (bare (aD (aD s))).data.toList 4)) (aH (aQ (aD s)).data.toList 2) (aH (aQ s).data.toList 2)=ge at*)|(skip)
 generalize Gr.gtV (-(aH (bare (aD (aD s))).data.toList 4)) (aH (aQ (aD s)).data.toList 2) (aH (aQ s).data.toList 2)=gv at*
 try generalize aH (bare (aD (aD s))).data.toList 4=yv at*
 try generalize aH (aQ (aD s)).data.toList 2=mv at*
 try generalize aH (aQ s).data.toList 2=dv at*
 try generalize aZ (bare (aD (aD s))).data.toList 4=o4 at*
 try generalize aZ (aQ (aD s)).data.toList 2=om at*
 try generalize aZ (aQ s).data.toList 2=od at*
 try generalize jN (aD (aD s))=bw at*
 generalize (bare (aD (aD s)))=tF at*
 generalize (aQ (aD s))=tB at*
 generalize (aQ s)=tC at*
 generalize aD (aD s)=tA at*
 go_enter (vF Tryz.func32),Tryz.ntmps32
 go_wp2_with fail
 refine vX (HP.out _) fun w1 hb1 hz1 hc1 hf1=>?_
 try simp at hz1
 have hs1x0:w.1.size<w1.1.size:=vO
 have g1x0:w1.cell? ⟨w.1.size,0,none⟩=some (.int .i64 (0)):=cel hc1
 have g1x1:w1.cell? ⟨w.1.size,1,none⟩=some (.int .i64 (0)):=cel hc1
 have g1x2:w1.cell? ⟨w.1.size,2,none⟩=some (.int .i64 (0)):=cel hc1
 go_wp2_with fail
 refine vW (HX.out _) ?_
 go_wp2_with fail
 refine vW (HN4.out _) ?_
 go_wp2_with fail
 refine vW (HNm.out _) ?_
 go_wp2_with fail
 refine vW (HNd.out _) ?_
 go_wp2_with fail
 have hq5:w.1.size<w1.1.size+1:=vO
 refine vX (HG.out _ (Tab.below hG bel)) fun w2 hb2 hz2 hc2 hf2=>?_
 try simp at hz2
 have hs2x0:w.1.size<w2.1.size:=vO
 have hs2x1:w1.1.size<w2.1.size:=vO
 have g2x0:w2.cell? ⟨w.1.size,0,none⟩=some (.int .i64 (0)):=cel hc2
 have g2x1:w2.cell? ⟨w.1.size,1,none⟩=some (.int .i64 (0)):=cel hc2
 have g2x2:w2.cell? ⟨w.1.size,2,none⟩=some (.int .i64 (0)):=cel hc2
 have g2x3:w2.cell? ⟨w1.1.size,0,none⟩=some (.int .i64 (-yv)):=cel hc2
 have g2x4:w2.cell? ⟨w1.1.size,1,none⟩=some (.int .i64 (mv)):=cel hc2
 have g2x5:w2.cell? ⟨w1.1.size,2,none⟩=some (.int .i64 (dv)):=cel hc2
 go_wp2_with fail
 clear hc2
 first|(have _:=k90;refine bodyPost_ret (v:= .tuple #[.agg #[.int .i64 (0),.int .i64 (0),.int .i64 (0)],.int .i64 (2)]) (by simp [results,Tryz.results32,go_sem, *]) rfl ⟨rfl, ?_⟩)|(refine bodyPost_ret (v:= .tuple #[.agg #[.int .i64 (-yv),.int .i64 (mv),.int .i64 (dv)],.int .i64 (0)]) (by simp [results,Tryz.results32,go_sem, *]) rfl ⟨rfl, ?_⟩)
 exact bel
 )
def C9:=nu.1
def CX:=nu.2
end
section
open Go.ChangeShapes Go.WideShapes Go.ChangeAt Go.RowKit
def Vz(s:ByteArray):Int:=if jN (aD (aD s))=true then -(aH (bare (aD (aD s))).data.toList 4)else aH (bare (aD (aD s))).data.toList 4
def Pf(s:ByteArray):Bool:=(aZ (bare (aD (aD s))).data.toList 4&&(aZ (aQ (aD s)).data.toList 2&&aZ (aQ s).data.toList 2))&& !(jN (aD (aD s))&&(aH (bare (aD (aD s))).data.toList 4==0))
def rcE(s:ByteArray):Int:=if Pf s=true then(if Gr.gtE (Vz s) (aH (aQ (aD s)).data.toList 2) (aH (aQ s).data.toList 2)=0 then 0 else 2)else 5
def rcY(s:ByteArray):Int:=if rcE s=0 then Vz s else 0
def rcM(s:ByteArray):Int:=if rcE s=0 then aH (aQ (aD s)).data.toList 2 else 0
def rcD(s:ByteArray):Int:=if rcE s=0 then aH (aQ s).data.toList 2 else 0
theorem Ht(s:ByteArray)(hs:s.size<=1000000)(w:World)(hG:Tab w 1 Gr.gregCells):
  vB 32 #[.string s] w (.tuple #[.agg #[.int .i64 (rcY s),.int .i64 (rcM s),.int .i64 (rcD s)],.int .i64 (rcE s)]):=by
 have bad:∀E:Int,rcE s=E->¬ E=0->rcY s=0/\rcM s=0/\rcD s=0:=by
  intro E e h
  have h':¬ rcE s=0:=by rw [e];exact h
  unfold rcY rcM rcD
  rw [if_neg h',if_neg h',if_neg h']
  exact⟨rfl,rfl,rfl⟩
 cases h4:aZ (bare (aD (aD s))).data.toList 4 with
 |false=>
  have e:rcE s=5:=by unfold rcE Pf;rw [h4];rfl
  obtain⟨e1,e2,e3⟩:=bad 5 e vO
  rw [e,e1,e2,e3]
  exact Em s hs w hG h4
 | true=>
  cases h5:aZ (aQ (aD s)).data.toList 2 with
  |false=>
   have e:rcE s=5:=by unfold rcE Pf;rw [h4,h5];rfl
   obtain⟨e1,e2,e3⟩:=bad 5 e vO
   rw [e,e1,e2,e3]
   exact DF s hs w hG h4 h5
  | true=>
   cases h6:aZ (aQ s).data.toList 2 with
   |false=>
    have e:rcE s=5:=by unfold rcE Pf;rw [h4,h5,h6];rfl
    obtain⟨e1,e2,e3⟩:=bad 5 e vO
    rw [e,e1,e2,e3]
    exact Dv s hs w hG h4 h5 h6
   | true=>
    cases hb:jN (aD (aD s))with
    | false=>
     have ok:Pf s=true:=by unfold Pf;rw [h4,h5,h6,hb];rfl
     have yv:Vz s=aH (bare (aD (aD s))).data.toList 4:=by unfold Vz;rw [hb];rfl
     by_cases h0:Gr.gtE (aH (bare (aD (aD s))).data.toList 4) (aH (aQ (aD s)).data.toList 2) (aH (aQ s).data.toList 2)=0
     ·have e:rcE s=0:=by unfold rcE;rw [if_pos ok,yv,if_pos h0]
      unfold rcY rcM rcD
      rw [if_pos e,if_pos e,if_pos e,e,yv]
      exact BD s hs w hG h4 h5 h6 hb h0
     ·have e:rcE s=2:=by unfold rcE;rw [if_pos ok,yv,if_neg h0]
      obtain⟨e1,e2,e3⟩:=bad 2 e vO
      rw [e,e1,e2,e3]
      exact Cn s hs w hG h4 h5 h6 hb h0
    | true=>
     cases hz:(aH (bare (aD (aD s))).data.toList 4==0)with
     |true=>
      have e:rcE s=5:=by unfold rcE Pf;rw [h4,h5,h6,hb,hz];rfl
      obtain⟨e1,e2,e3⟩:=bad 5 e vO
      rw [e,e1,e2,e3]
      exact Dw s hs w hG h4 h5 h6 hb hz
     | false=>
      have ok:Pf s=true:=by unfold Pf;rw [h4,h5,h6,hb,hz];rfl
      have yv:Vz s= -(aH (bare (aD (aD s))).data.toList 4):=by unfold Vz;rw [hb];rfl
      by_cases h0:Gr.gtE (-(aH (bare (aD (aD s))).data.toList 4)) (aH (aQ (aD s)).data.toList 2) (aH (aQ s).data.toList 2)=0
      ·have e:rcE s=0:=by unfold rcE;rw [if_pos ok,yv,if_pos h0]
       unfold rcY rcM rcD
       rw [if_pos e,if_pos e,if_pos e,e,yv]
       exact CX s hs w hG h4 h5 h6 hb hz h0
      ·have e:rcE s=2:=by unfold rcE;rw [if_pos ok,yv,if_neg h0]
       obtain⟨e1,e2,e3⟩:=bad 2 e vO
       rw [e,e1,e2,e3]
       exact C9 s hs w hG h4 h5 h6 hb hz h0
end
end Go.Proofs.YtljbnicolhhicaaGreatDoor
