import Derived.Test.YthnjjcoahdhmnaaGreatDoorERC
import Derived.Test.YthnjjcoahdhmnaaGreatDoorEEV
import Derived.Test.YthnjjcoahdhmnaaGreatDoorEFO
import Derived.Test.YthnjjcoahdhmnaaGreatDoorETL
set_option maxHeartbeats 8000000
set_option maxRecDepth 100000
set_option linter.unusedSimpArgs false
set_option linter.unusedVariables false
namespace Go.Proofs.YthnjjcoahdhmnaaGreatDoor
section
open Go.ChangeShapes Go.WideShapes Go.ChangeAt Go.RowKit Go.Lib Go.Sort Go.Shelf
theorem G5(y:Int)(w:World)(h2:y<1):
  Calls Tryo.prog 156 #[.int .i64 y] w fun e w'=>e= .returned (.bool false)/\w=w':=by
 have h1:¬ 1<=y:=by omega
 have d1:decide (1<=y)=false:=decide_eq_false h1
 go_enter Tryo.func156,Tryz.ntmps156
 go_wp2_with fail
 go_ret
 exact⟨rfl,rfl⟩
theorem Rd.D6:((List.range 14).all fun i=> [false,true].all fun p=>decide ((Rd.CU i p).length<=100))=true:=by decide+kernel
theorem Rd.Ab{i:Nat}(hi:i<14)(p:Bool):(Rd.CU i p).length<=100:=by
 have h:=List.all_eq_true.1 Rd.D6 i (List.mem_range.2 hi)
 exact of_decide_eq_true (List.all_eq_true.1 h p (by cases p <;> simp))
end
section
open Go.ChangeShapes Go.WideShapes Go.ChangeAt Go.RowKit Go.Lib Go.Sort Go.Shelf
theorem mV(y:Int)(w:World)(h1:1<=y)(h2:y<=9998):
  Calls Tryo.prog 167 #[.int .i64 y] w fun e w'=>e= .returned (.bool true)/\w=w':=by
 have d1:decide (1<=y)=true:=decide_eq_true h1
 have d2:decide (y<=9998)=true:=decide_eq_true h2
 go_enter Tryo.func167,Tryz.ntmps167
 go_wp2_with fail
 go_ret
 exact⟨rfl,rfl⟩
theorem Jy(y day A B C E:Int)(w:World)(h1:1<=y)(h2:y<=9998)
  (HA:Hid (∀w:World,Calls Tryo.prog 99 #[.int .i64 y,.int .i64 7,.int .i64 15] w fun e w'=>e= .returned (.int .i64 A)/\Below w.heap.size w w')) (HB:Hid (∀w:World,Calls Tryo.prog 99 #[.int .i64 y,.int .i64 9,.int .i64 5] w fun e w'=>e= .returned (.int .i64 B)/\Below w.heap.size w w')) (HC:Hid (∀w:World,Calls Tryo.prog 99 #[.int .i64 y,.int .i64 11,.int .i64 9] w fun e w'=>e= .returned (.int .i64 C)/\Below w.heap.size w w'))
  (HE:Hid (∀w:World,Calls Tryo.prog 91 #[.int .i64 (y+1)] w fun e w'=>e= .returned (.tuple #[.int .i64 E,.int .i64 0])/\Below w.heap.size w w')):
  Calls Tryo.prog 221 #[.int .i64 y,.int .i64 day] w fun e w'=>e= .returned (.tuple #[.int .i64 (Sb.part day A B C E),.int .i64 0])/\Below w.heap.size w w':=by
 have HY:=Lib.hid (fun w=>mV y w h1 h2)
 have e0:wrap64 (y+1)=y+1:=IntWalk.wrap64_in _ ⟨by omega,by omega⟩
 go_enter Tryo.func221,Tryz.ntmps221
 go_wp2_with fail
 refine(HY.out _).mono ?_
 rintro e w' ⟨rfl,rfl⟩
 go_wp2_with fail
 refine(HE.out _).mono ?_
 rintro e w1 ⟨rfl,hb1⟩
 go_wp2_with fail
 refine(HA.out _).mono ?_
 rintro e w2 ⟨rfl,hb2⟩
 by_cases cA:day<A
 ·have d1:decide (day<A)=true:=decide_eq_true cA
  have HV:=Lib.hid (show Sb.part day A B C E=1 by unfold Sb.part;split <;> (try split) <;> (try split) <;> (try split) <;> omega)
  go_wp2_with fail
  go_ret2
  refine⟨by rw [HV.out];rfl, ?_⟩
  exact bel
 have d1:decide (day<A)=false:=decide_eq_false cA
 go_wp2_with fail
 refine(HB.out _).mono ?_
 rintro e w3 ⟨rfl,hb3⟩
 by_cases cB:day<=B
 ·have d2:decide (day<=B)=true:=decide_eq_true cB
  have HV:=Lib.hid (show Sb.part day A B C E=2 by unfold Sb.part;split <;> (try split) <;> (try split) <;> (try split) <;> omega)
  go_wp2_with fail
  go_ret2
  refine⟨by rw [HV.out];rfl, ?_⟩
  exact bel
 have d2:decide (day<=B)=false:=decide_eq_false cB
 go_wp2_with fail
 refine(HC.out _).mono ?_
 rintro e w4 ⟨rfl,hb4⟩
 by_cases cC:day<=C
 ·have d3:decide (day<=C)=true:=decide_eq_true cC
  have HV:=Lib.hid (show Sb.part day A B C E=3 by unfold Sb.part;split <;> (try split) <;> (try split) <;> (try split) <;> omega)
  go_wp2_with fail
  go_ret2
  refine⟨by rw [HV.out];rfl, ?_⟩
  exact bel
 have d3:decide (day<=C)=false:=decide_eq_false cC
 by_cases cE:day<E
 ·have d4:decide (day<E)=true:=decide_eq_true cE
  have HV:=Lib.hid (show Sb.part day A B C E=4 by unfold Sb.part;split <;> (try split) <;> (try split) <;> (try split) <;> omega)
  go_wp2_with fail
  go_ret2
  refine⟨by rw [HV.out];rfl, ?_⟩
  exact bel
 have d4:decide (day<E)=false:=decide_eq_false cE
 have HV:=Lib.hid (show Sb.part day A B C E=5 by unfold Sb.part;split <;> (try split) <;> (try split) <;> (try split) <;> omega)
 go_wp2_with fail
 go_ret2
 refine⟨by rw [HV.out];rfl, ?_⟩
 exact bel
theorem TU(y:Int)(i i2:Nat)(day:Int)(w:World)(h:Yr.Is y i)(h2:Yr.Is (y+1) i2):
  Calls Tryo.prog 221 #[.int .i64 y,.int .i64 day] w fun e w'=>e= .returned (.tuple #[.int .i64 ((Rd.kR y day:Int)+1),.int .i64 0])/\Below w.heap.size w w':=by
 have a1:=h.1
 have a2:=h2.2.1
 obtain⟨e1,e2,e3,e4⟩:=Rd.Kg h h2
 have k:=Jy y day (D10.aC y 7 false 15) (D10.aC y 9 false 5) (D10.aC y 11 false 9) (D10.aC (y+1) 1 false 1) w a1 (by omega) (Lib.hid fun w=>bJ y 7 15 w ⟨by omega,by omega⟩) (Lib.hid fun w=>bJ y 9 5 w ⟨by omega,by omega⟩) (Lib.hid fun w=>bJ y 11 9 w ⟨by omega,by omega⟩)
  (Lib.hid fun w=>by have:=dn (y+1) w (by omega) (by omega);rwa [Yr.fu h,←e4]at this)
 have e:((Rd.kR y day:Nat):Int)+1=Sb.part day (D10.aC y 7 false 15) (D10.aC y 9 false 5) (D10.aC y 11 false 9) (D10.aC (y+1) 1 false 1):=by
  have:=Rd.Er day (D10.aC y 7 false 15) (D10.aC y 9 false 5) (D10.aC y 11 false 9) (D10.aC (y+1) 1 false 1)
  unfold Rd.kR
  omega
 rwa [e]
end
section
open Go.ChangeShapes Go.WideShapes Go.ChangeAt Go.RowKit Go.Lib Go.Sort Go.Shelf
theorem Sb.Xd:((List.range 14).all fun i=>Yr.okV i 1 false 22&&(decide (Yr.dJ i 1 false 22=21)&&(Yr.okV i 1 false 23&&decide (Yr.dJ i 1 false 23=22))))=true:=by decide+kernel
theorem Sb.YN(i:Nat)(hi:i<14):Yr.okV i 1 false 22=true/\Yr.dJ i 1 false 22=21/\Yr.okV i 1 false 23=true/\Yr.dJ i 1 false 23=22:=by
 have h:=List.all_eq_true.1 Sb.Xd i (List.mem_range.2 hi)
 simpa only [Bool.and_eq_true,decide_eq_true_eq]using h
theorem nA(y:Int)(i:Nat)(p:Bool)(w:World)(h:Yr.Is y i):
  Calls Tryo.prog 166 #[.int .i64 y,.int .i64 (if p then 1 else 0)] w fun e w'=>e= .returned (.int .i64 (Sb.rj y p))/\Below w.heap.size w w':=by
 have hy1:=h.1
 have hy2:=h.2.1
 obtain⟨b1,b2,b3,b4⟩:=Sb.YN i h.2.2.1
 have HA:=Lib.hid (fun w=>bJ y 1 22 w ⟨by omega,by omega⟩)
 have HB:=Lib.hid (fun w=>bJ y 1 23 w ⟨by omega,by omega⟩)
 rw [(Yr.dP h b1).2,b2]at HA
 rw [(Yr.dP h b3).2,b4]at HB
 cases p
 ·rw [show Sb.rj y false=Cal.first y+22 from rfl]
  generalize Cal.first y+22=R at*
  clear HA
  simp only [Bool.false_eq_true,if_false]
  go_enter Tryo.func166,Tryz.ntmps166
  go_wp2_with fail
  refine(HB.out _).mono ?_
  rintro e w1 ⟨rfl,hb1⟩
  go_wp2_with fail
  go_ret
  refine⟨rfl, ?_⟩
  exact bel
 ·rw [show Sb.rj y true=Cal.first y+21 from rfl]
  generalize Cal.first y+21=R at*
  clear HB
  simp only [if_true]
  go_enter Tryo.func166,Tryz.ntmps166
  go_wp2_with fail
  refine(HA.out _).mono ?_
  rintro e w1 ⟨rfl,hb1⟩
  go_wp2_with fail
  go_ret
  refine⟨rfl, ?_⟩
  exact bel
theorem mW(p:Bool)(w:World):Calls Tryo.prog 32 #[.int .i64 (if p then 1 else 0)] w fun e w'=>e= .returned (.bool true)/\w=w':=by
 cases p
 ·exact jW w
 ·exact jY w
theorem LM(y pl R S:Int)(k:Nat)(w:World)(h1:1<=y)(h2:y<=9998)(r1: -2000000<=R)(r2:R<=3000000)(s1: -2000000<=S)(s2:S<=3000000)(hk:k<=100)(HL:Hid (∀j:Nat,j<k->Sat.ak (R+1)+7*(j:Int)<=S))(HT:Hid (S<Sat.ak (R+1)+7*(k:Int)))
  (HPl:Hid (∀w:World,Calls Tryo.prog 32 #[.int .i64 pl] w fun e w'=>e= .returned (.bool true)/\w=w'))
  (HR:Hid (∀w:World,Calls Tryo.prog 166 #[.int .i64 y,.int .i64 pl] w fun e w'=>e= .returned (.int .i64 R)/\Below w.heap.size w w'))
  (HS:Hid (∀w:World,Calls Tryo.prog 166 #[.int .i64 (y+1),.int .i64 pl] w fun e w'=>e= .returned (.int .i64 S)/\Below w.heap.size w w')):
  Calls Tryo.prog 168 #[.int .i64 y,.int .i64 pl] w fun e w'=>∃v,e= .returned (.tuple #[v,.int .i64 0])/\Il.Own w' w.heap.size v (sats (R+1) k)/\Below w.heap.size w w':=by
 obtain⟨i0,hi,hz0,hz1,hz2⟩:=info_parts ku
 have HRi:=Lib.hid (fun w=>mV y w h1 h2)
 have hfg:=Sat.nI (R+1)
 have HFr:=Lib.hid (fun w=>uL (R+1) 6 (Sat.ak (R+1)) w ⟨by omega,by omega⟩ (by omega) (by omega) (by unfold Sat.ak;omega))
 have e1:wrap64 (R+1)=R+1:=IntWalk.wrap64_in _ ⟨by omega,by omega⟩
 have e2:wrap64 (y+1)=y+1:=IntWalk.wrap64_in _ ⟨by omega,by omega⟩
 have HF:=Lib.hid hfg
 go_enter Tryo.func168,Tryz.ntmps168
 go_wp2_with fail
 refine(HPl.out _).mono ?_
 rintro e w' ⟨rfl,rfl⟩
 go_wp2_with fail
 refine(HRi.out _).mono ?_
 rintro e w' ⟨rfl,rfl⟩
 go_wp2_with fail
 refine(HR.out _).mono ?_
 rintro e w1 ⟨rfl,hb1⟩
 go_wp2_with fail
 refine(HFr.out _).mono ?_
 rintro e w' ⟨rfl,rfl⟩
 have hB1:Below w.heap.size w w1:=bel
 clear e1 hfg
 go_wp2_with fail
 go_loopw [6,7] (fun v m wr=>∃ (j:Nat),j<=k/\m= .int .i64 (Sat.ak (R+1)+7*(j:Int))/\Il.Own wr w1.heap.size v (sats (R+1) j)/\Below w1.heap.size w1 wr) (fun _ i _=>(Sat.ak (R+1)+7*(k:Int)-intOf i).toNat)
 case atStart=>exact⟨0,Nat.zero_le _,by simp,Il.Own.nil _ _,Below.refl _ _⟩
 case round=>
  obtain⟨j,hj,rfl,HO,hB⟩:=hrel
  obtain⟨w9,rfl⟩:∃x,x=wr:=⟨_,rfl⟩
  have hBw:Below w.heap.size w w9:=bt hB1 hB
  have hs9:=hB.size
  have HJ:=Lib.hid (JV (R+1) j)
  have HLN:=Lib.hid (Gl (R+1) j)
  have HFF:=HF.out
  obtain⟨D,hD⟩:∃D,D=Sat.ak (R+1)+7*(j:Int):=⟨_,rfl⟩
  have HE:=Lib.hid hD
  have hLT:=fun h=>HL.out j h
  rw [←hD]at HJ hLT⊢
  have hDb: -3000000<=D/\D<=4000000:=by omega
  have e7:wrap64 (D+7)=D+7:=IntWalk.wrap64_in _ ⟨by omega,by omega⟩
  by_cases hlt:j<k
  ·have hle':D<=S:=hLT hlt
   have hle:decide (D<=S)=true:=decide_eq_true hle'
   have HM:=Lib.hid (show D<Sat.ak (R+1)+7*(k:Int) by omega)
   clear hD hLT hDb HFF
   go_wp2_with fail
   refine(HS.out _).mono ?_
   rintro e w2 ⟨rfl,hb2⟩
   have hB2:Below w1.heap.size w1 w2:=bt hB hb2
   have hs2:=hB2.size
   have HX7:w2.ownsRow w1.heap.size 3 1 u6 (sats (R+1) j).length (Il.vals (sats (R+1) j)):=Il.Own.below HO hb2
   go_wp2_with (at_builtin;go_loud (refine wpList_append_own_at _ rfl (.tmp 27) (.tmp 29) 30 rfl w1.heap.size 3 i0 (.int .i64 0) 1 8 (aI Tryz.underlying30) hi hz0 hz1 hz2 rfl (by decide) _ (sats (R+1) j).length (Il.vals (sats (R+1) j)) rfl (HX7.alloc _) ⟨w2.heap.size,0,none⟩ 1 1 [.int .i64 _] rfl rfl (oP _ _) (uR _) (by rw [HLN.out];simp only [maxLen];omega) (by rw [HLN.out];omega) (by first|assumption|(simp;omega)|omega) ?_;intro v7 w7 hown7 hgrow7 _ hblk7))
   go_roundw
   case rel=>exact⟨j+1,by omega,congrArg (Value.int .i64) (by have:=HE.out;push_cast;omega),by rw [HJ.out];exact Il.aM rfl hown7,aB bel hgrow7 (fun k e=>(World.ownsRow.lt HX7 k e).1)⟩
   case measure=>(have h1:=HM.out;simp [intOf];omega)
  ·obtain rfl:j=k:=by omega
   have hle':¬ D<=S:=by have:=HT.out;omega
   have hle:decide (D<=S)=false:=decide_eq_false hle'
   clear hlt hLT hD hDb HFF
   go_wp2_with fail
   refine(HS.out _).mono ?_
   rintro e w2 ⟨rfl,hb2⟩
   go_wp2_with fail
   go_ret2
   exact⟨_,rfl,(Il.Own.below HO hb2).base hB1.size,bt hBw hb2⟩
theorem JN(y:Int)(i i2:Nat)(p:Bool)(w:World)(h:Yr.Is y i)(h2:Yr.Is (y+1) i2):
  Calls Tryo.prog 168 #[.int .i64 y,.int .i64 (if p then 1 else 0)] w fun e w'=>∃v,e= .returned (.tuple #[v,.int .i64 0])/\Il.Own w' w.heap.size v (Sb.qJ y p)/\Below w.heap.size w w':=by
 have a1:=h.1
 have a2:=h2.2.1
 have b1:=Sb.uG p h
 have b2:=Sb.uG p h2
 obtain⟨n1,n2,n3,n4⟩:=Sb.mQ p h
 exact LM y _ (Sb.rj y p) (Sb.rj (y+1) p) (Sb.uo y p) w a1 (by omega) (by omega) (by omega) (by omega) (by omega) (by omega) (Lib.hid n1) (Lib.hid n2) (Lib.hid fun w=>mW p w) (Lib.hid fun w=>nA y i p w h) (Lib.hid fun w=>nA (y+1) i2 p w h2)
theorem Cn(v:Value)(l:List (Int×Int))(D:Int)(n:Nat)(w:World)(hr:Ev.Row w v l)(hl:l.length=n)(hn:n<=1000):
  Calls Tryo.prog 219 #[v,.int .i64 D] w fun e w'=>e= .returned (.bool (decide (D∈Sb.bI l)))/\Below w.heap.size w w':=by
 have HRs:=Lib.hid (fun x w=>Sn x w)
 obtain⟨p1,c1,rfl⟩:=hr.len
 rw [hl]
 have HN:=Lib.hid hl
 clear hl
 go_enter Tryo.func219,Tryz.ntmps219
 go_wp2_with fail
 go_loopw [5] (fun i wr=>∃j:Nat,j<=n/\i= .int .i64 (j:Int)/\Hid (D ∉ Sb.bI (l.take j))/\Below w.heap.size w wr) (fun i _=>n-(intOf i).toNat)
 case atStart=>exact⟨0,Nat.zero_le _,rfl,Lib.hid (by simp [Sb.bI]),bel⟩
 case round=>
  obtain⟨j,hj,rfl,HG,hB⟩:=hrel
  obtain⟨w9,rfl⟩:∃x,x=wr:=⟨_,rfl⟩
  by_cases hlt:j<n
  ·obtain⟨x,hx⟩:∃x,l[j]? =some x:=⟨_,List.getElem?_eq_getElem (by rw [HN.out];exact hlt)⟩
   have HX:=Lib.hid (Sb.Gx l j x hx)
   have HMm:=Lib.hid (List.mem_of_getElem? hx)
   obtain⟨kd,d⟩:=x
   obtain⟨b,off,cc,hp1,hc⟩:=(hr.below hB).bH (by rw [HN.out];omega)
   rw [HN.out]at hp1
   simp only [Value.slice.injEq]at hp1
   obtain⟨rfl,_,rfl⟩:=hp1
   obtain⟨cx1,cx2⟩:=Ev.dW hc j (kd,d) hx
   have lx:=World.block_lt_of_cell? _ _ cx1
   dsimp only at lx cx1 cx2 HX
   have j0:(0:Int)<=(j:Int):=by omega
   have j1:(j:Int)<(n:Int):=by omega
   clear hc hx
   by_cases cd:d=D
   ·subst cd
    go_wp2_with fail
    refine(HRs.out kd _).mono ?_
    rintro e w' ⟨rfl,rfl⟩
    by_cases cR:Fe.pz kd=true
    ·rw [cR]
     have HC:=Lib.hid cR
     clear cR
     go_wp2_with fail
     go_ret
     refine⟨?_,bel⟩
     have hm:d∈Sb.bI l:=by
      unfold Sb.bI
      exact List.mem_map.2 ⟨(kd,d),List.mem_filter.2 ⟨HMm.out,HC.out⟩,rfl⟩
     rw [decide_eq_true hm]
     rfl
    ·have HC:=Lib.hid cR
     have cR2:Fe.pz kd=false:=by simpa using cR
     rw [cR2]
     clear cR cR2
     go_wp2_with fail
     go_roundw
     case rel=>exact⟨j+1,by omega,by go_num,Lib.hid (by rw [HX.out,if_neg HC.out,List.append_nil];exact HG.out),bel⟩
     case measure=>simp [intOf];omega
   ·have c2:decide (d=D)=false:=decide_eq_false cd
    have HC:=Lib.hid cd
    go_wp2_with fail
    go_roundw
    case rel=>exact⟨j+1,by omega,by go_num,Lib.hid (by have h1:=HG.out;have h2:=HC.out;rw [HX.out];split <;> simp <;> (try exact⟨h1,fun h=>h2 h.symm⟩) <;> exact h1),bel⟩
    case measure=>simp [intOf];omega
  ·obtain rfl:j=n:=by omega
   clear hlt
   go_wp2_with fail
   go_ret
   refine⟨?_,bel⟩
   have h1:=HG.out
   rw [List.take_of_length_le (by rw [HN.out];exact Nat.le_refl _)]at h1
   rw [decide_eq_false h1]
   rfl
end
section
open Go.ChangeShapes Go.WideShapes Go.ChangeAt Go.RowKit Go.Lib Go.Sort Go.Shelf
theorem Ib(y pl:Int)(l:List Int)(n:Nat)(A B:List (Int×Int))(w:World)(h1:1<=y)(h2:y<=9998)(hl:l.length=n)(hn:n<=100)(hA:A.length<=60)(hB:B.length<=60)
  (HA:Hid (∀w:World,Calls Tryo.prog 168 #[.int .i64 y,.int .i64 pl] w fun e w'=>∃v,e= .returned (.tuple #[v,.int .i64 0])/\Il.Own w' w.heap.size v l/\Below w.heap.size w w'))
  (HO:Hid (∀w:World,Calls Tryo.prog 44 #[.int .i64 y,.int .i64 pl] w fun e w'=>∃v,e= .returned (.tuple #[v,.int .i64 0])/\Ev.Own w' w.heap.size v A/\Below w.heap.size w w'))
  (HP:Hid (∀w:World,Calls Tryo.prog 44 #[.int .i64 (y+1),.int .i64 pl] w fun e w'=>∃v,e= .returned (.tuple #[v,.int .i64 0])/\Ev.Own w' w.heap.size v B/\Below w.heap.size w w')):
  Calls Tryo.prog 169 #[.int .i64 y,.int .i64 pl] w fun e w'=>∃v,e= .returned (.tuple #[v,.int .i64 0])/\Il.Own w' w.heap.size v (Sb.bZ (Sb.bI A++Sb.bI B) l)/\Below w.heap.size w w':=by
 obtain⟨i0,hi,hz0,hz1,hz2⟩:=info_parts ku
 have e2:wrap64 (y+1)=y+1:=IntWalk.wrap64_in _ ⟨by omega,by omega⟩
 go_enter Tryo.func169,Tryz.ntmps169
 go_wp2_with fail
 refine(HA.out _).mono ?_
 rintro e w1 ⟨v1,rfl,ho1,hb1⟩
 have hB1:Below w.heap.size w w1:=bel
 go_wp2_with fail
 refine(HO.out _).mono ?_
 rintro e w2 ⟨v2,rfl,ho2,hb2⟩
 have hB2:Below w1.heap.size w1 w2:=bel
 go_wp2_with fail
 refine(HP.out _).mono ?_
 rintro e w3 ⟨v3,rfl,ho3,hb3⟩
 have hB3:Below w2.heap.size w2 w3:=bel
 have hBw3:Below w.heap.size w w3:=bt (bt hB1 hB2) hB3
 have hr1:=(ho1.row.below hB2).below hB3
 have HRA:=Lib.hid (ho2.row.below hB3)
 have HRB:=Lib.hid ho3.row
 obtain⟨p1,c1,rfl⟩:=hr1.len
 obtain⟨p2,c2,e2'⟩:=HRA.out.len
 obtain⟨p3,c3,e3'⟩:=HRB.out.len
 subst e2' e3'
 rw [hl]
 have HN:=Lib.hid hl
 clear hl ho1 ho2 ho3 HA HO HP e2
 go_wp2_with fail
 obtain⟨na,hna⟩:∃x,x=A.length:=⟨_,rfl⟩
 obtain⟨nb,hnb⟩:∃x,x=B.length:=⟨_,rfl⟩
 rw [←hna]at HRA hA⊢
 rw [←hnb]at HRB hB⊢
 have HCA:=Lib.hid (fun(D:Int) (W:World) (hW:Below w3.heap.size w3 W)=>Cn _ A D na W (HRA.out.below hW) hna.symm (by omega))
 have HCB:=Lib.hid (fun(D:Int) (W:World) (hW:Below w3.heap.size w3 W)=>Cn _ B D nb W (HRB.out.below hW) hnb.symm (by omega))
 clear hna hnb
 go_loopw [12,13] (fun v i wr=>∃j:Nat,j<=n/\i= .int .i64 (j:Int)/\Il.Own wr w3.heap.size v (Sb.bZ (Sb.bI A++Sb.bI B) (l.take j))/\(Sb.bZ (Sb.bI A++Sb.bI B) (l.take j)).length<=j/\Below w3.heap.size w3 wr) (fun _ i _=>n-(intOf i).toNat)
 case atStart=>exact⟨0,Nat.zero_le _,rfl,Il.Own.nil _ _,by simp [Sb.bZ],bel⟩
 case round=>
  obtain⟨j,hj,rfl,HW,hlen,hBB⟩:=hrel
  obtain⟨w9,rfl⟩:∃x,x=wr:=⟨_,rfl⟩
  have hs9:=hBB.size
  by_cases hlt:j<n
  ·obtain⟨D,hx⟩:∃x,l[j]? =some x:=⟨_,List.getElem?_eq_getElem (by rw [HN.out];exact hlt)⟩
   have HX:=Lib.hid (Sb.Cw (Sb.bI A++Sb.bI B) l j D hx)
   obtain⟨b,off,cc,hp1,hc⟩:=(hr1.below hBB).bH (by rw [HN.out];omega)
   rw [HN.out]at hp1
   simp only [Value.slice.injEq]at hp1
   obtain⟨rfl,_,rfl⟩:=hp1
   have cx1:=hc j D hx
   have lx:=World.block_lt_of_cell? _ _ cx1
   dsimp only at lx cx1
   have j0:(0:Int)<=(j:Int):=by omega
   have j1:(j:Int)<(n:Int):=by omega
   clear hc hx
   go_wp2_with fail
   refine(HCA.out D _ bel).mono ?_
   rintro e w4 ⟨rfl,hb4⟩
   have hB4:Below w3.heap.size w3 w4:=bt hBB hb4
   have cx4:=(hb4.cell lx).trans cx1
   have lx4:b<w4.heap.size:=by have:=hb4.size;omega
   by_cases ca:D∈Sb.bI A
   ·rw [decide_eq_true ca]
    have HC:=Lib.hid ca
    clear ca
    go_wp2_with fail
    go_roundw
    case rel=>
     have hin:decide (D∈Sb.bI A++Sb.bI B)=true:=decide_eq_true (List.mem_append_left _ HC.out)
     exact⟨j+1,by omega,by go_num,by rw [HX.out,if_pos hin,List.append_nil];exact Il.Own.below HW hb4,by rw [HX.out,if_pos hin,List.append_nil];omega,hB4⟩
    case measure=>simp [intOf];omega
   ·rw [decide_eq_false ca]
    have HC:=Lib.hid ca
    clear ca
    go_wp2_with fail
    refine(HCB.out D _ bel).mono ?_
    rintro e w5 ⟨rfl,hb5⟩
    have hB5:Below w3.heap.size w3 w5:=bt hB4 hb5
    have cx5:=(hb5.cell lx4).trans cx4
    have lx5:b<w5.heap.size:=by have:=hb5.size;omega
    have hs5:=hB5.size
    have HW5:=Il.Own.below (Il.Own.below HW hb4) hb5
    by_cases cb:D∈Sb.bI B
    ·rw [decide_eq_true cb]
     have HC2:=Lib.hid cb
     clear cb
     go_wp2_with fail
     go_roundw
     case rel=>
      have hin:decide (D∈Sb.bI A++Sb.bI B)=true:=decide_eq_true (List.mem_append_right _ HC2.out)
      exact⟨j+1,by omega,by go_num,by rw [HX.out,if_pos hin,List.append_nil];exact HW5,by rw [HX.out,if_pos hin,List.append_nil];omega,hB5⟩
     case measure=>simp [intOf];omega
    ·rw [decide_eq_false cb]
     have HC2:=Lib.hid cb
     clear cb
     go_wp2_with (have HX7:w5.ownsRow w3.heap.size 3 1 u12 (Sb.bZ (Sb.bI A++Sb.bI B) (l.take j)).length (Il.vals (Sb.bZ (Sb.bI A++Sb.bI B) (l.take j))):=HW5;at_builtin;go_loud (refine wpList_append_own_at _ rfl (.tmp 58) (.tmp 63) 30 rfl w3.heap.size 3 i0 (.int .i64 0) 1 8 (aI Tryz.underlying30) hi hz0 hz1 hz2 rfl (by decide) _ (Sb.bZ (Sb.bI A++Sb.bI B) (l.take j)).length (Il.vals (Sb.bZ (Sb.bI A++Sb.bI B) (l.take j))) rfl (HX7.alloc _) ⟨w5.heap.size,0,none⟩ 1 1 [.int .i64 _] rfl rfl (oP _ _) (uR _) (by simp only [maxLen];omega) (by omega) (by first|assumption|(simp;omega)|omega) ?_;intro v7 w7 hown7 hgrow7 _ hblk7))
     go_roundw
     case rel=>
      have hin:¬ decide (D∈Sb.bI A++Sb.bI B)=true:=by
       simp only [decide_eq_true_eq,List.mem_append]
       exact fun h=>h.elim HC.out HC2.out
      exact⟨j+1,by omega,by go_num,by rw [HX.out,if_neg hin];exact Il.aM rfl hown7,by rw [HX.out,if_neg hin,List.length_append];simp;omega,aB bel hgrow7 (fun k e=>(World.ownsRow.lt HX7 k e).1)⟩
     case measure=>simp [intOf];omega
  ·obtain rfl:j=n:=by omega
   have HT:=Lib.hid (show l.take j=l from List.take_of_length_le (by rw [HN.out];exact Nat.le_refl _))
   clear hlt
   go_wp2_with fail
   go_ret2
   exact⟨_,rfl,by rw [←HT.out];exact HW.base hBw3.size,bt hBw3 hBB⟩
theorem TA(y:Int)(i i2:Nat)(p:Bool)(w:World)(h:Yr.Is y i)(h2:Yr.Is (y+1) i2):
  Calls Tryo.prog 169 #[.int .i64 y,.int .i64 (if p then 1 else 0)] w fun e w'=>∃v,e= .returned (.tuple #[v,.int .i64 0])/\Il.Own w' w.heap.size v (Sb.free y i i2 p)/\Below w.heap.size w w':=by
 have a1:=h.1
 have a2:=h2.2.1
 obtain⟨n1,n2,n3,n4⟩:=Sb.mQ p h
 exact Ib y _ (Sb.qJ y p) (Sb.uo y p) (Sb.lT y i i2 p 0) (Sb.lT y i i2 p 1) w a1 (by omega) (Sb.y9 _ _) (by omega) (Sb.uY h.2.2.1 h2.2.2.1 p 0) (Sb.uY h.2.2.1 h2.2.2.1 p 1) (Lib.hid fun w=>JN y i i2 p w h h2) (Lib.hid fun w=>ql y i p w h) (Lib.hid fun w=>ql (y+1) i2 p w h2)
end
section
open Go.ChangeShapes Go.WideShapes Go.ChangeAt Go.RowKit Go.Lib Go.Sort Go.Shelf
end
end Go.Proofs.YthnjjcoahdhmnaaGreatDoor
