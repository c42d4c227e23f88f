import Derived.Test.YtljbnicolhhicaaGreatDoorZGT
import Derived.Test.YtljbnicolhhicaaGreatDoorZYM
set_option linter.defProp false
set_option maxHeartbeats 8000000
set_option maxRecDepth 100000
set_option linter.unusedVariables false
namespace Go.Proofs.YtljbnicolhhicaaGreatDoor
section
open Go.ChangeShapes Go.WideShapes Go.ChangeAt Go.RowKit Go.Lib Go.Shelf
def Il.vals(l:List Int):List Value:=l.map fun x=> .int .i64 x
def Il.Own(w:World)(B:Nat)(v:Value)(l:List Int):Prop:=w.ownsRow B 3 1 v l.length (Il.vals l)
theorem Il.Own.nil(w:World)(B:Nat):Il.Own w B (.slice none 0 0) []:=World.ownsRow_nil _ _ _ _
theorem Il.iJ{w:World}{B n:Nat}{v:Value}{l:List Int}{x:Int}(hn:n=l.length)(h:w.ownsRow B 3 1 v (n+1) (Il.vals l++ [.int .i64 x])):Il.Own w B v (l++ [x]):=by
 subst hn
 unfold Il.Own
 rw [List.length_append]
 simpa [Il.vals]using h
theorem Il.Own.below{w w':World}{B:Nat}{v:Value}{l:List Int}(h:Il.Own w B v l)(hb:Below w.1.size w w'):Il.Own w' B v l:=by
 refine⟨h.1, ?_⟩
 rcases h.2 with h0|⟨g,cp,cur,e,hg,hh,r2⟩
 ·exact .inl h0
 ·exact .inr ⟨g,cp,cur,e,hg,(hb.block g (Array.getElem?_eq_some_iff.1 hh).1).trans hh,r2⟩
theorem O7(w:World)(x:Int):∀j u,[Value.int .i64 x][j]? =some u->(w.alloc (.cells #[x] 3)).cell? ((⟨w.1.size,0,none⟩:Addr).add j)=some u:=CO w #[x] 3 w.1.size rfl
theorem Ua(x:Int):∀u∈ [Value.int .i64 x],u.oneCell'=true:=by intro u hu;simp at hu;subst hu;rfl
theorem JL:(Tryo.prog.info? 3).map (fun i=>(i.zero,i.size,i.bytes))=some (some (.int .i64 0),1,8):=vK
def sats(x:Int)(n:Nat):List Int:=(List.range n).map fun i:Nat=>Sat.aC x+7*(i:Int)
theorem Ri(x:Int)(n:Nat):(sats x n).length=n:=by simp [sats]
theorem VW(x:Int)(n:Nat):sats x (n+1)=sats x n++ [Sat.aC x+7*(n:Int)]:=by simp [sats,List.range_succ]
theorem aaz(x to:Int)(k:Nat)(w:World)(hx1: -1099511627776<=x)(hx2:x<=1099511627776)(ht:to<=1099511627776)(HL:Hid (∀j:Nat,j<k->Sat.aC x+7*(j:Int)<=to))(HT:Hid (to<Sat.aC x+7*(k:Int)))(hk:k<=400000000000):
  Calls Tryo.prog 160 #[x,to] w fun e w'=>∃v,e= .returned v/\Il.Own w' w.1.size v (sats x k)/\Below w.1.size w w':=by
 obtain⟨i0,hi,hz0,hz1,hz2⟩:=info_parts JL
 have HF:=Lib.hid (Sat.zu x)
 have HW:Hid (wrap64 (x+wrap64 (6-(wrap64 (x.tmod 7+7)).tmod 7))=Sat.aC x):=Lib.hid (by
  have h:=Sat.aaM x hx1 hx2
  simp only [IntKind.wrap_i64]at h
  unfold wrap64
  exact h)
 have d1:decide (x<=1099511627776)=true:=decide_eq_true hx2
 have d2:decide (-1099511627776<=x)=true:=decide_eq_true hx1
 have d3:decide (to<=1099511627776)=true:=decide_eq_true ht
 refine calls_of_wp Tryo.func160 (c:=Sat.lF) rfl ?_
 simp only [show Sat.Ow.ntmps=28 from Sat.ZG,List.size_toArray,List.length_cons,List.length_nil,Nat.reduceAdd,Nat.reduceSub,Array.replicate_succ,Array.replicate_zero,List.push_toArray,List.append_toArray,List.nil_append,List.cons_append]
 simp only [Sat.lF,Sat.opsE,Sat.Yl,Sat.Yt,Sat.opO,Sat.opG,Sat.iO,Sat.LBo,Sat.LB,Sat.Ul,Sat.tl6,Sat.tl5,Sat.tl4,Sat.nV,Sat.FU,Sat.PZ,Sat.mX,Tryz.f160,Option.getD_some]
 go_wp2_with fail
 go_loopw [8,9] (fun v m wr=>∃ (j:Nat),j<=k/\m= .int .i64 (Sat.aC x+7*(j:Int))/\Il.Own wr w.1.size v (sats x j)/\w.1.size<=wr.1.size/\Below w.1.size w wr) (fun _ i _=>(Sat.aC x+7*(k:Int)-intOf i).toNat)
 case atStart=>exact⟨0,Nat.zero_le _,by rw [HW.out];simp,Il.Own.nil _ _,by simp;try omega,bel⟩
 case round=>
  obtain⟨j,hj,rfl,HO,hz9,hB9⟩:=hrel
  obtain⟨w9,rfl⟩:∃x,x=wr:=⟨_,rfl⟩
  have HJ:=Lib.hid (VW x j)
  have HLN:=Lib.hid (Ri x j)
  by_cases hlt:j<k
  ·have HLT:=Lib.hid (HL.out j hlt)
   obtain⟨hf1,hf2⟩:=HF.out
   have hD1: -1099511627776<=Sat.aC x+7*(j:Int):=vO
   have HD:=Lib.hid (show ∃D,D=Sat.aC x+7*(j:Int)from⟨_,rfl⟩)
   obtain⟨D,hD⟩:=HD.out
   have HE:=Lib.hid hD
   rw [←hD]at HLT hD1 HJ⊢
   have hle:decide (D<=to)=true:=decide_eq_true HLT.out
   have hle':D<=to:=HLT.out
   have e7:wrap64 (D+7)=D+7:=IntWalk.wrap64_in _ ⟨vO,vO⟩
   have HM:=Lib.hid (show D<Sat.aC x+7*(k:Int) by rw [hD];omega)
   clear hD
   go_wp2_with (have HX7:w9.ownsRow w.1.size 3 1 u8 (sats x j).length (Il.vals (sats x j)):=HO;at_builtin;refine wpList_append_own_at _ rfl (.tmp 21) (.tmp 23) 154 rfl w.1.size 3 i0 (.int .i64 0) 1 8 (aB Tryz.underlying154) hi hz0 hz1 hz2 rfl vD _ (sats x j).length (Il.vals (sats x j)) rfl (HX7.alloc _) ⟨w9.1.size,0,none⟩ 1 1 [.int .i64 _] rfl rfl (O7 _ _) (Ua _) (by rw [HLN.out];simp only [maxLen];omega) (by rw [HLN.out];omega) (by first|assumption|(simp;omega)|omega) ?_;intro v7 w7 hown7 hgrow7 _ hblk7)
   go_roundw
   case rel=>exact⟨j+1,vO,congrArg (Value.int .i64) (by have:=HE.out;push_cast;omega),by rw [HJ.out];exact Il.iJ rfl hown7,by(have:=hgrow7.size;simp at this;omega),oG bel hgrow7 (fun k e=>(World.ownsRow.lt HX7 k e).1)⟩
   case measure=>(have h1:=HM.out;simp [intOf];omega)
  ·obtain rfl:j=k:=vO
   have hle:decide (Sat.aC x+7*(j:Int)<=to)=false:=decide_eq_false (by have:=HT.out;omega)
   have hle':¬ (Sat.aC x+7*(j:Int)<=to):=by have:=HT.out;omega
   clear hlt
   go_wp2_with fail
   refine bodyPost_ret (v:=u8) (by simp [results,Sat.aaF,go_sem]) rfl ?_
   exact⟨_,rfl,Il.Own.below HO bel,bel⟩
end
section
open Go.ChangeShapes Go.WideShapes Go.ChangeAt Go.RowKit Go.Lib Go.Sort Go.Shelf
namespace Il
def Row(w:World)(v:Value)(l:List Int):Prop:=(v= .slice none 0 0/\l= [])∨∃b off cap,v= .slice (some ⟨b,off,none⟩) l.length cap/\∀ (j:Nat) x,l[j]? =some x->w.cell? ⟨b,off+j,none⟩=some (x:vV)
theorem Own.row{w:World}{B:Nat}{v:Value}{l:List Int}(h:Own w B v l):Row w v l:=by
 rcases h.2 with ⟨rfl,h0⟩|⟨g,cap,cur,rfl,hb,hg,hn,hm,hs,ht⟩
 ·exact .inl ⟨rfl,List.eq_nil_of_length_eq_zero h0⟩
 ·refine .inr ⟨g,0,cap,rfl,fun j x hj=> ?_⟩
  have:=World.ownsRow.cells h rfl j (.int .i64 x) (by simp [vals,hj])
  rwa [Addr.add_lit]at this
theorem Row.below{w w':World}{v:Value}{l:List Int}(h:Row w v l)(hb:Below w.1.size w w'):Row w' v l:=by
 rcases h with h|⟨b,off,cap,rfl,hc⟩
 ·exact .inl h
 ·exact .inr ⟨b,off,cap,rfl,fun j u hj=>(hb.cell (World.block_lt_of_cell? w _ (hc j u hj))).trans (hc j u hj)⟩
theorem Own.base{w:World}{B B':Nat}{v:Value}{l:List Int}(h:Own w B v l)(hB:B'<=B):Own w B' v l:=⟨h.1,h.2.imp id fun⟨g,cap,cur,e,hb,r⟩=>⟨g,cap,cur,e,Nat.le_trans hB hb,r⟩⟩
theorem Row.len{w:World}{v:Value}{l:List Int}(h:Row w v l):∃p cap,v= .slice p l.length cap:=by
 rcases h with ⟨rfl,rfl⟩|⟨b,off,cap,rfl,_⟩
 ·exact⟨_,_,rfl⟩
 ·exact⟨_,_,rfl⟩
theorem Row.kI{w:World}{v:Value}{l:List Int}(h:Row w v l)(h0:0<l.length):∃b off cap,v= .slice (some ⟨b,off,none⟩) l.length cap/\∀ (j:Nat) x,l[j]? =some x->w.cell? ⟨b,off+j,none⟩=some (x:vV):=by
 rcases h with ⟨_,rfl⟩|h
 ·simp at h0
 ·exact h
end Il
end
section
open Go.ChangeShapes Go.WideShapes Go.ChangeAt Go.RowKit Go.Lib Go.Sort Go.Shelf
namespace Sb
def F6(x:Int×Int):Bool:=x.1==8
theorem Es(l:List (Int×Int))(j:Nat)(x:Int×Int)(hx:l[j]? =some x)(h0:(l.take j).find? F6=none)(h1:F6 x=false):(l.take (j+1)).find? F6=none:=by
 rw [List.take_add_one,hx,List.find?_append,h0]
 simp [h1]
theorem Ik(l:List (Int×Int))(j:Nat)(x:Int×Int)(hx:l[j]? =some x)(h0:(l.take j).find? F6=none)(h1:F6 x=true):l.find? F6=some x:=by
 have hlt:j<l.length:=(List.getElem?_eq_some_iff.1 hx).1
 have e:=List.take_append_drop j l
 rw [←e,List.find?_append,h0,List.drop_eq_getElem_cons hlt]
 have e2:l[j]=x:=(List.getElem?_eq_some_iff.1 hx).2
 simp [e2,h1]
def rjO(p:Bool):Int:=if p then 21 else 22
theorem abb:((List.range 14).all fun i=> [false,true].all fun p=>decide ((Fe.kP i p).find? F6=some (8,rjO p)))=true:=by decide+kernel
theorem rj_at(i:Nat)(hi:i<14)(p:Bool)(F:Int):((Fe.kP i p).map (Ev.sh F)).find? F6=some (8,F+rjO p):=by
 have h:=List.all_eq_true.1 abb i (List.mem_range.2 hi)
 have h2:=List.all_eq_true.1 h p (by cases p <;> simp)
 have h3:=of_decide_eq_true h2
 rw [List.find?_map]
 have e:(F6∘Ev.sh F)=F6:=by funext x;rfl
 rw [e,h3]
 rfl
theorem M4:((List.range 14).all fun i=> [false,true].all fun p=>decide ((Fe.kP i p).length<=60))=true:=by decide+kernel
theorem Ip(i:Nat)(hi:i<14)(p:Bool):(Fe.kP i p).length<=60:=by
 have h:=List.all_eq_true.1 M4 i (List.mem_range.2 hi)
 exact of_decide_eq_true (List.all_eq_true.1 h p (by cases p <;> simp))
def part(day A B C E:Int):Int:=if day<A then 1 else if day<=B then 2 else if day<=C then 3 else if day<E then 4 else 5
end Sb
theorem yY(p:Bool)(w:World):
  vC 129 #[.int .i64 (if p then 1 else 0)] w (.bool true):=by
 cases p
 all_goals simp only [Bool.false_eq_true,if_false,if_true]
 ·go_enter (vF Tryz.func129),Tryz.ntmps129
  go_wp2_with fail
  go_ret
  exact⟨rfl,rfl⟩
 ·go_enter (vF Tryz.func129),Tryz.ntmps129
  go_wp2_with fail
  go_ret
  exact⟨rfl,rfl⟩
theorem yI(y:Int)(w:World)(h1:1<=y)(h2:y<=9998):
  vC 131 #[y] w (.bool true):=by
 have d1:decide (1<=y)=true:=decide_eq_true h1
 have d2:decide (y<=9998)=true:=decide_eq_true h2
 go_enter (vF Tryz.func131),Tryz.ntmps131
 go_wp2_with fail
 go_ret
 exact⟨rfl,rfl⟩
theorem I5(y:Int)(w:World)(h2:9998<y):
  vC 131 #[y] w (.bool false):=by
 have h1:1<=y:=vO
 have h3:¬ y<=9998:=vO
 have d1:decide (1<=y)=true:=decide_eq_true h1
 have d2:decide (y<=9998)=false:=decide_eq_false h3
 go_enter (vF Tryz.func131),Tryz.ntmps131
 go_wp2_with fail
 go_ret
 exact⟨rfl,rfl⟩
theorem NN(y:Int)(p:Bool)(w:World)(h1:1<=y)(h2:y<=9998):
  vC 159 #[y,.int .i64 (if p then 1 else 0)] w (.int .i64 0):=by
 have HP:=Lib.hid (fun w=>yY p w)
 have HC:=Lib.hid (fun w=>yI y w h1 h2)
 generalize (if p then(1:Int)else 0)=pl at*
 go_enter (vF Tryz.func159),Tryz.ntmps159
 go_wp2_with fail
 refine vW (HP.out _) ?_
 go_wp2_with fail
 refine vW (HC.out _) ?_
 go_wp2_with fail
 go_ret
 exact⟨rfl,rfl⟩
theorem Jq(y pl:Int)(l:List (Int×Int))(n:Nat)(X:Int)(w:World)(hT:Tab w 6 kevCells)(hL:Tab w 4 lenCells)(hF:Tab w 7 Fe.cells)(hl:l.length=n)(HX:Hid (l.find? Sb.F6=some (8,X)))(hn:n<=60)
  (HO:Hid (∀w:World,Tab w 6 kevCells->Tab w 4 lenCells->Tab w 7 Fe.cells->Calls Tryo.prog 158 #[y,pl] w fun e w'=>∃v,e= .returned (.tuple #[v,(0:Int)])/\Ev.Own w' w.1.size v l/\Below w.1.size w w')):
  vB 130 #[y,pl] w (.int .i64 X):=by
 go_enter (vF Tryz.func130),Tryz.ntmps130
 go_wp2_with fail
 refine(HO.out _ (Tab.below hT bel) (Tab.below hL bel) (Tab.below hF bel)).mono ?_
 rintro e w2 ⟨v2,rfl,ho2,hb2⟩
 have hr:=ho2.row
 obtain⟨p2,c2,rfl⟩:=hr.len
 rw [hl]
 have hB2:Below w.1.size w w2:=bel
 clear ho2 HO
 have HN:=Lib.hid hl
 clear hl
 go_wp2_with fail
 go_loopw [17] (fun i wr=>∃j:Nat,j<=n/\i= .int .i64 (j:Int)/\Hid ((l.take j).find? Sb.F6=none)/\Below w2.1.size w2 wr) (fun i _=>n-(intOf i).toNat)
 case atStart=>exact⟨0,Nat.zero_le _,rfl,Lib.hid rfl,Below.refl _ _⟩
 case round=>
  obtain⟨j,hj,rfl,HG,hB⟩:=hrel
  have hBw:Below w.1.size w wr:=bt hB2 hB
  by_cases hlt:j<n
  ·obtain⟨x,hx⟩:∃x,l[j]? =some x:=⟨_,List.getElem?_eq_getElem (by rw [HN.out];exact hlt)⟩
   obtain⟨kd,d'⟩:=x
   obtain⟨b,off,cc,hp1,hc⟩:=(hr.below hB).kI (by rw [HN.out];omega)
   rw [HN.out]at hp1
   simp only [Value.slice.injEq]at hp1
   obtain⟨rfl,_,rfl⟩:=hp1
   obtain⟨cx1,cx2⟩:=Ev.yg hc j (kd,d') hx
   have lx:=World.block_lt_of_cell? _ _ cx1
   dsimp only at lx cx1 cx2
   have j0:(0:Int)<=(j:Int):=vO
   have j1:(j:Int)<(n:Int):=vO
   by_cases c:kd=8
   ·have HH:=Lib.hid (Sb.Ik l j (kd,d') hx HG.out (by subst c;rfl))
    subst c
    clear hc hx HG
    go_wp2_with fail
    go_ret
    refine⟨by have h1:=HX.out;rw [HH.out]at h1;simp at h1;rw [h1];rfl, ?_⟩
    exact bel
   ·have c3:(kd==8)=false:=by simpa using c
    have HH:=Lib.hid (Sb.Es l j (kd,d') hx HG.out c3)
    clear hc hx c
    go_wp2_with fail
    go_roundw
    case rel=>exact⟨j+1,vO,by go_num,HH,bel⟩
    case measure=>simp [intOf];omega
  ·exfalso
   obtain rfl:j=n:=vO
   have h0:=HG.out
   rw [List.take_of_length_le (by rw [HN.out];exact Nat.le_refl _),HX.out]at h0
   cases h0
theorem mR(y:Int)(i:Nat)(p:Bool)(w:World)(h:Yr.Is y i)(hT:Tab w 6 kevCells)(hL:Tab w 4 lenCells)(hF:Tab w 7 Fe.cells):
  vB 130 #[y,.int .i64 (if p then 1 else 0)] w (.int .i64 (Cal.first y+Sb.rjO p)):=
 Jq y _ _ _ _ w hT hL hF rfl (Lib.hid (Sb.rj_at i h.2.2.1 p (Cal.first y))) (by rw [List.length_map];exact Sb.Ip i h.2.2.1 p) (Lib.hid (fun w hT hL hF=>yV y i p w h hT hL hF))
theorem zX(y n d:Int)(w:World)(hy:I64 y)(hT:Tab w 6 kevCells)(hL:Tab w 4 lenCells):
  vB 188 #[y,n,d] w (.int .i64 (D10.aM y n false d)):=by
 have HD:=Lib.hid (fun w hT hL=>lW y n false d w hy hT hL)
 generalize D10.aM y n false d=X at*
 generalize D10.aK y n false d=E at*
 go_enter (vF Tryz.func188),Tryz.ntmps188
 go_wp2_with fail
 refine(HD.out _ (Tab.below hT bel) (Tab.below hL bel)).mono ?_
 rintro e w1 ⟨rfl,hb1⟩
 go_wp2_with fail
 go_ret
 refine⟨rfl, ?_⟩
 exact bel
theorem Rl(y day A B C E:Int)(w:World)(h1:1<=y)(h2:y<=9998)(hT:Tab w 6 kevCells)(hL:Tab w 4 lenCells)
  (HA:Hid (∀w:World,Tab w 6 kevCells->Tab w 4 lenCells->vB 188 #[y,(7:Int),(15:Int)] w (.int .i64 A))) (HB:Hid (∀w:World,Tab w 6 kevCells->Tab w 4 lenCells->vB 188 #[y,(9:Int),(5:Int)] w (.int .i64 B))) (HC:Hid (∀w:World,Tab w 6 kevCells->Tab w 4 lenCells->vB 188 #[y,(11:Int),(9:Int)] w (.int .i64 C))) (HE:Hid (∀w:World,Tab w 6 kevCells->Tab w 4 lenCells->vB 188 #[.int .i64 (y+1),(1:Int),(1:Int)] w (.int .i64 E))):
  vB 162 #[y,day] w (.tuple #[Sb.part day A B C E,(0:Int)]):=by
 have HY:=Lib.hid (fun w=>yI y w h1 h2)
 go_enter (vF Tryz.func162),Tryz.ntmps162
 go_wp2_with fail
 refine vW (HY.out _) ?_
 go_wp2_with fail
 refine(HA.out _ (Tab.below hT bel) (Tab.below hL bel)).mono ?_
 rintro e w1 ⟨rfl,hb1⟩
 by_cases cA:day<A
 ·have eA:decide (day<A)=true:=decide_eq_true cA
  have HV:=Lib.hid (show Sb.part day A B C E=1 by unfold Sb.part;(repeat' split) <;> omega)
  go_wp2_with fail
  go_ret2
  refine⟨by rw [HV.out];rfl, ?_⟩
  exact bel
 ·have eA:decide (day<A)=false:=decide_eq_false cA
  go_wp2_with fail
  refine(HB.out _ (Tab.below hT bel) (Tab.below hL bel)).mono ?_
  rintro e w2 ⟨rfl,hb2⟩
  by_cases cB:day<=B
  ·have eB:decide (day<=B)=true:=decide_eq_true cB
   have HV:=Lib.hid (show Sb.part day A B C E=2 by unfold Sb.part;(repeat' split) <;> omega)
   go_wp2_with fail
   go_ret2
   refine⟨by rw [HV.out];rfl, ?_⟩
   exact bel
  ·have eB:decide (day<=B)=false:=decide_eq_false cB
   go_wp2_with fail
   refine(HC.out _ (Tab.below hT bel) (Tab.below hL bel)).mono ?_
   rintro e w3 ⟨rfl,hb3⟩
   by_cases cC:day<=C
   ·have eC:decide (day<=C)=true:=decide_eq_true cC
    have HV:=Lib.hid (show Sb.part day A B C E=3 by unfold Sb.part;(repeat' split) <;> omega)
    go_wp2_with fail
    go_ret2
    refine⟨by rw [HV.out];rfl, ?_⟩
    exact bel
   ·have eC:decide (day<=C)=false:=decide_eq_false cC
    go_wp2_with fail
    refine(HE.out _ (Tab.below hT bel) (Tab.below hL bel)).mono ?_
    rintro e w4 ⟨rfl,hb4⟩
    by_cases cE:day<E
    ·have eE:decide (day<E)=true:=decide_eq_true cE
     have HV:=Lib.hid (show Sb.part day A B C E=4 by unfold Sb.part;(repeat' split) <;> omega)
     go_wp2_with fail
     go_ret2
     refine⟨by rw [HV.out];rfl, ?_⟩
     exact bel
    ·have eE:decide (day<E)=false:=decide_eq_false cE
     have HV:=Lib.hid (show Sb.part day A B C E=5 by unfold Sb.part;(repeat' split) <;> omega)
     go_wp2_with fail
     go_ret2
     refine⟨by rw [HV.out];rfl, ?_⟩
     exact bel
theorem XZ(y day:Int)(w:World)(h1:1<=y)(h2:y<=9998)(hT:Tab w 6 kevCells)(hL:Tab w 4 lenCells):
  vB 162 #[y,day] w (.tuple #[Sb.part day (D10.aM y 7 false 15) (D10.aM y 9 false 5) (D10.aM y 11 false 9) (D10.aM (y+1) 1 false 1),(0:Int)]):=
 Rl y day _ _ _ _ w h1 h2 hT hL (Lib.hid fun w hT hL=>zX y 7 15 w ⟨vO,vO⟩ hT hL) (Lib.hid fun w hT hL=>zX y 9 5 w ⟨vO,vO⟩ hT hL) (Lib.hid fun w hT hL=>zX y 11 9 w ⟨vO,vO⟩ hT hL) (Lib.hid fun w hT hL=>zX (y+1) 1 1 w ⟨vO,vO⟩ hT hL)
end
section
open Go.ChangeShapes Go.WideShapes Go.ChangeAt Go.RowKit Go.Lib Go.Sort Go.Shelf
namespace Sb
def rj(y:Int)(p:Bool):Int:=Cal.first y+rjO p
def Ey(y:Int)(p:Bool):Nat:=((rj (y+1) p-Sat.aC (rj y p+1)) / 7+1).toNat
def Cv(y:Int)(p:Bool):List Int:=sats (rj y p+1) (Ey y p)
theorem OO(p:Bool):21<=rjO p/\rjO p<=22:=by cases p <;> simp [rjO]
theorem Yu:((List.range 14).all fun i=>decide (353<=Yr.Iq i)&&decide (Yr.Iq i<=385))=true:=by decide+kernel
theorem Gz(i:Nat)(hi:i<14):353<=Yr.Iq i/\Yr.Iq i<=385:=by
 have h:=List.all_eq_true.1 Yu i (List.mem_range.2 hi)
 simpa only [Bool.and_eq_true,decide_eq_true_eq]using h
theorem Z9{y:Int}{i:Nat}(p:Bool)(h:Yr.Is y i):rj y p+353<=rj (y+1) p/\rj (y+1) p<=rj y p+385:=by
 have h1:=Yr.j6 h
 have h2:=Gz i h.2.2.1
 unfold rj
 omega
theorem EK{y:Int}{i:Nat}(p:Bool)(h:Yr.Is y i): -1373427<=rj y p/\rj y p<=2278700:=by
 have h1:=Yr.iY h
 have h2:=OO p
 unfold rj
 omega
theorem CF{y:Int}{i:Nat}(p:Bool)(h:Yr.Is y i):(∀j:Nat,j<Ey y p->Sat.aC (rj y p+1)+7*(j:Int)<=rj (y+1) p)/\rj (y+1) p<Sat.aC (rj y p+1)+7*(Ey y p:Int)/\50<=Ey y p/\Ey y p<=56:=by
 have h1:=Z9 p h
 have h2:=Sat.zu (rj y p+1)
 unfold Ey
 refine⟨fun j hj=> ?_, ?_, ?_, ?_⟩ <;> omega
theorem Rt(y:Int)(p:Bool):(Cv y p).length=Ey y p:=Ri _ _
end Sb
theorem T9(y pl R S:Int)(l:List Int)(w:World)(h1:1<=y)(h2:y<=9998)(r1: -2000000<=R)(r2:R<=3000000)(hT:Tab w 6 kevCells)(hL:Tab w 4 lenCells)(hF:Tab w 7 Fe.cells)
  (HK:Hid (∀w:World,vC 159 #[y,pl] w (.int .i64 0)))
  (HR:Hid (∀w:World,Tab w 6 kevCells->Tab w 4 lenCells->Tab w 7 Fe.cells->vB 130 #[y,pl] w (.int .i64 R)))
  (HT:Hid (∀w:World,Tab w 6 kevCells->Tab w 4 lenCells->Tab w 7 Fe.cells->vB 130 #[.int .i64 (y+1),pl] w (.int .i64 S)))
  (HS:Hid (∀w:World,Calls Tryo.prog 160 #[.int .i64 (R+1),S] w fun e w'=>∃v,e= .returned v/\Il.Own w' w.1.size v l/\Below w.1.size w w')):
  Calls Tryo.prog 132 #[y,pl] w fun e w'=>∃v,e= .returned (.tuple #[v,(0:Int)])/\Il.Own w' w.1.size v l/\Below w.1.size w w':=by
 go_enter (vF Tryz.func132),Tryz.ntmps132
 go_wp2_with fail
 refine vW (HK.out _) ?_
 go_wp2_with fail
 refine(HR.out _ (Tab.below hT bel) (Tab.below hL bel) (Tab.below hF bel)).mono ?_
 rintro e w1 ⟨rfl,hb1⟩
 go_wp2_with fail
 refine(HT.out _ (Tab.below hT bel) (Tab.below hL bel) (Tab.below hF bel)).mono ?_
 rintro e w2 ⟨rfl,hb2⟩
 go_wp2_with fail
 refine(HS.out _).mono ?_
 rintro e w3 ⟨v3,rfl,ho3,hb3⟩
 have hB3:Below w.1.size w w3:=bel
 have hB2:Below w.1.size w w2:=bel
 go_wp2_with fail
 go_ret2
 exact⟨_,rfl,ho3.base hB2.size,hB3⟩
theorem Vj(y:Int)(i i2:Nat)(p:Bool)(w:World)(h:Yr.Is y i)(h2:Yr.Is (y+1) i2)(hT:Tab w 6 kevCells)(hL:Tab w 4 lenCells)(hF:Tab w 7 Fe.cells):
  Calls Tryo.prog 132 #[y,.int .i64 (if p then 1 else 0)] w fun e w'=>∃v,e= .returned (.tuple #[v,(0:Int)])/\Il.Own w' w.1.size v (Sb.Cv y p)/\Below w.1.size w w':=by
 have a1:=h.1
 have a2:=h2.2.1
 have b1:=Sb.EK p h
 have b2:=Sb.EK p h2
 obtain⟨n1,n2,n3,n4⟩:=Sb.CF p h
 exact T9 y _ (Sb.rj y p) (Sb.rj (y+1) p) _ w a1 vO vO vO hT hL hF (Lib.hid (fun w=>NN y p w a1 vO)) (Lib.hid (fun w hT hL hF=>mR y i p w h hT hL hF)) (Lib.hid (fun w hT hL hF=>mR (y+1) i2 p w h2 hT hL hF))
  (Lib.hid (fun w=>aaz (Sb.rj y p+1) (Sb.rj (y+1) p) (Sb.Ey y p) w vO vO vO (Lib.hid n1) (Lib.hid n2) vO))
theorem uU:(∀(D pl yd n d S c:Int)(lf:Bool)(w:World)(y1:1<=yd)(y2:yd<=9999)(hc:c=yd-1)(hs:D<=S)(hT:Tab w 6 kevCells)(hL:Tab w 4 lenCells)(hF:Tab w 7 Fe.cells)
  (HP:Hid (∀w:World,vC 129 #[pl] w (.bool true)))
  (HF:Hid (∀w:World,Tab w 6 kevCells->Tab w 4 lenCells->vB 31 #[D] w (.tuple #[.agg #[yd,n,lf,d],(0:Int)])))
  (HR:Hid (∀w:World,Tab w 6 kevCells->Tab w 4 lenCells->Tab w 7 Fe.cells->vB 130 #[yd,pl] w (.int .i64 S)))
  (HC:Hid (∀w:World,vC 131 #[c] w (.bool true))),vB 89 #[D,pl] w (.tuple #[c,(0:Int)]))/\(∀(D pl yd n d S c:Int)(lf:Bool)(w:World)(y1:1<=yd)(y2:yd<=9999)(hc:c=yd)(hs:¬ D<=S)(hT:Tab w 6 kevCells)(hL:Tab w 4 lenCells)(hF:Tab w 7 Fe.cells)
  (HP:Hid (∀w:World,vC 129 #[pl] w (.bool true)))
  (HF:Hid (∀w:World,Tab w 6 kevCells->Tab w 4 lenCells->vB 31 #[D] w (.tuple #[.agg #[yd,n,lf,d],(0:Int)])))
  (HR:Hid (∀w:World,Tab w 6 kevCells->Tab w 4 lenCells->Tab w 7 Fe.cells->vB 130 #[yd,pl] w (.int .i64 S)))
  (HC:Hid (∀w:World,vC 131 #[c] w (.bool true))),vB 89 #[D,pl] w (.tuple #[c,(0:Int)])):=by
 refine⟨@fun D pl yd n d S c lf w y1 y2 hc hs hT hL hF HP HF HR HC=>(fun(k90:Nat)=> ?_) 0,@fun D pl yd n d S c lf w y1 y2 hc hs hT hL hF HP HF HR HC=> ?_⟩
 all_goals(
 first|(have _:=k90;have e1:decide (D<=S)=true:=decide_eq_true hs)|(have e1:decide (D<=S)=false:=decide_eq_false hs)
 subst c
 go_enter (vF Tryz.func89),Tryz.ntmps89
 go_wp2_with fail
 refine vW (HP.out _) ?_
 go_wp2_with fail
 refine(HF.out _ (Tab.below hT bel) (Tab.below hL bel)).mono ?_
 rintro e w1 ⟨rfl,hb1⟩
 go_wp2_with fail
 refine vX (HR.out _ (Tab.below hT bel) (Tab.below hL bel) (Tab.below hF bel)) fun w2 hb2 hz2 hc2 hf2=>?_
 try simp at hz2
 have hl2w1:w1.1.size<w2.1.size:=vO
 have hm2w1:w1.1.size<=w2.1.size:=vO
 have g2x0:w2.cell? ⟨w1.1.size,0,none⟩=some (yd:vV):=cel hc2
 go_wp2_with fail
 refine vW (HC.out _) ?_
 go_wp2_with fail
 go_ret2
 refine⟨rfl, ?_⟩
 exact bel
 )
def Pd:=uU.1
def OE:=uU.2
theorem Mk(k:Int)(i i2:Nat)(p:Bool)(D:Int)(w:World)(h:Yr.Is k i)(h2:Yr.Is (k+1) i2)(h3:Sb.rj k p<D)(h4:D<=Sb.rj (k+1) p)(hT:Tab w 6 kevCells)(hL:Tab w 4 lenCells)(hF:Tab w 7 Fe.cells):
  vB 89 #[D,.int .i64 (if p then 1 else 0)] w (.tuple #[k,(0:Int)]):=by
 have a1:=h.1
 have a2:=h2.2.1
 have o:=Sb.OO p
 have f1:=Yr.iY h
 have f2:=Yr.iY h2
 have l1:=Yr.j6 h
 have l2:=Yr.j6 h2
 have l3:=Sb.Gz i h.2.2.1
 have l4:=Sb.Gz i2 h2.2.2.1
 have e3:Cal.first k+Sb.rjO p<D:=h3
 have e4:D<=Cal.first (k+1)+Sb.rjO p:=h4
 have hhi:D<=2278650:=by
  by_cases c:k+1<9999
  ·have:=fC (k+2) 9999 vO vO vO
   rw [show k+1+1=k+2 by omega]at l2
   have h9:Cal.first 9999<=2278650:=(show decide (Cal.first 9999<=2278650)=true by decide+kernel) |> of_decide_eq_true
   omega
  ·have:k+1=9999:=vO
   rw [this]at e4
   have h9:Cal.first 9999+22<=2278650:=(show decide (Cal.first 9999+22<=2278650)=true by decide+kernel) |> of_decide_eq_true
   omega
 obtain⟨yd,m,d,hv,rfl⟩:=D10.qQ D vO hhi
 obtain⟨g1,g2⟩:=D10.Ep hv
 have v1:=hv.1
 have v2:=hv.2.1
 have HP:=Lib.hid (fun w=>yY p w)
 have HF:=Lib.hid (fun w hT hL=>iE yd m d w hT hL hv)
 have HC:=Lib.hid (fun w=>yI k w a1 vO)
 have hy:yd=k∨yd=k+1:=by
  by_cases c1:yd<k
  ·have:=fC (yd+1) k vO vO vO
   omega
  ·by_cases c2:k+1<yd
   ·have:=fC (k+2) yd vO vO vO
    rw [show k+1+1=k+2 by omega]at l2
    omega
   ·omega
 rcases hy with rfl|rfl
 ·exact OE _ _ yd _ d (Sb.rj yd p) yd _ w v1 v2 rfl vO hT hL hF HP HF (Lib.hid (fun w hT hL hF=>mR yd i p w h hT hL hF)) HC
 ·exact Pd _ _ (k+1) _ d (Sb.rj (k+1) p) k _ w v1 v2 vO vO hT hL hF HP HF (Lib.hid (fun w hT hL hF=>mR (k+1) i2 p w h2 hT hL hF)) HC
end
end Go.Proofs.YtljbnicolhhicaaGreatDoor
