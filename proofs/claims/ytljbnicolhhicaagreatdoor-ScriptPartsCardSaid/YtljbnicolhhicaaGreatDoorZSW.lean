import Derived.Test.YtljbnicolhhicaaGreatDoorZSB
import Derived.Maps.RangeWalk
set_option maxHeartbeats 8000000
set_option maxRecDepth 100000
set_option linter.unusedVariables false
namespace Go.Proofs.YtljbnicolhhicaaGreatDoor
section
open Go.ChangeShapes Go.WideShapes Go.ChangeAt Go.RowKit Go.Lib Go.Shelf Go.Maps
theorem KT{H:Type}{P:Program}{e:TypeId}(he:P.underlying e=some .bool){v:Value}{z:DataW H×List MemPlace}(h:plainElem P e v=some z):∃x,v= .bool x/\z=(.lit (.bool x),[]):=by
 unfold plainElem at h
 rw [he]at h
 cases v <;> simp at h
 exact⟨_,rfl,h.symm⟩
theorem Ms{P:Program}(w:World){ops:Array Oper}{rest:List Oper}{o:Oper}{a:Act}{Q:Exit->Act->World->Prop}(hg:o.guard=none)(m x:Operand)(t:TypeId)(hop:o.op=Op.lookup t m x false)(M K v:Value)
  (hm:a.eval m=M) (hx:a.eval x=K) (hr:(Instr.lookup t M K false).run P w= .ok v w) (hK:wpList P ops Q rest (a.put o.dst v) w):wpList P ops Q (o :: rest) a w:=by
 refine wpList_plain hg fun K' hK'=> ?_
 unfold Oper.wp
 simp [execOp,hop,hm,hx,hr,Result.andThen]
 exact hK' _ _ hK
theorem WM{P:Program}(w:World){ops:Array Oper}{rest:List Oper}{o:Oper}{a:Act}{Q:Exit->Act->World->Prop}(hg:o.guard=none)(m x v:Operand)(t:TypeId)(hop:o.op=Op.mapUpdate t m x v)(M K V:Value)
  (hm:a.eval m=M) (hx:a.eval x=K) (hv:a.eval v=V) (X:World->Prop) (hr:∃w',(Instr.mapUpdate t M K V).run P w= .ok () w'/\X w') (hK:∀w',X w'->wpList P ops Q rest (a.put o.dst undef) w'):wpList P ops Q (o :: rest) a w:=by
 refine wpList_plain hg fun K' hK'=> ?_
 obtain⟨w',h1,h2⟩:=hr
 unfold Oper.wp
 simp [execOp,hop,hm,hx,hv,h1,Result.andThen]
 exact hK' _ _ (hK w' h2)
theorem zeroB(w:World):(zeroValue 4).run Tryo.prog w= .ok (.bool false) w:=vK
def mJ(w:World)(B n:Nat)(S:List Int):Prop:=∃D:DataW Unit,w.ownsMap Tryo.prog 3 (plainElem Tryo.prog 4) B n D/\∀d:Int,D.atKey (.int .i64 d) (.lit (.bool false))= .lit (.bool (decide (d∈S)))
theorem mJ.made(w:World):mJ (w.alloc (.map #[] 0)) w.1.size 0 []:=⟨_,World.ownsMap_made _ _ _ _,fun d=>by simp;rfl⟩
theorem mJ.lt{w:World}{B n:Nat}{S:List Int}(h:mJ w B n S):B<w.1.size:=by
 obtain⟨D,h,_⟩:=h
 exact h.lt
theorem mJ.below{w w':World}{B n:Nat}{S:List Int}(h:mJ w B n S)(hb:Below w.1.size w w'):mJ w' B n S:=by
 obtain⟨D,h,e⟩:=h
 exact⟨D,h.kept (Ev.grown_of hb) vS,e⟩
theorem mJ.grown{w w':World}{B n:Nat}{S:List Int}{row:Option Nat}(h:mJ w B n S)(hg:w.grownBy w' row)(hne:some B≠row):mJ w' B n S:=by
 obtain⟨D,h,e⟩:=h
 exact⟨D,h.kept hg hne,e⟩
theorem mJ.mono{w:World}{B n m:Nat}{S:List Int}(h:mJ w B n S)(hn:n<=m):mJ w B m S:=by
 obtain⟨D,h,e⟩:=h
 exact⟨D,h.mono hn,e⟩
theorem mJ.ne{w:World}{B n b o:Nat}{S:List Int}{v:Value}(h:mJ w B n S)(hc:w.cell? ⟨b,o,none⟩=some v):b≠B:=by
 rintro rfl
 obtain⟨D,⟨es,ck,hb,_⟩,_⟩:=h
 simp [World.cell?,hb]at hc
theorem Fx{w a b:World}{r:Option Nat}(h:w.grownBy a r)(hb:Below a.1.size a b):w.grownBy b r:=h.trans ((Ev.grown_of hb).but r)
theorem mJ.look{w:World}{B n:Nat}{S:List Int}(h:mJ w B n S)(d:Int)(h1: -9223372036854775808<=d)(h2:d<=9223372036854775807):(Instr.lookup 228 (.map (some B)) (.int .i64 d) false).run Tryo.prog w= .ok (.bool (decide (d∈S))) w:=by
 obtain⟨D,ho,hs⟩:=h
 obtain⟨v,ps,hrun,hv⟩:=ho.lookup (int_keyed (aB Tryz.underlying3)) (aB Tryz.underlying228) (zeroB w) (plainElem_bool (aB Tryz.underlying4) false) (keyOf_int_mk (aB Tryz.underlying3) (WalkArith.wf_i64 ⟨h1,h2⟩))
 rw [hs d]at hv
 obtain⟨x,rfl,e⟩:=KT (aB Tryz.underlying4) hv
 simp at e
 rw [hrun,←e.1]
theorem mJ.put{w:World}{B n:Nat}{S:List Int}(h:mJ w B n S)(hn:n<maxLen)(d:Int)(h1: -9223372036854775808<=d)(h2:d<=9223372036854775807):∃w',(Instr.mapUpdate 228 (.map (some B)) (.int .i64 d) (.bool true)).run Tryo.prog w= .ok () w'/\mJ w' B (n+1) (S++ [d])/\w.grownBy w' (some B):=by
 obtain⟨D,ho,hs⟩:=h
 have hk:keyOf Tryo.prog 3 (.int .i64 d)=some (.int .i64 d):=keyOf_int_mk (aB Tryz.underlying3) (WalkArith.wf_i64 ⟨h1,h2⟩)
 obtain⟨w',hrun,r1,r2⟩:=ho.update (int_keyed (aB Tryz.underlying3)) (aB Tryz.underlying228) hn hk (plainElem_bool (aB Tryz.underlying4) true)
 refine⟨w',hrun,⟨_,r1,fun x=> ?_⟩,r2⟩
 by_cases e:x=d
 ·subst e
  rw [atKey_put_same ho.isMap (by simp [WideAt.IsKeyLit])]
  simp
 ·rw [atKey_put_other (by simpa using e),hs x]
  simp [e]
end
section
open Go.ChangeShapes Go.WideShapes Go.ChangeAt Go.RowKit Go.Lib Go.Sort Go.Shelf
def Fe.Jz(x:Int):Bool:= [1,3,4,5,6,7,8,17,18,25].any (x== ·)
theorem Nv(w:World):vC 187 #[(1:Int)] w (.bool true):=by
 go_enter (vF Tryz.func187),Tryz.ntmps187
 go_wp2_with fail
 go_ret
 exact⟨rfl,rfl⟩
theorem N7(w:World):vC 187 #[(3:Int)] w (.bool true):=by
 go_enter (vF Tryz.func187),Tryz.ntmps187
 go_wp2_with fail
 go_ret
 exact⟨rfl,rfl⟩
theorem OC(w:World):vC 187 #[(4:Int)] w (.bool true):=by
 go_enter (vF Tryz.func187),Tryz.ntmps187
 go_wp2_with fail
 go_ret
 exact⟨rfl,rfl⟩
theorem M8(w:World):vC 187 #[(5:Int)] w (.bool true):=by
 go_enter (vF Tryz.func187),Tryz.ntmps187
 go_wp2_with fail
 go_ret
 exact⟨rfl,rfl⟩
theorem Ng(w:World):vC 187 #[(6:Int)] w (.bool true):=by
 go_enter (vF Tryz.func187),Tryz.ntmps187
 go_wp2_with fail
 go_ret
 exact⟨rfl,rfl⟩
theorem O3(w:World):vC 187 #[(7:Int)] w (.bool true):=by
 go_enter (vF Tryz.func187),Tryz.ntmps187
 go_wp2_with fail
 go_ret
 exact⟨rfl,rfl⟩
theorem M6(w:World):vC 187 #[(8:Int)] w (.bool true):=by
 go_enter (vF Tryz.func187),Tryz.ntmps187
 go_wp2_with fail
 go_ret
 exact⟨rfl,rfl⟩
theorem Kn(w:World):vC 187 #[(17:Int)] w (.bool true):=by
 go_enter (vF Tryz.func187),Tryz.ntmps187
 go_wp2_with fail
 go_ret
 exact⟨rfl,rfl⟩
theorem KR(w:World):vC 187 #[(18:Int)] w (.bool true):=by
 go_enter (vF Tryz.func187),Tryz.ntmps187
 go_wp2_with fail
 go_ret
 exact⟨rfl,rfl⟩
theorem KX(w:World):vC 187 #[(25:Int)] w (.bool true):=by
 go_enter (vF Tryz.func187),Tryz.ntmps187
 go_wp2_with fail
 go_ret
 exact⟨rfl,rfl⟩
theorem KG(x:Int)(w:World)(h1:(x==1)=false)(h3:(x==3)=false)(h4:(x==4)=false)(h5:(x==5)=false)(h6:(x==6)=false)(h7:(x==7)=false)(h8:(x==8)=false)(h17:(x==17)=false)(h18:(x==18)=false)(h25:(x==25)=false):vC 187 #[x] w (.bool false):=by
 go_enter (vF Tryz.func187),Tryz.ntmps187
 go_wp2_with fail
 go_ret
 exact⟨rfl,rfl⟩
theorem Ud(x:Int)(w:World):vC 187 #[x] w (.bool (Fe.Jz x)):=by
 by_cases e1:x=1
 ·subst e1;exact Nv w
 by_cases e3:x=3
 ·subst e3;exact N7 w
 by_cases e4:x=4
 ·subst e4;exact OC w
 by_cases e5:x=5
 ·subst e5;exact M8 w
 by_cases e6:x=6
 ·subst e6;exact Ng w
 by_cases e7:x=7
 ·subst e7;exact O3 w
 by_cases e8:x=8
 ·subst e8;exact M6 w
 by_cases e17:x=17
 ·subst e17;exact Kn w
 by_cases e18:x=18
 ·subst e18;exact KR w
 by_cases e25:x=25
 ·subst e25;exact KX w
 rw [show Fe.Jz x=false by simp [Fe.Jz,e1,e3,e4,e5,e6,e7,e8,e17,e18,e25]]
 exact KG x w (by simpa using e1) (by simpa using e3) (by simpa using e4) (by simpa using e5) (by simpa using e6) (by simpa using e7) (by simpa using e8) (by simpa using e17) (by simpa using e18) (by simpa using e25)
namespace Fe
end Fe
end
section
open Go.ChangeShapes Go.WideShapes Go.ChangeAt Go.RowKit Go.Lib Go.Sort Go.Shelf
namespace Sb
def oQ(l:List (Int×Int)):List Int:=(l.filter fun x=>Fe.Jz x.1).map (·.2)
theorem Td(l:List (Int×Int))(j:Nat)(x:Int×Int)(hx:l[j]? =some x):oQ (l.take (j+1))=oQ (l.take j)++if Fe.Jz x.1 then [x.2]else []:=by
 unfold oQ
 rw [List.take_add_one,hx,List.filter_append,List.map_append]
 congr 1
 simp only [Option.toList,List.filter_cons,List.filter_nil]
 split <;> simp
def Ar(L:Nat->List (Int×Int)):Nat->List Int
 |0=> []
 |r+1=>Ar L r++oQ (L r)
def iU(S l:List Int):List Int:=l.filter fun d=> !decide (d∈S)
theorem QX(S l:List Int)(j:Nat)(x:Int)(hx:l[j]? =some x):iU S (l.take (j+1))=iU S (l.take j)++if decide (x∈S)=true then []else [x]:=by
 unfold iU
 rw [List.take_add_one,hx,List.filter_append]
 congr 1
 simp only [Option.toList,List.filter_cons,List.filter_nil]
 by_cases c:x∈S <;> simp [c]
end Sb
theorem SF(y pl:Int)(l:List Int)(n:Nat)(L:Nat->List (Int×Int))(w:World)(h1:1<=y)(h2:y<=9998)(hl:l.length=n)(hn:n<=60)(HL:Hid (∀r,(L r).length<=60))(hT:Tab w 6 kevCells)(hL:Tab w 4 lenCells)(hF:Tab w 7 Fe.cells)
  (HB:Hid (∀r,r<2->∀x∈L r, -4611686018427387904<=x.2/\x.2<=4611686018427387904)) (HD:Hid (∀x∈l, -4611686018427387904<=x/\x<=4611686018427387904))
  (HA:Hid (∀w:World,Tab w 6 kevCells->Tab w 4 lenCells->Tab w 7 Fe.cells->Calls Tryo.prog 132 #[y,pl] w fun e w'=>∃v,e= .returned (.tuple #[v,(0:Int)])/\Il.Own w' w.1.size v l/\Below w.1.size w w'))
  (HO:Hid (∀ (r:Nat) (w:World),r<2->Tab w 6 kevCells->Tab w 4 lenCells->Tab w 7 Fe.cells->Calls Tryo.prog 158 #[.int .i64 (y+(r:Int)),pl] w fun e w'=>∃v,e= .returned (.tuple #[v,(0:Int)])/\Ev.Own w' w.1.size v (L r)/\Below w.1.size w w')):
  Calls Tryo.prog 161 #[y,pl] w fun e w'=>∃v,e= .returned (.tuple #[v,(0:Int)])/\Il.Own w' w.1.size v (Sb.iU (Sb.Ar L 2) l)/\Below w.1.size w w':=by
 obtain⟨i0,hi,hz0,hz1,hz2⟩:=info_parts JL
 have HR:=Lib.hid (fun x w=>Ud x w)
 have hmm:= @run_makeMap Tryo.prog
 go_enter (vF Tryz.func161),Tryz.ntmps161
 go_wp2_with fail
 refine(HA.out _ (Tab.below hT bel) (Tab.below hL bel) (Tab.below hF bel)).mono ?_
 rintro e w1 ⟨v1,rfl,ho1,hb1⟩
 have hr1:=ho1.row
 obtain⟨p1,c1,rfl⟩:=hr1.len
 rw [hl]
 have HN:=Lib.hid hl
 clear hl ho1 HA
 have hB1:Below w.1.size w w1:=bel
 go_wp2_with fail
 clear hmm
 go_loopw [9] (fun i wr=>∃r:Nat,r<=2/\i= .int .i64 (y+(r:Int))/\mJ wr w1.1.size (60*r) (Sb.Ar L r)/\Below w1.1.size w1 wr) (fun i _=>2-(intOf i-y).toNat)
 case atStart=>exact⟨0,vO,vS,mJ.made _,bel⟩
 case round=>
  obtain⟨r,hr,rfl,HM,hB⟩:=hrel
  obtain⟨w9,rfl⟩:∃x,x=wr:=⟨_,rfl⟩
  have hBw:Below w.1.size w w9:=bt hB1 hB
  by_cases hlt:r<2
  ·have HOr:=Lib.hid (fun w=>HO.out r w hlt)
   have hyr:y+(r:Int)<=y+1:=vO
   have hLr:=HL.out r
   have HBr:=Lib.hid (HB.out r hlt)
   have HRU:Hid (Sb.Ar L (r+1)=Sb.Ar L r++Sb.oQ (L r)):=Lib.hid rfl
   obtain⟨Y,hY⟩:∃Y,Y=y+(r:Int):=⟨_,rfl⟩
   have HY:=Lib.hid hY
   rw [←hY]at HOr hyr⊢
   have hY2:Y<=9999:=vO
   have hY1:1<=Y:=vO
   obtain⟨l2,hl2⟩:∃x,x=L r:=⟨_,rfl⟩
   rw [←hl2]at HOr HBr HRU hLr
   obtain⟨n2,hn2⟩:∃x,x=l2.length:=⟨_,rfl⟩
   have HN2:=Lib.hid hn2.symm
   rw [←hn2]at hLr
   clear hY hl2
   go_wp2_with fail
   refine(HOr.out _ (Tab.below hT bel) (Tab.below hL bel) (Tab.below hF bel)).mono ?_
   rintro e w2 ⟨v2,rfl,ho2,hb2⟩
   have hr2:=ho2.row
   obtain⟨p2,c2,rfl⟩:=hr2.len
   rw [HN2.out]
   have hB2:Below w9.1.size w9 w2:=bel
   have HM2:=HM.below hB2
   clear ho2 HM hn2
   go_wp2_with fail
   go_loopw [42] (fun i wr=>∃j:Nat,j<=n2/\i= .int .i64 (j:Int)/\mJ wr w1.1.size (60*r+j) (Sb.Ar L r++Sb.oQ (l2.take j))/\w2.grownBy wr (some w1.1.size)/\Below w1.1.size w1 wr) (fun i _=>n2-(intOf i).toNat)
   case atStart=>exact⟨0,Nat.zero_le _,rfl,by simpa [Sb.oQ]using HM2,World.grownBy.refl _ _,bt hB hB2⟩
   case round=>
    obtain⟨j,hj,rfl,HM,HG,hB3⟩:=hrel
    obtain⟨w3,rfl⟩:∃x,x=wr:=⟨_,rfl⟩
    by_cases hlt2:j<n2
    ·obtain⟨x,hx⟩:∃x,l2[j]? =some x:=⟨_,List.getElem?_eq_getElem (by rw [HN2.out];exact hlt2)⟩
     have HX:=Lib.hid (Sb.Td l2 j x hx)
     have HXB:=Lib.hid (HBr.out x (List.mem_of_getElem? hx))
     obtain⟨kd,d'⟩:=x
     obtain⟨b,off,cc,hp1,hc⟩:=hr2.kI (by rw [HN2.out];omega)
     rw [HN2.out]at hp1
     simp only [Value.slice.injEq]at hp1
     obtain⟨rfl,_,rfl⟩:=hp1
     obtain⟨cy1,cy2⟩:=Ev.yg hc j (kd,d') hx
     have HNE:=Lib.hid (HM2.ne cy1)
     have cx1:=HG.cell cy1 (fun e=>HNE.out (Option.some.inj e))
     have cx2:=HG.cell cy2 (fun e=>HNE.out (Option.some.inj e))
     have lx:=World.block_lt_of_cell? _ _ cx1
     dsimp only at lx cx1 cx2 HX HXB
     have j0:(0:Int)<=(j:Int):=vO
     have j1:(j:Int)<(n2:Int):=vO
     clear hc hx cy1 cy2
     go_wp2_with fail
     refine vW (HR.out _ _) ?_
     by_cases cR:Fe.Jz kd=true
     ·rw [cR]
      have HC:=Lib.hid cR
      clear cR
      go_wp2_with (at_mapUpdate;refine WM _ rfl _ _ _ 228 rfl _ _ _ rfl rfl rfl (fun w'=>mJ w' w1.1.size (60*r+j+1) (Sb.Ar L r++Sb.oQ (l2.take j)++ [d'])/\World.grownBy _ w' (some w1.1.size)) (mJ.put (HM.below bel) (by simp only [maxLen];omega) _ (by have:=HXB.out;omega) (by have:=HXB.out;omega)) ?_;intro w7 hw7;obtain⟨HM7,hg7⟩:=hw7)
      go_roundw
      case rel=>exact⟨j+1,vO,by go_num,by rw [HX.out,if_pos HC.out,←List.append_assoc];exact HM7,(Fx HG bel).trans hg7,oG bel hg7 (fun k e=>by cases e;exact Nat.le_refl _)⟩
      case measure=>simp [intOf];omega
     ·have HC:=Lib.hid cR
      have cR2:Fe.Jz kd=false:=by simpa using cR
      rw [cR2]
      clear cR cR2
      go_wp2_with fail
      go_roundw
      case rel=>exact⟨j+1,vO,by go_num,by rw [HX.out,if_neg HC.out,List.append_nil];exact(HM.below bel).mono vO,Fx HG bel,bel⟩
      case measure=>simp [intOf];omega
    ·obtain rfl:j=n2:=vO
     have HT:Hid (l2.take j=l2):=Lib.hid (List.take_of_length_le (by rw [HN2.out];exact Nat.le_refl _))
     clear hlt2
     go_wp2_with fail
     go_roundw
     case rel=>exact⟨r+1,vO,by have:=HY.out;simp;omega,by rw [HRU.out];rw [HT.out]at HM;exact HM.mono vO,hB3⟩
     case measure=>have:=HY.out;simp [intOf];omega
  ·obtain rfl:r=2:=vO
   clear hlt
   have HMS:=Lib.hid HM
   obtain⟨S,hS⟩:∃S,S=Sb.Ar L 2:=⟨_,rfl⟩
   have HS:=Lib.hid hS
   rw [←hS]at HM
   clear hS HMS HO HB HL
   have hyn:¬ (y+2<=y+1):=vO
   go_wp2_with fail
   go_loopw [14,55] (fun v i wr=>∃j:Nat,j<=n/\i= .int .i64 (j:Int)/\Il.Own wr (w1.1.size+1) v (Sb.iU S (l.take j))/\(Sb.iU S (l.take j)).length<=j/\mJ wr w1.1.size (120) (S)/\Below w1.1.size w1 wr) (fun _ i _=>n-(intOf i).toNat)
   case atStart=>exact⟨0,Nat.zero_le _,rfl,Il.Own.nil _ _,by simp [Sb.iU],HM,hB⟩
   case round=>
    obtain⟨j,hj,rfl,HW,hlen,HM3,hB3⟩:=hrel
    obtain⟨w3,rfl⟩:∃x,x=wr:=⟨_,rfl⟩
    have hBw3:Below w.1.size w w3:=bt hB1 hB3
    have hz3:w1.1.size+1<=w3.1.size:=HM3.lt
    by_cases hlt2:j<n
    ·obtain⟨D,hx⟩:∃x,l[j]? =some x:=⟨_,List.getElem?_eq_getElem (by rw [HN.out];exact hlt2)⟩
     have HX:=Lib.hid (Sb.QX S l j D hx)
     have HXB:=HD.out D (List.mem_of_getElem? hx)
     obtain⟨b,off,cc,hp1,hc⟩:=(hr1.below hB3).kI (by rw [HN.out];omega)
     rw [HN.out]at hp1
     simp only [Value.slice.injEq]at hp1
     obtain⟨rfl,_,rfl⟩:=hp1
     have cx1:=hc j D hx
     have lx:=World.block_lt_of_cell? _ _ cx1
     dsimp only at lx cx1
     have hlook:=HM3.look D vO vO
     have j0:(0:Int)<=(j:Int):=vO
     have j1:(j:Int)<(n:Int):=vO
     obtain⟨d1,d2⟩:=HXB
     clear hc hx
     by_cases cD:decide (D∈S)=true
     ·rw [cD]at hlook
      have HC:=Lib.hid cD
      clear cD
      go_wp2_with (at_lookup;refine Ms _ rfl _ _ 228 rfl _ _ _ rfl rfl hlook ?_)
      go_roundw
      case rel=>exact⟨j+1,vO,by go_num,by rw [HX.out,if_pos HC.out,List.append_nil];exact HW,by rw [HX.out,if_pos HC.out,List.append_nil];omega,HM3,hB3⟩
      case measure=>simp [intOf];omega
     ·have HC:=Lib.hid cD
      have cD2:decide (D∈S)=false:=by simpa using cD
      rw [cD2]at hlook
      clear cD cD2
      go_wp2_with (first|(at_lookup;refine Ms _ rfl _ _ 228 rfl _ _ _ rfl rfl hlook ?_)|(have HX7:w3.ownsRow (w1.1.size+1) 3 1 u14 (Sb.iU S (l.take j)).length (Il.vals (Sb.iU S (l.take j))):=HW;at_builtin;refine wpList_append_own_at _ rfl (.tmp 63) (.tmp 65) 154 rfl (w1.1.size+1) 3 i0 (.int .i64 0) 1 8 (aB Tryz.underlying154) hi hz0 hz1 hz2 rfl vD _ (Sb.iU S (l.take j)).length (Il.vals (Sb.iU S (l.take j))) rfl (HX7.alloc _) ⟨w3.1.size,0,none⟩ 1 1 [.int .i64 _] rfl rfl (O7 _ _) (Ua _) (by simp only [maxLen];omega) vO (by first|assumption|(simp;omega)|omega) ?_;intro v7 w7 hown7 hgrow7 _ hblk7))
      go_roundw
      case rel=>
       have hro:∀k,u14.ownBlock=some k->w1.1.size+1<=k:=fun k e=>(World.ownsRow.lt HX7 k e).1
       exact⟨j+1,vO,by go_num,by rw [HX.out,if_neg HC.out];exact Il.iJ rfl hown7,by rw [HX.out,if_neg HC.out,List.length_append];simp;omega,(HM3.below bel).grown hgrow7 (fun e=>by have:=hro _ e.symm;omega),oG bel hgrow7 (fun k e=>by have:=hro k e;omega)⟩
      case measure=>simp [intOf];omega
    ·obtain rfl:j=n:=vO
     have HT:Hid (l.take j=l):=Lib.hid (List.take_of_length_le (by rw [HN.out];exact Nat.le_refl _))
     clear hlt2
     go_wp2_with fail
     go_ret2
     exact⟨_,rfl,by rw [←HS.out];rw [HT.out]at HW;exact HW.base (by have:=hB1.size;omega),hBw3⟩
end
section
open Go.ChangeShapes Go.WideShapes Go.ChangeAt Go.RowKit Go.Lib Go.Sort Go.Shelf
namespace Sb
def sJ(y:Int)(i i2:Nat)(p:Bool):Nat->List (Int×Int)
 |0=>(Fe.kP i p).map (Ev.sh (Cal.first y))
 |1=>(Fe.kP i2 p).map (Ev.sh (Cal.first (y+1)))
 |_=> []
def free(y:Int)(i i2:Nat)(p:Bool):List Int:=iU (Ar (sJ y i i2 p) 2) (Cv y p)
theorem Zy:((List.range 14).all fun i=> [false,true].all fun p=>(Fe.kP i p).all fun x=>decide (0<=x.2)&&decide (x.2<=400))=true:=by decide+kernel
theorem XQ{i:Nat}(hi:i<14)(p:Bool):∀x∈Fe.kP i p,0<=x.2/\x.2<=400:=by
 have h:=List.all_eq_true.1 Zy i (List.mem_range.2 hi)
 have h2:=List.all_eq_true.1 h p (by cases p <;> simp)
 intro x hx
 simpa only [Bool.and_eq_true,decide_eq_true_eq]using List.all_eq_true.1 h2 x hx
theorem Ub{y:Int}{i i2:Nat}(hi:i<14)(hi2:i2<14)(p:Bool)(r:Nat):(sJ y i i2 p r).length<=60:=by
 match r with
 |0=>simpa [sJ]using Ip i hi p
 |1=>simpa [sJ]using Ip i2 hi2 p
 |n+2=>simp [sJ]
theorem Vq{y:Int}{i i2:Nat}(h:Yr.Is y i)(h2:Yr.Is (y+1) i2)(p:Bool)(r:Nat)(hr:r<2):∀x∈sJ y i i2 p r, -4611686018427387904<=x.2/\x.2<=4611686018427387904:=by
 have f1:=Yr.iY h
 have f2:=Yr.iY h2
 intro x hx
 rcases(show r=0∨r=1 by omega)with rfl|rfl
 ·obtain⟨z,hz,rfl⟩:=List.mem_map.1 hx
  have:=XQ h.2.2.1 p z hz
  simp only [Ev.sh]
  omega
 ·obtain⟨z,hz,rfl⟩:=List.mem_map.1 hx
  have:=XQ h2.2.2.1 p z hz
  simp only [Ev.sh]
  omega
theorem QC{y:Int}{p:Bool}{d:Int}(h:d∈Cv y p):∃j:Nat,j<Ey y p/\d=Sat.aC (rj y p+1)+7*(j:Int):=by
 unfold Cv sats at h
 obtain⟨j,hj,rfl⟩:=List.mem_map.1 h
 exact⟨j,List.mem_range.1 hj,rfl⟩
-- counted from the year's first day
def n0(i:Nat)(p:Bool):Nat:=((dz i+Yr.Iq i+rjO p-Sat.aC (dz i+rjO p+1)) / 7+1).toNat
def Fv(i:Nat)(p:Bool):List Int:=sats (dz i+rjO p+1) (n0 i p)
def T0(p:Bool):List Int:=(oQ (Fe.kP 0 p)).filter fun d=>decide (d<=22)
def Yb(i:Nat)(p:Bool):List Int:=oQ ((Fe.kP i p).map (Ev.sh (dz i)))++(T0 p).map (fun d=>dz i+Yr.Iq i+d)
def y5(i:Nat)(p:Bool):List Int:=iU (Yb i p) (Fv i p)
theorem abA:((List.range 14).all fun i=> [false,true].all fun p=>decide ((oQ (Fe.kP i p)).filter (fun d=>decide (d<=22))=T0 p))=true:=by decide+kernel
theorem aaY{i:Nat}(hi:i<14)(p:Bool):(oQ (Fe.kP i p)).filter (fun d=>decide (d<=22))=T0 p:=by
 have h:=List.all_eq_true.1 abA i (List.mem_range.2 hi)
 exact of_decide_eq_true (List.all_eq_true.1 h p (by cases p <;> simp))
theorem Y3(L:List (Int×Int))(c:Int):oQ (L.map (Ev.sh c))=(oQ L).map (fun d=>c+d):=by
 unfold oQ
 rw [List.filter_map,List.map_map,List.map_map]
 rfl
theorem yZ(x t:Int):Sat.aC (7*t+x)=7*t+Sat.aC x:=by unfold Sat.aC;omega
theorem Vm(x t:Int)(n:Nat):sats (7*t+x) n=(sats x n).map (fun d=>7*t+d):=by
 unfold sats
 rw [List.map_map,yZ]
 refine List.map_congr_left fun j _=> ?_
 simp only [Function.comp]
 omega
theorem VB(S l:List Int)(c:Int):iU (S.map fun d=>c+d) (l.map fun d=>c+d)=(iU S l).map fun d=>c+d:=by
 unfold iU
 rw [List.filter_map]
 congr 1
 refine List.filter_congr fun x _=> ?_
 simp only [Function.comp,List.mem_map]
 congr 1
 apply decide_eq_decide.2
 constructor
 ·rintro⟨a,ha,e⟩
  rwa [show a=x by omega]at ha
 ·exact fun h=>⟨x,h,rfl⟩
theorem Np{S S' l:List Int}(h:∀d∈l,d∈S↔d∈S'):iU S l=iU S' l:=by
 unfold iU
 refine List.filter_congr fun x hx=> ?_
 congr 1
 exact decide_eq_decide.2 (h x hx)
theorem YT{y:Int}{i i2:Nat}(p:Bool)(h:Yr.Is y i)(h2:Yr.Is (y+1) i2):free y i i2 p=(y5 i p).map fun d=>(Cal.first y-dz i)+d:=by
 have hm:=h.2.2.2.1
 have hn:=Yr.j6 h
 obtain⟨t,ht⟩:∃t,Cal.first y-dz i=7*t:=⟨(Cal.first y) / 7,vO⟩
 have hF:Cal.first y=7*t+dz i:=vO
 have e1:Cv y p=(Fv i p).map fun d=>7*t+d:=by
  unfold Cv Fv
  rw [show rj y p+1=7*t+(dz i+rjO p+1) by unfold rj;omega,Vm]
  congr 2
  unfold Ey n0
  rw [show rj y p+1=7*t+(dz i+rjO p+1) by unfold rj;omega,yZ]
  congr 2
  unfold rj
  omega
 have hle:∀d∈Cv y p,d<=Cal.first (y+1)+22:=by
  intro d hd
  obtain⟨j,hj,rfl⟩:=QC hd
  have k1:=(CF p h).1 j hj
  have k2:=OO p
  unfold rj at k1
  unfold rj
  omega
 unfold free
 rw [Np (S':=(Yb i p).map fun d=>7*t+d),e1,VB,ht]
 ·rfl
 ·intro d hd
  have hd22:=hle d hd
  simp only [Ar,sJ,List.nil_append,Yb,List.map_append,List.mem_append,Y3,List.map_map]
  have g1:((fun d=>Cal.first y+d):Int->Int)=(fun d=>7*t+d)∘fun d=>dz i+d:=by funext d;simp only [Function.comp];omega
  rw [g1]
  refine or_congr Iff.rfl ?_
  simp only [List.mem_map,Function.comp]
  constructor
  ·rintro⟨a,ha,rfl⟩
   refine⟨a, ?_,vO⟩
   rw [←aaY h2.2.2.1 p]
   exact List.mem_filter.2 ⟨ha,vQ⟩
  ·rintro⟨a,ha,rfl⟩
   rw [←aaY h2.2.2.1 p]at ha
   exact⟨a,(List.mem_filter.1 ha).1,vO⟩
theorem aat:((List.range 14).all fun i=> [false,true].all fun p=>decide ((if kS i then 49 else 46)<=((y5 i p).length:Int))&&decide (((y5 i p).length:Int)<=if kS i then 55 else 51))=true:=by decide+kernel
theorem D5{i:Nat}(hi:i<14)(p:Bool):(if kS i then 49 else 46)<=((y5 i p).length:Int)/\((y5 i p).length:Int)<=if kS i then 55 else 51:=by
 have h:=List.all_eq_true.1 aat i (List.mem_range.2 hi)
 simpa only [Bool.and_eq_true,decide_eq_true_eq]using List.all_eq_true.1 h p (by cases p <;> simp)
end Sb
theorem Yc(y:Int)(i i2:Nat)(p:Bool)(w:World)(h:Yr.Is y i)(h2:Yr.Is (y+1) i2)(hT:Tab w 6 kevCells)(hL:Tab w 4 lenCells)(hF:Tab w 7 Fe.cells):
  Calls Tryo.prog 161 #[y,.int .i64 (if p then 1 else 0)] w fun e w'=>∃v,e= .returned (.tuple #[v,(0:Int)])/\Il.Own w' w.1.size v (Sb.free y i i2 p)/\Below w.1.size w w':=by
 have a1:=h.1
 have a2:=h2.2.1
 obtain⟨n1,n2,n3,n4⟩:=Sb.CF p h
 have r1:=Sb.EK p h
 have r2:=Sb.EK p h2
 have q:=Sat.zu (Sb.rj y p+1)
 refine SF y _ (Sb.Cv y p) (Sb.Ey y p) (Sb.sJ y i i2 p) w a1 vO (Sb.Rt _ _) vO (Lib.hid (Sb.Ub h.2.2.1 h2.2.2.1 p)) hT hL hF (Lib.hid (Sb.Vq h h2 p)) (Lib.hid fun x hx=> ?_) (Lib.hid fun w hT hL hF=>Vj y i i2 p w h h2 hT hL hF) (Lib.hid fun r w hr hT hL hF=> ?_)
 ·obtain⟨j,hj,rfl⟩:=Sb.QC hx
  have:=n1 j hj
  omega
 ·rcases(show r=0∨r=1 by omega)with rfl|rfl
  ·have:=yV y i p w h hT hL hF
   simpa [Sb.sJ]using this
  ·exact yV (y+1) i2 p w h2 hT hL hF
end
end Go.Proofs.YtljbnicolhhicaaGreatDoor
