import Derived.Test.YtljbnicolhhicaaGreatDoorZRB
set_option linter.defProp false
set_option maxHeartbeats 8000000
set_option maxRecDepth 100000
set_option linter.unusedSimpArgs false
set_option linter.unusedVariables false
namespace Go.Proofs.YtljbnicolhhicaaGreatDoor
section
open Go.ChangeShapes Go.WideShapes Go.ChangeAt Go.RowKit Go.Lib Go.Sort Go.Shelf
namespace Rd
def sh(c:Int)(x:Rd):Rd:=(x.1,x.2.1,c+x.2.2)
theorem UM(J:List Int)(c:Int):∀ (ds:List Int) (n:Int) (S:List Rd),(ds.map fun d=>c+d).foldl (step J) (n,S.map (sh c))=((ds.foldl (step J) (n,S)).1,(ds.foldl (step J) (n,S)).2.map (sh c))
 | [],n,S=>rfl
 |d :: r,n,S=>by
  rw [List.map_cons,List.foldl_cons,List.foldl_cons]
  have e:step J (n,S.map (sh c)) (c+d)=(n+many J n,(S++ [(n,many J n,d)]).map (sh c)):=by simp [step,sh]
  rw [e,UM J c r]
  rfl
theorem abW(J:List Int)(n:Int)(ds:List Int)(c:Int):run J n (ds.map fun d=>c+d)=((run J n ds).1,(run J n ds).2.map (sh c)):=UM J c ds n []
theorem Qy(leap:Bool)(bh:Int)(L L':Nat->List Int)(c:Int)(h:∀q,L' q=(L q).map fun d=>c+d):∀q,ny leap bh L' q=((ny leap bh L q).1,(ny leap bh L q).2.map (sh c))
 |0=>rfl
 |q+1=>by
  simp only [ny,Qy leap bh L L' c h q,h q,List.length_map,abW,List.map_append]
theorem Sn(P:List Rd)(c:Int):∀ (ds:List Int) (k:Nat) (S:List Rd),(ds.map fun d=>c+d).foldl (wst (P.map (sh c))) (k,S.map (sh c))=((ds.foldl (wst P) (k,S)).1,(ds.foldl (wst P) (k,S)).2.map (sh c))
 | [],k,S=>rfl
 | d :: r,k,S=>by
  rw [List.map_cons,List.foldl_cons,List.foldl_cons]
  have e:wst (P.map (sh c)) (k,S.map (sh c)) (c+d)=((wst P (k,S) d).1,(wst P (k,S) d).2.map (sh c)):=by
   unfold wst
   simp only [List.getElem?_map]
   rcases P[k]? with _|r
   ·simp [sh]
   ·simp only [Option.map_some]
    by_cases h:r.2.2=d
    ·rw [if_pos h,if_pos (by simp [sh,h])]
     simp
    ·rw [if_neg h,if_neg (by simp only [sh];omega)]
     simp [sh]
  rw [e,Sn P c r]
theorem Yv(P:List Rd)(ds:List Int)(c:Int):uN (P.map (sh c)) (ds.map fun d=>c+d)=((uN P ds).1,(uN P ds).2.map (sh c)):=Sn P c ds 0 []
def Al(y d:Int):Nat:=(Sb.part d (D10.aM y 7 false 15) (D10.aM y 9 false 5) (D10.aM y 11 false 9) (D10.aM (y+1) 1 false 1)-1).toNat
def Co(i:Nat)(d:Int):Nat:=(Sb.part d (dz i+Yr.qY i 7 false 15) (dz i+Yr.qY i 9 false 5) (dz i+Yr.qY i 11 false 9) (dz i+Yr.Iq i)-1).toNat
theorem Va(d A B C E:Int):1<=Sb.part d A B C E/\Sb.part d A B C E<=5:=by unfold Sb.part;split <;> (try split) <;> (try split) <;> (try split) <;> omega
theorem ab3:((List.range 14).all fun i=>Yr.okV i 7 false 15&&(Yr.okV i 9 false 5&&(Yr.okV i 11 false 9&&(Yr.okV i 1 false 1&&decide (Yr.qY i 1 false 1=0)))))=true:=by decide+kernel
theorem aaP(i:Nat)(hi:i<14):Yr.okV i 7 false 15=true/\Yr.okV i 9 false 5=true/\Yr.okV i 11 false 9=true/\Yr.okV i 1 false 1=true/\Yr.qY i 1 false 1=0:=by
 have h:=List.all_eq_true.1 ab3 i (List.mem_range.2 hi)
 simpa only [Bool.and_eq_true,decide_eq_true_eq]using h
theorem V3{y:Int}{i i2:Nat}(h:Yr.Is y i)(h2:Yr.Is (y+1) i2):D10.aM y 7 false 15=Cal.first y+Yr.qY i 7 false 15/\D10.aM y 9 false 5=Cal.first y+Yr.qY i 9 false 5/\D10.aM y 11 false 9=Cal.first y+Yr.qY i 11 false 9/\D10.aM (y+1) 1 false 1=Cal.first y+Yr.Iq i:=by
 obtain⟨a1,a2,a3,_,_⟩:=aaP i h.2.2.1
 obtain⟨_,_,_,b4,b5⟩:=aaP i2 h2.2.2.1
 refine⟨(Yr.sK h a1).2,(Yr.sK h a2).2,(Yr.sK h a3).2, ?_⟩
 rw [(Yr.sK h2 b4).2,b5,Yr.j6 h]
 omega
theorem aas(d A B C E c:Int):Sb.part (c+d) (c+A) (c+B) (c+C) (c+E)=Sb.part d A B C E:=by
 unfold Sb.part
 simp only [Int.add_lt_add_iff_left,Int.add_le_add_iff_left]
theorem Xw{y:Int}{i i2:Nat}(h:Yr.Is y i)(h2:Yr.Is (y+1) i2)(d:Int):Al y ((Cal.first y-dz i)+d)=Co i d:=by
 obtain⟨e1,e2,e3,e4⟩:=V3 h h2
 unfold Al Co
 rw [e1,e2,e3,e4]
 have k:=aas d (dz i+Yr.qY i 7 false 15) (dz i+Yr.qY i 9 false 5) (dz i+Yr.qY i 11 false 9) (dz i+Yr.Iq i) (Cal.first y-dz i)
 rw [←k]
 congr 2
 congr 1 <;> omega
theorem abf{y:Int}{i i2:Nat}(h:Yr.Is y i)(h2:Yr.Is (y+1) i2)(l:List Int)(q:Nat):sel (Al y) (l.map fun d=>(Cal.first y-dz i)+d) q=(sel (Co i) l q).map fun d=>(Cal.first y-dz i)+d:=by
 unfold sel
 rw [List.filter_map]
 congr 1
 refine List.filter_congr fun d _=> ?_
 simp only [Function.comp,Xw h h2]
theorem QF{y:Int}{i i2:Nat}(p:Bool)(h:Yr.Is y i)(h2:Yr.Is (y+1) i2):Sb.Cv y p=(Sb.Fv i p).map fun d=>(Cal.first y-dz i)+d:=by
 have hm:=h.2.2.2.1
 have hn:=Yr.j6 h
 obtain⟨t,ht⟩:∃t,Cal.first y-dz i=7*t:=⟨(Cal.first y) / 7,vO⟩
 have hF:Cal.first y=7*t+dz i:=vO
 rw [ht]
 unfold Sb.Cv Sb.Fv
 rw [show Sb.rj y p+1=7*t+(dz i+Sb.rjO p+1) by unfold Sb.rj;omega,Sb.Vm]
 congr 2
 unfold Sb.Ey Sb.n0
 rw [show Sb.rj y p+1=7*t+(dz i+Sb.rjO p+1) by unfold Sb.rj;omega,Sb.yZ]
 congr 2
 unfold Sb.rj
 omega
def P0(i:Nat)(p:Bool):List Rd:=(ny (kS i) ((sel (Co i) (Sb.y5 i p) 4).length:Int) (sel (Co i) (Sb.y5 i p)) 5).2
def H7(i:Nat)(p:Bool):List Rd:=(uN (P0 i p) (Sb.Fv i p)).2
theorem ab9:((List.range 14).all fun i=> [false,true].all fun p=>(List.range 5).all fun q=>decide (0<(sel (Co i) (Sb.y5 i p) q).length))=true:=by decide+kernel
theorem ne_at(i:Nat)(hi:i<14)(p:Bool)(q:Nat)(hq:q<5):0<(sel (Co i) (Sb.y5 i p) q).length:=by
 have h:=List.all_eq_true.1 ab9 i (List.mem_range.2 hi)
 have h2:=List.all_eq_true.1 h p (by cases p <;> simp)
 exact of_decide_eq_true (List.all_eq_true.1 h2 q (List.mem_range.2 hq))
end Rd
theorem Q6(y:Int)(i i2:Nat)(p:Bool)(w:World)(h:Yr.Is y i)(h2:Yr.Is (y+1) i2)(hT:Tab w 6 kevCells)(hL:Tab w 4 lenCells)(hF:Tab w 7 Fe.cells):
  Calls Tryo.prog 133 #[y,.int .i64 (if p then 1 else 0)] w fun e w'=>∃v,e= .returned (.tuple #[v,(0:Int)])/\Rd.Own w' w.1.size v ((Rd.P0 i p).map (Rd.sh (Cal.first y-dz i)))/\Below w.1.size w w':=by
 have a1:=h.1
 have a2:=h2.2.1
 have hi:=h.2.2.1
 have hf:=Sb.YT p h h2
 have hcn:=Sb.D5 hi p
 have hsel:∀q,Rd.sel (Rd.Al y) (Sb.free y i i2 p) q=(Rd.sel (Rd.Co i) (Sb.y5 i p) q).map fun d=>(Cal.first y-dz i)+d:=fun q=>by rw [hf,Rd.abf h h2]
 have k:=Hy y (if p then 1 else 0) (kS i) (Sb.free y i i2 p) (Sb.free y i i2 p).length (Rd.Al y) w rfl (by rw [hf,List.length_map];split at hcn <;> omega) hT hL hF
  (Lib.hid fun d _=>by have:=Rd.Va d (D10.aM y 7 false 15) (D10.aM y 9 false 5) (D10.aM y 11 false 9) (D10.aM (y+1) 1 false 1);unfold Rd.Al;omega)
  (Lib.hid fun q hq=>by rw [hsel q,List.length_map];exact Rd.ne_at i hi p q hq)
  (Lib.hid fun w hT hL hF=>Yc y i i2 p w h h2 hT hL hF)
  (Lib.hid fun w=>by have:=aN y w vO vO;rwa [h.2.2.2.2.2]at this)
  (Lib.hid fun d _ w hT hL hF=>by
   have k:=XZ y d w a1 vO hT hL
   have e:((Rd.Al y d:Nat):Int)+1=Sb.part d (D10.aM y 7 false 15) (D10.aM y 9 false 5) (D10.aM y 11 false 9) (D10.aM (y+1) 1 false 1):=by
    have:=Rd.Va d (D10.aM y 7 false 15) (D10.aM y 9 false 5) (D10.aM y 11 false 9) (D10.aM (y+1) 1 false 1)
    unfold Rd.Al
    omega
   rwa [e])
 have e:(Rd.ny (kS i) ((Rd.sel (Rd.Al y) (Sb.free y i i2 p) 4).length:Int) (Rd.sel (Rd.Al y) (Sb.free y i i2 p)) 5).2=(Rd.P0 i p).map (Rd.sh (Cal.first y-dz i)):=by
  rw [hsel 4,List.length_map,Rd.Qy _ _ (Rd.sel (Rd.Co i) (Sb.y5 i p)) _ _ hsel]
  rfl
 rwa [e]at k
theorem Xv(y:Int)(i i2:Nat)(p:Bool)(w:World)(h:Yr.Is y i)(h2:Yr.Is (y+1) i2)(hT:Tab w 6 kevCells)(hL:Tab w 4 lenCells)(hF:Tab w 7 Fe.cells):
  Calls Tryo.prog 91 #[y,.int .i64 (if p then 1 else 0)] w fun e w'=>∃v,e= .returned (.tuple #[v,(0:Int)])/\Rd.Own w' w.1.size v ((Rd.H7 i p).map (Rd.sh (Cal.first y-dz i)))/\Below w.1.size w w':=by
 obtain⟨n1,n2,n3,n4⟩:=Sb.CF p h
 have k:=SC y (if p then 1 else 0) ((Rd.P0 i p).map (Rd.sh (Cal.first y-dz i))) (Sb.Cv y p) (Sb.Ey y p) w (Sb.Rt _ _) vO hT hL hF (Lib.hid fun w hT hL hF=>Vj y i i2 p w h h2 hT hL hF) (Lib.hid fun w hT hL hF=>Q6 y i i2 p w h h2 hT hL hF)
 rw [Rd.QF p h h2,Rd.Yv]at k
 exact k
end
section
open Go.ChangeShapes Go.WideShapes Go.ChangeAt Go.RowKit Go.Lib Go.Sort Go.Shelf
namespace Rd
def yJ(D:Int)(x:Rd):Bool:=x.2.2==D
theorem Es(f:Rd->Bool)(l:List Rd)(j:Nat)(x:Rd)(hx:l[j]? =some x)(h0:(l.take j).find? f=none)(h1:f x=false):(l.take (j+1)).find? f=none:=by
 rw [List.take_add_one,hx,List.find?_append,h0]
 simp [h1]
theorem Ik(f:Rd->Bool)(l:List Rd)(j:Nat)(x:Rd)(hx:l[j]? =some x)(h0:(l.take j).find? f=none)(h1:f x=true):l.find? f=some x:=by
 have hlt:j<l.length:=(List.getElem?_eq_some_iff.1 hx).1
 have e:=List.take_append_drop j l
 rw [←e,List.find?_append,h0,List.drop_eq_getElem_cons hlt]
 have e2:l[j]=x:=(List.getElem?_eq_some_iff.1 hx).2
 simp [e2,h1]
end Rd
theorem YI(D pl y r1 r2:Int)(L:List Rd)(n:Nat)(w:World)(hl:L.length=n)(hn:n<=100)(hD:I64 D)(h6:D % 7=6)(HX:Hid (L.find? (Rd.yJ D)=some (r1,r2,D)))(hT:Tab w 6 kevCells)(hL:Tab w 4 lenCells)(hF:Tab w 7 Fe.cells)
  (HC:Hid (∀w:World,Tab w 6 kevCells->Tab w 4 lenCells->Tab w 7 Fe.cells->vB 89 #[D,pl] w (.tuple #[y,(0:Int)])))
  (HY:Hid (∀w:World,Tab w 6 kevCells->Tab w 4 lenCells->Tab w 7 Fe.cells->Calls Tryo.prog 91 #[y,pl] w fun e w'=>∃v,e= .returned (.tuple #[v,(0:Int)])/\Rd.Own w' w.1.size v L/\Below w.1.size w w')):
  vB 46 #[D,pl] w (.tuple #[.agg #[r1,r2,D],(0:Int)]):=by
 have HWd:=Lib.hid (fun w=>jd D w hD)
 rw [h6]at HWd
 go_enter (vF Tryz.func46),Tryz.ntmps46
 go_wp2_with fail
 refine(HC.out _ (Tab.below hT bel) (Tab.below hL bel) (Tab.below hF bel)).mono ?_
 rintro e w1 ⟨rfl,hb1⟩
 have hB1:Below w.1.size w w1:=bel
 obtain⟨hc1,hf1⟩:=aL hb1
 have hz1:=hb1.size
 simp at hz1
 have g1:w1.cell? ⟨w.1.size,0,none⟩=some (.int .i64 0):=(hc1 _ _ vS).trans vG
 have g2:w1.cell? ⟨w.1.size,1,none⟩=some (.int .i64 0):=(hc1 _ _ vS).trans vG
 have g3:w1.cell? ⟨w.1.size,2,none⟩=some (.int .i64 0):=(hc1 _ _ vS).trans vG
 have g4:∀i,w1.frozen? ⟨w.1.size,i,none⟩=false:=fun i=>(hf1 _ _ vS).trans vG
 clear hc1 hf1
 go_wp2_with fail
 refine vW (HWd.out _) ?_
 go_wp2_with fail
 refine(HY.out _ (Tab.below hT bel) (Tab.below hL bel) (Tab.below hF bel)).mono ?_
 rintro e w2 ⟨v2,rfl,ho2,hb2⟩
 have hr:=ho2.row
 obtain⟨p2,c2,rfl⟩:=hr.len
 rw [hl]
 have HN:=Lib.hid hl
 have hB12:Below w1.1.size w1 w2:=bel
 have hB2:Below w.1.size w w2:=bt hB1 hB12
 have k1:=(hB12.cell (p:=⟨w.1.size,0,none⟩) (by show w.1.size<_;omega)).trans g1
 have k2:=(hB12.cell (p:=⟨w.1.size,1,none⟩) (by show w.1.size<_;omega)).trans g2
 have k3:=(hB12.cell (p:=⟨w.1.size,2,none⟩) (by show w.1.size<_;omega)).trans g3
 have k4:∀i,w2.frozen? ⟨w.1.size,i,none⟩=false:=fun i=>(hB12.frozen (p:=⟨w.1.size,i,none⟩) (by show w.1.size<_;omega)).trans (g4 i)
 have hz2:=hB12.size
 clear ho2 HY HC hl g1 g2 g3 g4
 have HK1:=Lib.hid k1
 have HK2:=Lib.hid k2
 have HK3:=Lib.hid k3
 have HK4:=Lib.hid k4
 clear k1 k2 k3 k4
 go_wp2_with fail
 go_loopw [37] (fun i wr=>∃j:Nat,j<=n/\i= .int .i64 (j:Int)/\Hid ((L.take j).find? (Rd.yJ D)=none)/\Below w2.1.size w2 wr) (fun i _=>n-(intOf i).toNat)
 case atStart=>exact⟨0,Nat.zero_le _,rfl,Lib.hid rfl,Below.refl _ _⟩
 case round=>
  obtain⟨j,hj,rfl,HG,hB⟩:=hrel
  obtain⟨w9,rfl⟩:∃x,x=wr:=⟨_,rfl⟩
  have hBw:Below w.1.size w w9:=bt hB2 hB
  have hs9:=hB.size
  by_cases hlt:j<n
  ·obtain⟨x,hx⟩:∃x,L[j]? =some x:=⟨_,List.getElem?_eq_getElem (by rw [HN.out];exact hlt)⟩
   obtain⟨x1,x2,x3⟩:=x
   obtain⟨b,off,cc,hp1,hc⟩:=(hr.below hB).kI (by rw [HN.out];omega)
   rw [HN.out]at hp1
   simp only [Value.slice.injEq]at hp1
   obtain⟨rfl,_,rfl⟩:=hp1
   obtain⟨cx1,cx2,cx3⟩:=Rd.yg hc j (x1,x2,x3) hx
   have lx:=World.block_lt_of_cell? _ _ cx1
   dsimp only at lx cx1 cx2 cx3
   have j0:(0:Int)<=(j:Int):=vO
   have j1:(j:Int)<(n:Int):=vO
   have k1:=(hB.cell (p:=⟨w.1.size,0,none⟩) (by show w.1.size<_;omega)).trans HK1.out
   have k2:=(hB.cell (p:=⟨w.1.size,1,none⟩) (by show w.1.size<_;omega)).trans HK2.out
   have k3:=(hB.cell (p:=⟨w.1.size,2,none⟩) (by show w.1.size<_;omega)).trans HK3.out
   have k4:∀i,w9.frozen? ⟨w.1.size,i,none⟩=false:=fun i=>(hB.frozen (p:=⟨w.1.size,i,none⟩) (by show w.1.size<_;omega)).trans (HK4.out i)
   have lg:w.1.size<w9.1.size:=vO
   by_cases c:x3=D
   ·have HH:=Lib.hid (Rd.Ik (Rd.yJ D) L j (x1,x2,x3) hx HG.out (by simp [Rd.yJ,c]))
    subst c
    have e1:x1=r1/\x2=r2:=by have h1:=HX.out;rw [HH.out]at h1;simpa using h1
    obtain⟨rfl,rfl⟩:=e1
    clear hc hx HG
    go_wp2_with fail
    refine bodyPost_ret (v:= .tuple #[.agg #[x1,x2,x3],(0:Int)]) (by simp [results,Tryz.results46,go_sem, *]) rfl ?_
    refine⟨rfl, ?_⟩
    exact bel
   ·have HH:=Lib.hid (Rd.Es (Rd.yJ D) L j (x1,x2,x3) hx HG.out (by simpa [Rd.yJ]using c))
    clear hc hx k1 k2 k3 k4
    have c3:decide (x3=D)=false:=decide_eq_false c
    go_wp2_with fail
    go_roundw
    case rel=>exact⟨j+1,vO,by go_num,HH,bel⟩
    case measure=>simp [intOf];omega
  ·exfalso
   have h1:=HG.out
   rw [List.take_of_length_le (by rw [HN.out];omega)]at h1
   rw [HX.out]at h1
   cases h1
theorem Rw(D pl y:Int)(w:World)(hD:I64 D)(r6:Int)(h6:D % 7=r6)(hr:r6≠6)(hT:Tab w 6 kevCells)(hL:Tab w 4 lenCells)(hF:Tab w 7 Fe.cells)
  (HC:Hid (∀w:World,Tab w 6 kevCells->Tab w 4 lenCells->Tab w 7 Fe.cells->vB 89 #[D,pl] w (.tuple #[y,(0:Int)]))):
  vB 46 #[D,pl] w (.tuple #[.agg #[(0:Int),(0:Int),(0:Int)],(4:Int)]):=by
 have HWd:=Lib.hid (fun w=>jd D w hD)
 rw [h6]at HWd
 have d6:decide (r6=6)=false:=decide_eq_false hr
 go_enter (vF Tryz.func46),Tryz.ntmps46
 go_wp2_with fail
 refine(HC.out _ (Tab.below hT bel) (Tab.below hL bel) (Tab.below hF bel)).mono ?_
 rintro e w1 ⟨rfl,hb1⟩
 have hB1:Below w.1.size w w1:=bel
 obtain⟨hc1,hf1⟩:=aL hb1
 have hz1:=hb1.size
 simp at hz1
 have g1:w1.cell? ⟨w.1.size,0,none⟩=some (.int .i64 0):=(hc1 _ _ vS).trans vG
 have g2:w1.cell? ⟨w.1.size,1,none⟩=some (.int .i64 0):=(hc1 _ _ vS).trans vG
 have g3:w1.cell? ⟨w.1.size,2,none⟩=some (.int .i64 0):=(hc1 _ _ vS).trans vG
 have g4:∀i,w1.frozen? ⟨w.1.size,i,none⟩=false:=fun i=>(hf1 _ _ vS).trans vG
 clear hc1 hf1
 go_wp2_with fail
 refine vW (HWd.out _) ?_
 go_wp2_with fail
 refine bodyPost_ret (v:= .tuple #[.agg #[(0:Int),(0:Int),(0:Int)],(4:Int)]) (by simp [results,Tryz.results46,go_sem, *]) rfl ?_
 refine⟨rfl, ?_⟩
 exact bel
theorem rd_Of(y:Int)(i i2:Nat)(p:Bool)(D r1 r2:Int)(w:World)(h:Yr.Is y i)(h2:Yr.Is (y+1) i2)(h3:Sb.rj y p<D)(h4:D<=Sb.rj (y+1) p)(h6:D % 7=6)(hX:((Rd.H7 i p).map (Rd.sh (Cal.first y-dz i))).find? (Rd.yJ D)=some (r1,r2,D))(hn:(Rd.H7 i p).length<=100)(hT:Tab w 6 kevCells)(hL:Tab w 4 lenCells)(hF:Tab w 7 Fe.cells):
  vB 46 #[D,.int .i64 (if p then 1 else 0)] w (.tuple #[.agg #[r1,r2,D],(0:Int)]):=by
 have b1:=Sb.EK p h
 have b2:=Sb.EK p h2
 exact YI D _ y r1 r2 _ _ w rfl (by rw [List.length_map];exact hn) ⟨vO,vO⟩ h6 (Lib.hid hX) hT hL hF (Lib.hid fun w hT hL hF=>Mk y i i2 p D w h h2 h3 h4 hT hL hF) (Lib.hid fun w hT hL hF=>Xv y i i2 p w h h2 hT hL hF)
theorem Yf(y:Int)(i i2:Nat)(p:Bool)(D:Int)(w:World)(h:Yr.Is y i)(h2:Yr.Is (y+1) i2)(h3:Sb.rj y p<D)(h4:D<=Sb.rj (y+1) p)(h6:D % 7≠6)(hT:Tab w 6 kevCells)(hL:Tab w 4 lenCells)(hF:Tab w 7 Fe.cells):
  vB 46 #[D,.int .i64 (if p then 1 else 0)] w (.tuple #[.agg #[(0:Int),(0:Int),(0:Int)],(4:Int)]):=by
 have b1:=Sb.EK p h
 have b2:=Sb.EK p h2
 exact Rw D _ y w ⟨vO,vO⟩ _ rfl h6 hT hL hF (Lib.hid fun w hT hL hF=>Mk y i i2 p D w h h2 h3 h4 hT hL hF)
end
section
open Go.ChangeShapes Go.WideShapes Go.ChangeAt Go.RowKit Go.Lib Go.Sort Go.Shelf
namespace Rd
def nmL:List ByteArray:= [⟨#[66,101,114,101,115,104,105,116]⟩,⟨#[78,111,97,99,104]⟩,⟨#[76,101,99,104,32,76,101,99,104,97]⟩,⟨#[86,97,121,101,114,97]⟩,⟨#[67,104,97,121,101,105,32,83,97,114,97,104]⟩,⟨#[84,111,108,100,111,116]⟩,⟨#[86,97,121,101,116,122,101,105]⟩,⟨#[86,97,121,105,115,104,108,97,99,104]⟩,⟨#[86,97,121,101,115,104,101,118]⟩,⟨#[77,105,107,101,116,122]⟩,⟨#[86,97,121,105,103,97,115,104]⟩,⟨#[86,97,121,101,99,104,105]⟩,⟨#[83,104,101,109,111,116]⟩,⟨#[86,97,101,114,97]⟩,⟨#[66,111]⟩,⟨#[66,101,115,104,97,108,97,99,104]⟩,⟨#[89,105,116,114,111]⟩,⟨#[77,105,115,104,112,97,116,105,109]⟩,⟨#[84,101,114,117,109,97,104]⟩,⟨#[84,101,116,122,97,118,101,104]⟩,⟨#[75,105,32,84,105,115,97]⟩,⟨#[86,97,121,97,107,104,101,108]⟩,⟨#[80,101,107,117,100,101,105]⟩,⟨#[86,97,121,105,107,114,97]⟩,⟨#[84,122,97,118]⟩,⟨#[83,104,101,109,105,110,105]⟩,⟨#[84,97,122,114,105,97]⟩,⟨#[77,101,116,122,111,114,97]⟩,⟨#[65,99,104,97,114,101,105,32,77,111,116]⟩,⟨#[75,101,100,111,115,104,105,109]⟩,⟨#[69,109,111,114]⟩,⟨#[66,101,104,97,114]⟩,⟨#[66,101,99,104,117,107,111,116,97,105]⟩,⟨#[66,97,109,105,100,98,97,114]⟩,⟨#[78,97,115,111]⟩,⟨#[66,101,104,97,97,108,111,116,99,104,97]⟩,⟨#[83,104,101,108,97,99,104]⟩,⟨#[75,111,114,97,99,104]⟩,⟨#[67,104,117,107,97,116]⟩,⟨#[66,97,108,97,107]⟩,⟨#[80,105,110,99,104,97,115]⟩,⟨#[77,97,116,111,116]⟩,⟨#[77,97,115,101,105]⟩,⟨#[68,101,118,97,114,105,109]⟩,⟨#[86,97,101,116,99,104,97,110,97,110]⟩,⟨#[69,107,101,118]⟩,⟨#[82,101,101,104]⟩,⟨#[83,104,111,102,116,105,109]⟩,⟨#[75,105,32,84,101,105,116,122,101,105]⟩,⟨#[75,105,32,84,97,118,111]⟩,⟨#[78,105,116,122,97,118,105,109]⟩,⟨#[86,97,121,101,108,101,99,104]⟩,⟨#[72,97,97,122,105,110,117]⟩,⟨#[86,101,122,111,116,32,72,97,98,101,114,97,99,104,97,104]⟩]
def nmCells:List Value:=nmL.map .string
def nm(n:Int):ByteArray:=nmL.getD (n-1).toNat ByteArray.empty
theorem ZB(n:Int)(h1:1<=n)(h2:n<=54):nmCells[(n-1).toNat]? =some (.string (nm n)):=by
 have hl:nmL.length=54:=rfl
 unfold nmCells nm
 rw [List.getElem?_map,List.getElem?_eq_getElem vO,List.getD_eq_getElem?_getD,List.getElem?_eq_getElem vO]
 rfl
end Rd
theorem Zc(n:Int)(w:World)(h1:1<=n)(h2:n<=54)(hN:Tab w 0 Rd.nmCells):
  vC 47 #[n] w (.string (Rd.nm n)):=by
 have cx:w.cell? ⟨0,n.toNat-1,none⟩=some (.string (Rd.nm n)):=by rw [show n.toNat-1=(n-1).toNat by omega];exact(hN.cell _).trans (Rd.ZB n h1 h2)
 have lx:=hN.lt
 have d1:decide (n<1)=false:=decide_eq_false vO
 have d2:decide (54<n)=false:=decide_eq_false vO
 have d3:¬ n<1:=vO
 have d4:¬ 54<n:=vO
 generalize Rd.nm n=s at*
 clear hN
 go_enter (vF Tryz.func47),Tryz.ntmps47
 go_wp2_with fail
 go_ret
 exact⟨rfl,rfl⟩
end
section
open Go.ChangeShapes Go.WideShapes Go.ChangeAt Go.RowKit Go.Lib Go.Sort Go.Shelf
theorem JG(y:Int)(w:World)(h2:y<1):
  vC 131 #[y] w (.bool false):=by
 have h1:¬ 1<=y:=vO
 have d1:decide (1<=y)=false:=decide_eq_false h1
 go_enter (vF Tryz.func131),Tryz.ntmps131
 go_wp2_with fail
 go_ret
 exact⟨rfl,rfl⟩
theorem Rd.M4:((List.range 14).all fun i=> [false,true].all fun p=>decide ((Rd.H7 i p).length<=100))=true:=by decide+kernel
theorem Rd.Ip{i:Nat}(hi:i<14)(p:Bool):(Rd.H7 i p).length<=100:=by
 have h:=List.all_eq_true.1 Rd.M4 i (List.mem_range.2 hi)
 exact of_decide_eq_true (List.all_eq_true.1 h p (by cases p <;> simp))
end
section
open Go.ChangeShapes Go.WideShapes Go.ChangeAt Go.RowKit Go.Lib Go.Sort Go.Shelf
theorem IY(pl:Int)(w:World)(h0:pl≠0)(h1:pl≠1):
  vC 129 #[pl] w (.bool false):=by
 have d0:(pl==0)=false:=by simpa using h0
 have d1:(pl==1)=false:=by simpa using h1
 have d2:decide (pl=0)=false:=decide_eq_false h0
 have d3:decide (pl=1)=false:=decide_eq_false h1
 go_enter (vF Tryz.func129),Tryz.ntmps129
 go_wp2_with fail
 go_ret
 exact⟨rfl,rfl⟩
theorem Lm(D pl:Int)(w:World)(h0:pl≠0)(h1:pl≠1):
  vC 89 #[D,pl] w (.tuple #[(0:Int),(1:Int)]):=by
 have HP:=Lib.hid (fun w=>IY pl w h0 h1)
 clear h0 h1
 go_enter (vF Tryz.func89),Tryz.ntmps89
 go_wp2_with fail
 refine vW (HP.out _) ?_
 go_wp2_with fail
 go_ret2
 exact⟨rfl,rfl⟩
end
section
open Go.ChangeShapes Go.WideShapes Go.ChangeAt Go.RowKit Go.Lib Go.Sort Go.Shelf
theorem TB(n:Int)(w:World)(h:n<1):
  vC 47 #[n] w (.string ⟨#[]⟩):=by
 have d1:decide (n<1)=true:=decide_eq_true h
 go_enter (vF Tryz.func47),Tryz.ntmps47
 go_wp2_with fail
 go_ret
 exact⟨rfl,rfl⟩
theorem Tv(n:Int)(w:World)(h:54<n):
  vC 47 #[n] w (.string ⟨#[]⟩):=by
 have d0:¬ n<1:=vO
 have d1:decide (n<1)=false:=decide_eq_false d0
 have d2:decide (54<n)=true:=decide_eq_true h
 go_enter (vF Tryz.func47),Tryz.ntmps47
 go_wp2_with fail
 go_ret
 exact⟨rfl,rfl⟩
theorem VP(D pl:Int)(w:World)(h0:pl≠0)(h1:pl≠1):
  vB 46 #[D,pl] w (.tuple #[.agg #[(0:Int),(0:Int),(0:Int)],(1:Int)]):=by
 have HC:=Lib.hid (fun w=>Lm D pl w h0 h1)
 clear h0 h1
 go_enter (vF Tryz.func46),Tryz.ntmps46
 go_wp2_with fail
 refine vW (HC.out _) ?_
 go_wp2_with fail
 refine bodyPost_ret (v:= .tuple #[.agg #[(0:Int),(0:Int),(0:Int)],(1:Int)]) (by simp [results,Tryz.results46,go_sem, *]) rfl ?_
 refine⟨rfl, ?_⟩
 exact bel
end
section
open Go.ChangeShapes Go.WideShapes Go.ChangeAt Go.RowKit Go.Lib Go.Sort Go.Shelf
theorem Nj(D pl yd n d er:Int)(lf:Bool)(w:World)(her:er≠0)(hT:Tab w 6 kevCells)(hL:Tab w 4 lenCells)(hF:Tab w 7 Fe.cells)(HP:Hid (∀w:World,vC 129 #[pl] w (.bool true)))(HF:Hid (∀w:World,Tab w 6 kevCells->Tab w 4 lenCells->vB 31 #[D] w (.tuple #[.agg #[yd,n,lf,d],er]))):
  vB 89 #[D,pl] w (.tuple #[(0:Int),er]):=by
 have d0:decide (er=0)=false:=decide_eq_false her
 go_enter (vF Tryz.func89),Tryz.ntmps89
 go_wp2_with fail
 refine vW (HP.out _) ?_
 go_wp2_with fail
 refine(HF.out _ (Tab.below hT bel) (Tab.below hL bel)).mono ?_
 rintro e w1 ⟨rfl,hb1⟩
 go_wp2_with fail
 go_ret2
 refine⟨rfl, ?_⟩
 exact bel
theorem qZ:(∀(D pl yd n d S c:Int)(lf:Bool)(w:World)(y1:1<=yd)(y2:yd<=9999)(hc:c=yd-1)(hs:D<=S)(hT:Tab w 6 kevCells)(hL:Tab w 4 lenCells)(hF:Tab w 7 Fe.cells)(HP:Hid (∀w:World,vC 129 #[pl] w (.bool true)))(HF:Hid (∀w:World,Tab w 6 kevCells->Tab w 4 lenCells->vB 31 #[D] w (.tuple #[.agg #[yd,n,lf,d],(0:Int)])))(HR:Hid (∀w:World,Tab w 6 kevCells->Tab w 4 lenCells->Tab w 7 Fe.cells->vB 130 #[yd,pl] w (.int .i64 S)))(HC:Hid (∀w:World,vC 131 #[c] w (.bool false))),vB 89 #[D,pl] w (.tuple #[(0:Int),(2:Int)]))/\(∀(D pl yd n d S c:Int)(lf:Bool)(w:World)(y1:1<=yd)(y2:yd<=9999)(hc:c=yd)(hs:¬ D<=S)(hT:Tab w 6 kevCells)(hL:Tab w 4 lenCells)(hF:Tab w 7 Fe.cells)(HP:Hid (∀w:World,vC 129 #[pl] w (.bool true)))(HF:Hid (∀w:World,Tab w 6 kevCells->Tab w 4 lenCells->vB 31 #[D] w (.tuple #[.agg #[yd,n,lf,d],(0:Int)])))(HR:Hid (∀w:World,Tab w 6 kevCells->Tab w 4 lenCells->Tab w 7 Fe.cells->vB 130 #[yd,pl] w (.int .i64 S)))(HC:Hid (∀w:World,vC 131 #[c] w (.bool false))),vB 89 #[D,pl] w (.tuple #[(0:Int),(2:Int)])):=by
 refine⟨@fun D pl yd n d S c lf w y1 y2 hc hs hT hL hF HP HF HR HC=>(fun(k90:Nat)=> ?_) 0,@fun D pl yd n d S c lf w y1 y2 hc hs hT hL hF HP HF HR HC=> ?_⟩
 all_goals(
 first|(have _:=k90;have e1:decide (D<=S)=true:=decide_eq_true hs)|(have e1:decide (D<=S)=false:=decide_eq_false hs)
 subst c
 go_enter (vF Tryz.func89),Tryz.ntmps89
 go_wp2_with fail
 refine vW (HP.out _) ?_
 go_wp2_with fail
 refine(HF.out _ (Tab.below hT bel) (Tab.below hL bel)).mono ?_
 rintro e w1 ⟨rfl,hb1⟩
 go_wp2_with fail
 refine vX (HR.out _ (Tab.below hT bel) (Tab.below hL bel) (Tab.below hF bel)) fun w2 hb2 hz2 hc2 hf2=>?_
 try simp at hz2
 have hl2w1:w1.1.size<w2.1.size:=vO
 have hm2w1:w1.1.size<=w2.1.size:=vO
 have g2x0:w2.cell? ⟨w1.1.size,0,none⟩=some (yd:vV):=cel hc2
 go_wp2_with fail
 refine vW (HC.out _) ?_
 go_wp2_with fail
 go_ret2
 refine⟨rfl, ?_⟩
 exact bel
 )
def Jt:=qZ.1
def Jh:=qZ.2
end
section
open Go.ChangeShapes Go.WideShapes Go.ChangeAt Go.RowKit Go.Lib Go.Sort Go.Shelf
theorem WV(D pl y er:Int)(w:World)(her:er≠0)(hT:Tab w 6 kevCells)(hL:Tab w 4 lenCells)(hF:Tab w 7 Fe.cells)
  (HC:Hid (∀w:World,Tab w 6 kevCells->Tab w 4 lenCells->Tab w 7 Fe.cells->vB 89 #[D,pl] w (.tuple #[y,er]))):
  vB 46 #[D,pl] w (.tuple #[.agg #[(0:Int),(0:Int),(0:Int)],er]):=by
 have d0:decide (er=0)=false:=decide_eq_false her
 go_enter (vF Tryz.func46),Tryz.ntmps46
 go_wp2_with fail
 refine(HC.out _ (Tab.below hT bel) (Tab.below hL bel) (Tab.below hF bel)).mono ?_
 rintro e w1 ⟨rfl,hb1⟩
 have hB1:Below w.1.size w w1:=bel
 obtain⟨hc1,hf1⟩:=aL hb1
 have hz1:=hb1.size
 simp at hz1
 have g1:w1.cell? ⟨w.1.size,0,none⟩=some (.int .i64 0):=(hc1 _ _ vS).trans vG
 have g2:w1.cell? ⟨w.1.size,1,none⟩=some (.int .i64 0):=(hc1 _ _ vS).trans vG
 have g3:w1.cell? ⟨w.1.size,2,none⟩=some (.int .i64 0):=(hc1 _ _ vS).trans vG
 have g4:∀i,w1.frozen? ⟨w.1.size,i,none⟩=false:=fun i=>(hf1 _ _ vS).trans vG
 clear hc1 hf1
 go_wp2_with fail
 refine bodyPost_ret (v:= .tuple #[.agg #[(0:Int),(0:Int),(0:Int)],er]) (by simp [results,Tryz.results46,go_sem, *]) rfl ?_
 refine⟨rfl, ?_⟩
 exact bel
theorem yL(y:Int)(w:World)(h:y<1∨9998<y):
  vC 131 #[y] w (.bool false):=by
 rcases h with h|h
 ·exact JG y w h
 ·exact I5 y w h
def Rd.In(D:Int)(p:Bool)(y:Int):Prop:=∃i i2,Yr.Is y i/\Yr.Is (y+1) i2/\Sb.rj y p<D/\D<=Sb.rj (y+1) p
theorem Rd.caseP(D:Int)(p:Bool):(∃y,Rd.In D p y)∨Hid (∀w:World,Tab w 6 kevCells->Tab w 4 lenCells->Tab w 7 Fe.cells->vB 89 #[D,.int .i64 (if p then 1 else 0)] w (.tuple #[(0:Int),(2:Int)])):=by
 have HPs:=Lib.hid (fun w=>yY p w)
 by_cases hr:D< -1373427∨2278650<D
 ·exact .inr (Lib.hid fun w hT hL hF=>Nj D _ 0 0 0 2 false w vD hT hL hF HPs (Lib.hid fun w hT hL=>kR D w hr))
 ·obtain⟨yd,m,d,hv,rfl⟩:=D10.qQ D vO vO
  obtain⟨g1,g2⟩:=D10.Ep hv
  have v1:=hv.1
  have v2:=hv.2.1
  have HFs:=Lib.hid (fun w hT hL=>iE yd m d w hT hL hv)
  obtain⟨i,hi⟩:=Yr.Ac yd v1 v2
  have HRs:=Lib.hid (fun w hT hL hF=>mR yd i p w hi hT hL hF)
  have o:=Sb.OO p
  generalize D10.bA yd m d=D at*
  by_cases hs:D<=Sb.rj yd p
  ·by_cases hc:1<=yd-1
   ·left
    obtain⟨i0,h0⟩:=Yr.Ac (yd-1) hc vO
    have hn:=Yr.j6 h0
    have hb:=Sb.Gz i0 h0.2.2.1
    rw [show yd-1+1=yd by omega]at hn
    refine⟨yd-1,i0,i,h0,by rw [show yd-1+1=yd by omega];exact hi, ?_,by rw [show yd-1+1=yd by omega];exact hs⟩
    unfold Sb.rj
    omega
   ·exact .inr (Lib.hid fun w hT hL hF=>Jt D _ yd _ d _ (yd-1) _ w v1 v2 rfl hs hT hL hF HPs HFs HRs (Lib.hid fun w=>yL (yd-1) w vO))
  ·by_cases hc:yd<=9998
   ·left
    obtain⟨i2,h2⟩:=Yr.Ac (yd+1) vO vO
    refine⟨yd,i,i2,hi,h2,vO, ?_⟩
    unfold Sb.rj
    omega
   ·exact .inr (Lib.hid fun w hT hL hF=>Jh D _ yd _ d _ yd _ w v1 v2 rfl hs hT hL hF HPs HFs HRs (Lib.hid fun w=>yL yd w vO))
namespace Rd
theorem aaC:((List.range 14).all fun i=> [false,true].all fun p=>decide ((H7 i p).map (fun x=>x.2.2)=Sb.Fv i p))=true:=by decide+kernel
theorem abJ{i:Nat}(hi:i<14)(p:Bool):(H7 i p).map (fun x=>x.2.2)=Sb.Fv i p:=by
 have h:=List.all_eq_true.1 aaC i (List.mem_range.2 hi)
 exact of_decide_eq_true (List.all_eq_true.1 h p (by cases p <;> simp))
theorem there{y:Int}{i i2:Nat}(p:Bool)(D:Int)(h:Yr.Is y i)(h2:Yr.Is (y+1) i2)(h3:Sb.rj y p<D)(h4:D<=Sb.rj (y+1) p)(h6:D % 7=6):
  ∃r1 r2,((H7 i p).map (sh (Cal.first y-dz i))).find? (yJ D)=some (r1,r2,D):=by
 obtain⟨n1,n2,n3,n4⟩:=Sb.CF p h
 have hs:=QF p h h2
 have hd:=abJ h.2.2.1 p
 have hmem:D∈Sb.Cv y p:=by
  unfold Sb.Cv sats
  rw [List.mem_map]
  have e0:Sat.aC (Sb.rj y p+1)=Sb.rj y p+1+(6-(Sb.rj y p+1)) % 7:=rfl
  refine⟨((D-Sat.aC (Sb.rj y p+1)) / 7).toNat,List.mem_range.2 ?_, ?_⟩
  ·omega
  ·show Sat.aC (Sb.rj y p+1)+7*(((D-Sat.aC (Sb.rj y p+1)) / 7).toNat:Int)=D
   omega
 rw [hs,←hd,List.map_map,List.mem_map]at hmem
 obtain⟨x,hx,rfl⟩:=hmem
 have hany:(((H7 i p).map (sh (Cal.first y-dz i))).find? (yJ ((fun d=>Cal.first y-dz i+d) x.2.2))).isSome=true:=by
  rw [List.find?_isSome]
  exact⟨sh (Cal.first y-dz i) x,List.mem_map.2 ⟨x,hx,rfl⟩,by simp [yJ,sh]⟩
 obtain⟨⟨r1,r2,r3⟩,hr⟩:=Option.isSome_iff_exists.1 hany
 have h5:=List.find?_some hr
 have h7:r3=Cal.first y-dz i+x.2.2:=by simpa [yJ]using h5
 subst h7
 exact⟨r1,r2,hr⟩
end Rd
end
end Go.Proofs.YtljbnicolhhicaaGreatDoor
