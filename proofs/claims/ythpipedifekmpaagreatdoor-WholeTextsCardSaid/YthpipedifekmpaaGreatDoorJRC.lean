import Derived.Test.YthpipedifekmpaaGreatDoorJRB
import Derived.Test.YthpipedifekmpaaGreatDoorJSW
set_option maxHeartbeats 8000000
set_option maxRecDepth 100000
set_option linter.unusedSimpArgs false
set_option linter.unusedVariables false
section
namespace Go.Proofs.YthpipedifekmpaaGreatDoor
open Go.ChangeShapes Go.WideShapes Go.ChangeAt Go.RowKit Go.Lib Go.Sort Go.Shelf
namespace Rd
def sh(c:Int)(x:Rd):Rd:=(x.1,x.2.1,c+x.2.2)
theorem fold_sh(J:List Int)(c:Int):∀ (ds:List Int) (n:Int) (S:List Rd),(ds.map fun d=>c+d).foldl (step J) (n,S.map (sh c))=((ds.foldl (step J) (n,S)).1,(ds.foldl (step J) (n,S)).2.map (sh c))
 | [],n,S=>rfl
 |d :: r,n,S=>by
  rw [List.map_cons,List.foldl_cons,List.foldl_cons]
  have e:step J (n,S.map (sh c)) (c+d)=(n+many J n,(S++ [(n,many J n,d)]).map (sh c)):=by simp [step,sh]
  rw [e,fold_sh J c r]
  rfl
theorem run_sh(J:List Int)(n:Int)(ds:List Int)(c:Int):run J n (ds.map fun d=>c+d)=((run J n ds).1,(run J n ds).2.map (sh c)):=fold_sh J c ds n []
theorem portS_sh(leap:Bool)(bh:Int)(L L':Nat->List Int)(c:Int)(h:∀q,L' q=(L q).map fun d=>c+d):∀q,portS leap bh L' q=((portS leap bh L q).1,(portS leap bh L q).2.map (sh c))
 |0=>rfl
 |q+1=>by
  simp only [portS,portS_sh leap bh L L' c h q,h q,List.length_map,run_sh,List.map_append]
theorem wfold_sh(P:List Rd)(c:Int):∀ (ds:List Int) (k:Nat) (S:List Rd),(ds.map fun d=>c+d).foldl (wst (P.map (sh c))) (k,S.map (sh c))=((ds.foldl (wst P) (k,S)).1,(ds.foldl (wst P) (k,S)).2.map (sh c))
 | [],k,S=>rfl
 | d :: r,k,S=>by
  rw [List.map_cons,List.foldl_cons,List.foldl_cons]
  have e:wst (P.map (sh c)) (k,S.map (sh c)) (c+d)=((wst P (k,S) d).1,(wst P (k,S) d).2.map (sh c)):=by
   unfold wst
   simp only [List.getElem?_map]
   rcases P[k]? with _|r
   ·simp [sh]
   ·simp only [Option.map_some]
    by_cases h:r.2.2=d
    ·rw [if_pos h,if_pos (by simp [sh,h])]
     simp
    ·rw [if_neg h,if_neg (by simp only [sh];omega)]
     simp [sh]
  rw [e,wfold_sh P c r]
theorem weave_sh(P:List Rd)(ds:List Int)(c:Int):weave (P.map (sh c)) (ds.map fun d=>c+d)=((weave P ds).1,(weave P ds).2.map (sh c)):=wfold_sh P c ds 0 []
def partY(y d:Int):Nat:=(Sb.part d (D10.dayV y 7 false 15) (D10.dayV y 9 false 5) (D10.dayV y 11 false 9) (D10.dayV (y+1) 1 false 1)-1).toNat
def part0(i:Nat)(d:Int):Nat:=(Sb.part d (kevB i+Yr.offV i 7 false 15) (kevB i+Yr.offV i 9 false 5) (kevB i+Yr.offV i 11 false 9) (kevB i+Yr.lenV i)-1).toNat
theorem part_in(d A B C E:Int):1<=Sb.part d A B C E/\Sb.part d A B C E<=5:=by unfold Sb.part;split <;> (try split) <;> (try split) <;> (try split) <;> omega
theorem ok_all:((List.range 14).all fun i=>Yr.okV i 7 false 15&&(Yr.okV i 9 false 5&&(Yr.okV i 11 false 9&&(Yr.okV i 1 false 1&&decide (Yr.offV i 1 false 1=0)))))=true:=by decide+kernel
theorem ok_at(i:Nat)(hi:i<14):Yr.okV i 7 false 15=true/\Yr.okV i 9 false 5=true/\Yr.okV i 11 false 9=true/\Yr.okV i 1 false 1=true/\Yr.offV i 1 false 1=0:=by
 have h:=List.all_eq_true.1 ok_all i (List.mem_range.2 hi)
 simpa only [Bool.and_eq_true,decide_eq_true_eq]using h
theorem part_days{y:Int}{i i2:Nat}(h:Yr.Is y i)(h2:Yr.Is (y+1) i2):D10.dayV y 7 false 15=Cal.first y+Yr.offV i 7 false 15/\D10.dayV y 9 false 5=Cal.first y+Yr.offV i 9 false 5/\D10.dayV y 11 false 9=Cal.first y+Yr.offV i 11 false 9/\D10.dayV (y+1) 1 false 1=Cal.first y+Yr.lenV i:=by
 obtain⟨a1,a2,a3,_,_⟩:=ok_at i h.2.2.1
 obtain⟨_,_,_,b4,b5⟩:=ok_at i2 h2.2.2.1
 refine⟨(Yr.day_off h a1).2,(Yr.day_off h a2).2,(Yr.day_off h a3).2, ?_⟩
 rw [(Yr.day_off h2 b4).2,b5,Yr.next_first h]
 omega
theorem part_sh(d A B C E c:Int):Sb.part (c+d) (c+A) (c+B) (c+C) (c+E)=Sb.part d A B C E:=by
 unfold Sb.part
 simp only [Int.add_lt_add_iff_left,Int.add_le_add_iff_left]
theorem partY_sh{y:Int}{i i2:Nat}(h:Yr.Is y i)(h2:Yr.Is (y+1) i2)(d:Int):partY y ((Cal.first y-kevB i)+d)=part0 i d:=by
 obtain⟨e1,e2,e3,e4⟩:=part_days h h2
 unfold partY part0
 rw [e1,e2,e3,e4]
 have k:=part_sh d (kevB i+Yr.offV i 7 false 15) (kevB i+Yr.offV i 9 false 5) (kevB i+Yr.offV i 11 false 9) (kevB i+Yr.lenV i) (Cal.first y-kevB i)
 rw [←k]
 congr 2
 congr 1 <;> omega
theorem sel_sh{y:Int}{i i2:Nat}(h:Yr.Is y i)(h2:Yr.Is (y+1) i2)(l:List Int)(q:Nat):sel (partY y) (l.map fun d=>(Cal.first y-kevB i)+d) q=(sel (part0 i) l q).map fun d=>(Cal.first y-kevB i)+d:=by
 unfold sel
 rw [List.filter_map]
 congr 1
 refine List.filter_congr fun d _=> ?_
 simp only [Function.comp,partY_sh h h2]
theorem sabs_off{y:Int}{i i2:Nat}(p:Bool)(h:Yr.Is y i)(h2:Yr.Is (y+1) i2):Sb.sabs y p=(Sb.sabs0 i p).map fun d=>(Cal.first y-kevB i)+d:=by
 have hm:=h.2.2.2.1
 have hn:=Yr.next_first h
 obtain⟨t,ht⟩:∃t,Cal.first y-kevB i=7*t:=⟨(Cal.first y) / 7,by omega⟩
 have hF:Cal.first y=7*t+kevB i:=by omega
 rw [ht]
 unfold Sb.sabs Sb.sabs0
 rw [show Sb.rj y p+1=7*t+(kevB i+Sb.rjO p+1) by unfold Sb.rj;omega,Sb.sats_sh]
 congr 2
 unfold Sb.nSat Sb.n0
 rw [show Sb.rj y p+1=7*t+(kevB i+Sb.rjO p+1) by unfold Sb.rj;omega,Sb.firstSat_sh]
 congr 2
 unfold Sb.rj
 omega
def P0(i:Nat)(p:Bool):List Rd:=(portS (kevL i) ((sel (part0 i) (Sb.free0 i p) 4).length:Int) (sel (part0 i) (Sb.free0 i p)) 5).2
def cyc0(i:Nat)(p:Bool):List Rd:=(weave (P0 i p) (Sb.sabs0 i p)).2
theorem ne_all:((List.range 14).all fun i=> [false,true].all fun p=>(List.range 5).all fun q=>decide (0<(sel (part0 i) (Sb.free0 i p) q).length))=true:=by decide+kernel
theorem ne_at(i:Nat)(hi:i<14)(p:Bool)(q:Nat)(hq:q<5):0<(sel (part0 i) (Sb.free0 i p) q).length:=by
 have h:=List.all_eq_true.1 ne_all i (List.mem_range.2 hi)
 have h2:=List.all_eq_true.1 h p (by cases p <;> simp)
 exact of_decide_eq_true (List.all_eq_true.1 h2 q (List.mem_range.2 hq))
end Rd
theorem rd_portions(y:Int)(i i2:Nat)(p:Bool)(w:World)(h:Yr.Is y i)(h2:Yr.Is (y+1) i2)(hT:Tab w 5 kevCells)(hL:Tab w 4 lenCells)(hF:Tab w 6 Fe.cells):
  Calls Tryo.prog 62 #[.int .i64 y,.int .i64 (if p then 1 else 0)] w fun e w'=>∃v,e= .returned (.tuple #[v,.int .i64 0])/\Rd.Own w' w.heap.size v ((Rd.P0 i p).map (Rd.sh (Cal.first y-kevB i)))/\Below w.heap.size w w':=by
 have a1:=h.1
 have a2:=h2.2.1
 have hi:=h.2.2.1
 have hf:=Sb.free_off p h h2
 have hcn:=Sb.cnt_bd hi p
 have hsel:∀q,Rd.sel (Rd.partY y) (Sb.free y i i2 p) q=(Rd.sel (Rd.part0 i) (Sb.free0 i p) q).map fun d=>(Cal.first y-kevB i)+d:=fun q=>by rw [hf,Rd.sel_sh h h2]
 have k:=rd_portions_go y (if p then 1 else 0) (kevL i) (Sb.free y i i2 p) (Sb.free y i i2 p).length (Rd.partY y) w rfl (by rw [hf,List.length_map];split at hcn <;> omega) hT hL hF
  (Lib.hid fun d _=>by have:=Rd.part_in d (D10.dayV y 7 false 15) (D10.dayV y 9 false 5) (D10.dayV y 11 false 9) (D10.dayV (y+1) 1 false 1);unfold Rd.partY;omega)
  (Lib.hid fun q hq=>by rw [hsel q,List.length_map];exact Rd.ne_at i hi p q hq)
  (Lib.hid fun w hT hL hF=>sab_Free y i i2 p w h h2 hT hL hF)
  (Lib.hid fun w=>by have:=cycle_Leap_ok y w (by omega) (by omega);rwa [h.2.2.2.2.2]at this)
  (Lib.hid fun d _ w hT hL hF=>by
   have k:=sab_Part y d w a1 (by omega) hT hL
   have e:((Rd.partY y d:Nat):Int)+1=Sb.part d (D10.dayV y 7 false 15) (D10.dayV y 9 false 5) (D10.dayV y 11 false 9) (D10.dayV (y+1) 1 false 1):=by
    have:=Rd.part_in d (D10.dayV y 7 false 15) (D10.dayV y 9 false 5) (D10.dayV y 11 false 9) (D10.dayV (y+1) 1 false 1)
    unfold Rd.partY
    omega
   rwa [e])
 have e:(Rd.portS (kevL i) ((Rd.sel (Rd.partY y) (Sb.free y i i2 p) 4).length:Int) (Rd.sel (Rd.partY y) (Sb.free y i i2 p)) 5).2=(Rd.P0 i p).map (Rd.sh (Cal.first y-kevB i)):=by
  rw [hsel 4,List.length_map,Rd.portS_sh _ _ (Rd.sel (Rd.part0 i) (Sb.free0 i p)) _ _ hsel]
  rfl
 rwa [e]at k
theorem rd_Cycle(y:Int)(i i2:Nat)(p:Bool)(w:World)(h:Yr.Is y i)(h2:Yr.Is (y+1) i2)(hT:Tab w 5 kevCells)(hL:Tab w 4 lenCells)(hF:Tab w 6 Fe.cells):
  Calls Tryo.prog 34 #[.int .i64 y,.int .i64 (if p then 1 else 0)] w fun e w'=>∃v,e= .returned (.tuple #[v,.int .i64 0])/\Rd.Own w' w.heap.size v ((Rd.cyc0 i p).map (Rd.sh (Cal.first y-kevB i)))/\Below w.heap.size w w':=by
 obtain⟨n1,n2,n3,n4⟩:=Sb.nSat_ok p h
 have k:=rd_Cycle_go y (if p then 1 else 0) ((Rd.P0 i p).map (Rd.sh (Cal.first y-kevB i))) (Sb.sabs y p) (Sb.nSat y p) w (Sb.sabs_len _ _) (by omega) hT hL hF (Lib.hid fun w hT hL hF=>sab_All y i i2 p w h h2 hT hL hF) (Lib.hid fun w hT hL hF=>rd_portions y i i2 p w h h2 hT hL hF)
 rw [Rd.sabs_off p h h2,Rd.weave_sh]at k
 exact k
end Go.Proofs.YthpipedifekmpaaGreatDoor
end
section
namespace Go.Proofs.YthpipedifekmpaaGreatDoor
open Go.ChangeShapes Go.WideShapes Go.ChangeAt Go.RowKit Go.Lib Go.Sort Go.Shelf
namespace Rd
def onDay(D:Int)(x:Rd):Bool:=x.2.2==D
theorem find_next(f:Rd->Bool)(l:List Rd)(j:Nat)(x:Rd)(hx:l[j]? =some x)(h0:(l.take j).find? f=none)(h1:f x=false):(l.take (j+1)).find? f=none:=by
 rw [List.take_add_one,hx,List.find?_append,h0]
 simp [h1]
theorem find_hit(f:Rd->Bool)(l:List Rd)(j:Nat)(x:Rd)(hx:l[j]? =some x)(h0:(l.take j).find? f=none)(h1:f x=true):l.find? f=some x:=by
 have hlt:j<l.length:=(List.getElem?_eq_some_iff.1 hx).1
 have e:=List.take_append_drop j l
 rw [←e,List.find?_append,h0,List.drop_eq_getElem_cons hlt]
 have e2:l[j]=x:=(List.getElem?_eq_some_iff.1 hx).2
 simp [e2,h1]
end Rd
theorem rd_Of_go(D pl y r1 r2:Int)(L:List Rd)(n:Nat)(w:World)(hl:L.length=n)(hn:n<=100)(hD:I64 D)(h6:D % 7=6)(HX:Hid (L.find? (Rd.onDay D)=some (r1,r2,D)))(hT:Tab w 5 kevCells)(hL:Tab w 4 lenCells)(hF:Tab w 6 Fe.cells)
  (HC:Hid (∀w:World,Tab w 5 kevCells->Tab w 4 lenCells->Tab w 6 Fe.cells->Calls Tryo.prog 32 #[.int .i64 D,.int .i64 pl] w fun e w'=>e= .returned (.tuple #[.int .i64 y,.int .i64 0])/\Below w.heap.size w w'))
  (HY:Hid (∀w:World,Tab w 5 kevCells->Tab w 4 lenCells->Tab w 6 Fe.cells->Calls Tryo.prog 34 #[.int .i64 y,.int .i64 pl] w fun e w'=>∃v,e= .returned (.tuple #[v,.int .i64 0])/\Rd.Own w' w.heap.size v L/\Below w.heap.size w w')):
  Calls Tryo.prog 12 #[.int .i64 D,.int .i64 pl] w fun e w'=>e= .returned (.tuple #[.agg #[.int .i64 r1,.int .i64 r2,.int .i64 D],.int .i64 0])/\Below w.heap.size w w':=by
 have HWd:=Lib.hid (fun w=>molad_Weekday D w hD)
 rw [h6]at HWd
 go_enter Tryo.func12,Tryz.ntmps12
 go_wp2_with fail
 refine(HC.out _ (Tab.below hT bel) (Tab.below hL bel) (Tab.below hF bel)).mono ?_
 rintro e w1 ⟨rfl,hb1⟩
 have hB1:Below w.heap.size w w1:=bel
 obtain⟨hc1,hf1⟩:=bcell hb1
 have hz1:=hb1.size
 simp at hz1
 have g1:w1.cell? ⟨w.heap.size,0,none⟩=some (.int .i64 0):=(hc1 _ _ (by simp)).trans (by simp [go_sem])
 have g2:w1.cell? ⟨w.heap.size,1,none⟩=some (.int .i64 0):=(hc1 _ _ (by simp)).trans (by simp [go_sem])
 have g3:w1.cell? ⟨w.heap.size,2,none⟩=some (.int .i64 0):=(hc1 _ _ (by simp)).trans (by simp [go_sem])
 have g4:∀i,w1.frozen? ⟨w.heap.size,i,none⟩=false:=fun i=>(hf1 _ _ (by simp)).trans (by simp [go_sem])
 clear hc1 hf1
 go_wp2_with fail
 refine(HWd.out _).mono ?_
 rintro e w' ⟨rfl,rfl⟩
 go_wp2_with fail
 refine(HY.out _ (Tab.below hT bel) (Tab.below hL bel) (Tab.below hF bel)).mono ?_
 rintro e w2 ⟨v2,rfl,ho2,hb2⟩
 have hr:=ho2.row
 obtain⟨p2,c2,rfl⟩:=hr.len
 rw [hl]
 have HN:=Lib.hid hl
 have hB12:Below w1.heap.size w1 w2:=bel
 have hB2:Below w.heap.size w w2:=bt hB1 hB12
 have k1:=(hB12.cell (p:=⟨w.heap.size,0,none⟩) (by show w.heap.size<_;omega)).trans g1
 have k2:=(hB12.cell (p:=⟨w.heap.size,1,none⟩) (by show w.heap.size<_;omega)).trans g2
 have k3:=(hB12.cell (p:=⟨w.heap.size,2,none⟩) (by show w.heap.size<_;omega)).trans g3
 have k4:∀i,w2.frozen? ⟨w.heap.size,i,none⟩=false:=fun i=>(hB12.frozen (p:=⟨w.heap.size,i,none⟩) (by show w.heap.size<_;omega)).trans (g4 i)
 have hz2:=hB12.size
 clear ho2 HY HC hl g1 g2 g3 g4
 have HK1:=Lib.hid k1
 have HK2:=Lib.hid k2
 have HK3:=Lib.hid k3
 have HK4:=Lib.hid k4
 clear k1 k2 k3 k4
 go_wp2_with fail
 go_loopw [37] (fun i wr=>∃j:Nat,j<=n/\i= .int .i64 (j:Int)/\Hid ((L.take j).find? (Rd.onDay D)=none)/\Below w2.heap.size w2 wr) (fun i _=>n-(intOf i).toNat)
 case atStart=>exact⟨0,Nat.zero_le _,rfl,Lib.hid rfl,Below.refl _ _⟩
 case round=>
  obtain⟨j,hj,rfl,HG,hB⟩:=hrel
  obtain⟨w9,rfl⟩:∃x,x=wr:=⟨_,rfl⟩
  have hBw:Below w.heap.size w w9:=bt hB2 hB
  have hs9:=hB.size
  by_cases hlt:j<n
  ·obtain⟨x,hx⟩:∃x,L[j]? =some x:=⟨_,List.getElem?_eq_getElem (by rw [HN.out];exact hlt)⟩
   obtain⟨x1,x2,x3⟩:=x
   obtain⟨b,off,cc,hp1,hc⟩:=(hr.below hB).at_some (by rw [HN.out];omega)
   rw [HN.out]at hp1
   simp only [Value.slice.injEq]at hp1
   obtain⟨rfl,_,rfl⟩:=hp1
   obtain⟨cx1,cx2,cx3⟩:=Rd.cells_at hc j (x1,x2,x3) hx
   have lx:=World.block_lt_of_cell? _ _ cx1
   dsimp only at lx cx1 cx2 cx3
   have j0:(0:Int)<=(j:Int):=by omega
   have j1:(j:Int)<(n:Int):=by omega
   have k1:=(hB.cell (p:=⟨w.heap.size,0,none⟩) (by show w.heap.size<_;omega)).trans HK1.out
   have k2:=(hB.cell (p:=⟨w.heap.size,1,none⟩) (by show w.heap.size<_;omega)).trans HK2.out
   have k3:=(hB.cell (p:=⟨w.heap.size,2,none⟩) (by show w.heap.size<_;omega)).trans HK3.out
   have k4:∀i,w9.frozen? ⟨w.heap.size,i,none⟩=false:=fun i=>(hB.frozen (p:=⟨w.heap.size,i,none⟩) (by show w.heap.size<_;omega)).trans (HK4.out i)
   have lg:w.heap.size<w9.heap.size:=by omega
   by_cases c:x3=D
   ·have HH:=Lib.hid (Rd.find_hit (Rd.onDay D) L j (x1,x2,x3) hx HG.out (by simp [Rd.onDay,c]))
    subst c
    have e1:x1=r1/\x2=r2:=by have h1:=HX.out;rw [HH.out]at h1;simpa using h1
    obtain⟨rfl,rfl⟩:=e1
    clear hc hx HG
    go_wp2_with fail
    refine bodyPost_ret (v:= .tuple #[.agg #[.int .i64 x1,.int .i64 x2,.int .i64 x3],.int .i64 0]) (by simp [results,Tryz.results12,go_sem, *]) rfl ?_
    refine⟨rfl, ?_⟩
    exact bel
   ·have HH:=Lib.hid (Rd.find_next (Rd.onDay D) L j (x1,x2,x3) hx HG.out (by simpa [Rd.onDay]using c))
    clear hc hx k1 k2 k3 k4
    have c3:decide (x3=D)=false:=decide_eq_false c
    go_wp2_with fail
    go_roundw
    case rel=>exact⟨j+1,by omega,by go_num,HH,bel⟩
    case measure=>simp [intOf];omega
  ·exfalso
   have h1:=HG.out
   rw [List.take_of_length_le (by rw [HN.out];omega)]at h1
   rw [HX.out]at h1
   cases h1
theorem rd_Of(y:Int)(i i2:Nat)(p:Bool)(D r1 r2:Int)(w:World)(h:Yr.Is y i)(h2:Yr.Is (y+1) i2)(h3:Sb.rj y p<D)(h4:D<=Sb.rj (y+1) p)(h6:D % 7=6)(hX:((Rd.cyc0 i p).map (Rd.sh (Cal.first y-kevB i))).find? (Rd.onDay D)=some (r1,r2,D))(hn:(Rd.cyc0 i p).length<=100)(hT:Tab w 5 kevCells)(hL:Tab w 4 lenCells)(hF:Tab w 6 Fe.cells):
  Calls Tryo.prog 12 #[.int .i64 D,.int .i64 (if p then 1 else 0)] w fun e w'=>e= .returned (.tuple #[.agg #[.int .i64 r1,.int .i64 r2,.int .i64 D],.int .i64 0])/\Below w.heap.size w w':=by
 have b1:=Sb.rj_bd p h
 have b2:=Sb.rj_bd p h2
 exact rd_Of_go D _ y r1 r2 _ _ w rfl (by rw [List.length_map];exact hn) ⟨by omega,by omega⟩ h6 (Lib.hid hX) hT hL hF (Lib.hid fun w hT hL hF=>sab_Cycle y i i2 p D w h h2 h3 h4 hT hL hF) (Lib.hid fun w hT hL hF=>rd_Cycle y i i2 p w h h2 hT hL hF)
end Go.Proofs.YthpipedifekmpaaGreatDoor
end
