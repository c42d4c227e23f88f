import Derived.Test.YthnjjcoahdhmnaaGreatDoorOCT
import Derived.LoopTactic
set_option maxHeartbeats 8000000
set_option maxRecDepth 100000
set_option linter.unusedVariables false
namespace Go.Proofs.YthnjjcoahdhmnaaGreatDoor
section
open Go.ChangeShapes Go.WideShapes Go.ChangeAt Go.RowKit
end
section
open Go.ChangeShapes Go.WideShapes Go.ChangeAt Go.RowKit
end
section
open Go.ChangeShapes Go.WideShapes Go.ChangeAt Go.RowKit
attribute [local go_sem] Oper.semAt_some
theorem CR(dd:Dt)(sf:Nat)(w:World):Calls Tryo.prog 69 #[.agg #[.int .i64 (dd).1,.int .i64 (dd).2.1,.bool (dd).2.2.1,.int .i64 (dd).2.2.2],.func (.func sf) #[] #[]] w fun e w'=>e= .returned (.func (.func 141) #[] #[.pointer (some ⟨w.heap.size,0,none⟩),.pointer (some ⟨w.heap.size+1,0,none⟩)])/\(w'.cell? ⟨w.heap.size,0,none⟩=some (.int .i64 (dd).1)/\w'.cell? ⟨w.heap.size,1,none⟩=some (.int .i64 (dd).2.1)/\w'.cell? ⟨w.heap.size,2,none⟩=some (.bool (dd).2.2.1)/\w'.cell? ⟨w.heap.size,3,none⟩=some (.int .i64 (dd).2.2.2))/\w'.cell? ⟨w.heap.size+1,0,none⟩=some (.func (.func sf) #[] #[])/\Below w.heap.size w w':=by
 go_enter Tryo.func69,Tryz.ntmps69
 go_wp2_with fail
 go_ret
 exact⟨rfl,⟨by simp [go_sem],by simp [go_sem],by simp [go_sem],by simp [go_sem]⟩,by simp [go_sem],bel⟩
theorem lq{F:Fence}{n:Nat}{P:Program}{fn:Func}{tmps:Array Value}{D B:Nat}{v:Value}{w0 X:World}(hD:X.heap[D]? =some (.deferred (some [])))(hB:Below B w0 X)(hBD:B<=D)
  (hr:∀Y:World,(∀p,Y.cell? p=X.cell? p)->(results fn tmps).run P Y= .ok v Y):
  bodyPostM F n P fn (fun e w'=>e= .returned v/\Below B w0 w') .ret {tmps:=tmps,defers:= [{target:= .collected D,args:= #[]}]} X:=by
 have hlt:=(Array.getElem?_eq_some_iff.1 hD).1
 refine⟨by simp,.inl ⟨D,_,rfl,run_takeDeferred hD,_,hr _ (fun p=> ?_),rfl,hB.os,hB.tape,hB.output, ?_,fun k hk=> ?_⟩⟩
 ·unfold World.cell?
  by_cases e:p.block=D
  ·rw [e,World.putObj_heap_same hlt,hD]
  ·rw [World.putObj_heap_other e]
 ·have:=hB.size
  simp [World.putObj]
  omega
 ·exact(World.putObj_heap_other (by omega)).trans (hB.block k hk)
theorem En(s:Nat->Dt)(N:Nat)(hN:N<=4000000)(n:Int)(la:Int)(w:World)(hT:Tab w 7 kevCells)(hL:Tab w 5 lenCells)(hn:0<=n/\n<=3000)
  (HC:Hid (∀w:World,Tab w 7 kevCells->Tab w 5 lenCells->Calls Tryo.prog 66 #[.agg #[.int .i64 (s 0).1,.int .i64 (s 0).2.1,.bool (s 0).2.2.1,.int .i64 (s 0).2.2.2]] w fun e w'=>e= .returned (.tuple #[.int .i64 la,.int .i64 0])/\Below w.heap.size w w'))
  (HS:Hid (∀k,k<N->∀W:World,Tab W 7 kevCells->Tab W 5 lenCells->Calls Tryo.prog 67 #[.agg #[.int .i64 (s k).1,.int .i64 (s k).2.1,.bool (s k).2.2.1,.int .i64 (s k).2.2.2]] W fun e w'=>e= .returned (.tuple #[.agg #[.int .i64 (s (k+1)).1,.int .i64 (s (k+1)).2.1,.bool (s (k+1)).2.2.1,.int .i64 (s (k+1)).2.2.2],.int .i64 0])/\Below W.heap.size W w'))
  (HE:Hid (∀W:World,Tab W 7 kevCells->Tab W 5 lenCells->Calls Tryo.prog 67 #[.agg #[.int .i64 (s N).1,.int .i64 (s N).2.1,.bool (s N).2.2.1,.int .i64 (s N).2.2.2]] W fun e w'=>e= .returned (.tuple #[.agg #[.int .i64 0,.int .i64 0,.bool false,.int .i64 0],.int .i64 2])/\Below W.heap.size W w')) (q:Nat) (hq:(q:Int)=n) (R:Dt) (er:Int) (hR:(q<=N->R=s q/\er=0)/\(¬ q<=N->R=(0,0,false,0)/\er=2)):
  Calls Tryo.prog 20 #[.agg #[.int .i64 (s 0).1,.int .i64 (s 0).2.1,.bool (s 0).2.2.1,.int .i64 (s 0).2.2.2],.int .i64 n] w fun e w'=>e= .returned (.tuple #[.agg #[.int .i64 (R).1,.int .i64 (R).2.1,.bool (R).2.2.1,.int .i64 (R).2.2.2],.int .i64 er])/\Below w.heap.size w w':=by
 refine(callsIn_wide (n:=3)).1 ?_
 refine callsIn_of_wp_marks Tryo.func20 rfl trivial ?_ rfl
 simp only [Tryz.ntmps20,List.size_toArray,List.length_cons,List.length_nil,Nat.reduceAdd,Nat.reduceSub,Array.replicate_succ,Array.replicate_zero,List.push_toArray,List.append_toArray,List.nil_append,List.cons_append]
 gi_wp2
 refine⟨trivial,(callsIn_wide.2 (HC.out _ (Tab.below hT bel) (Tab.below hL bel))).mono ?_⟩
 rintro e w1 ⟨rfl,hb1⟩
 obtain⟨hc1,hf1⟩:=aA hb1
 have hz1:=hb1.size
 simp at hz1
 have d0:w1.cell? ⟨w.heap.size,0,none⟩=some (.int .i64 (s 0).1):=(hc1 _ _ (by first|(simp;done)|(simp;omega))).trans (by simp [go_sem])
 have d1:w1.cell? ⟨w.heap.size,1,none⟩=some (.int .i64 (s 0).2.1):=(hc1 _ _ (by first|(simp;done)|(simp;omega))).trans (by simp [go_sem])
 have d2:w1.cell? ⟨w.heap.size,2,none⟩=some (.bool (s 0).2.2.1):=(hc1 _ _ (by first|(simp;done)|(simp;omega))).trans (by simp [go_sem])
 have d3:w1.cell? ⟨w.heap.size,3,none⟩=some (.int .i64 (s 0).2.2.2):=(hc1 _ _ (by first|(simp;done)|(simp;omega))).trans (by simp [go_sem])
 have r0:w1.cell? ⟨w.heap.size+1,0,none⟩=some (.int .i64 0):=(hc1 _ _ (by first|(simp;done)|(simp;omega))).trans (by simp [go_sem])
 have z0:w1.frozen? ⟨w.heap.size+1,0,none⟩=false:=(hf1 _ _ (by first|(simp;done)|(simp;omega))).trans (by simp [go_sem])
 have r1:w1.cell? ⟨w.heap.size+1,1,none⟩=some (.int .i64 0):=(hc1 _ _ (by first|(simp;done)|(simp;omega))).trans (by simp [go_sem])
 have z1:w1.frozen? ⟨w.heap.size+1,1,none⟩=false:=(hf1 _ _ (by first|(simp;done)|(simp;omega))).trans (by simp [go_sem])
 have r2:w1.cell? ⟨w.heap.size+1,2,none⟩=some (.bool false):=(hc1 _ _ (by first|(simp;done)|(simp;omega))).trans (by simp [go_sem])
 have z2:w1.frozen? ⟨w.heap.size+1,2,none⟩=false:=(hf1 _ _ (by first|(simp;done)|(simp;omega))).trans (by simp [go_sem])
 have r3:w1.cell? ⟨w.heap.size+1,3,none⟩=some (.int .i64 0):=(hc1 _ _ (by first|(simp;done)|(simp;omega))).trans (by simp [go_sem])
 have z3:w1.frozen? ⟨w.heap.size+1,3,none⟩=false:=(hf1 _ _ (by first|(simp;done)|(simp;omega))).trans (by simp [go_sem])
 have r4:w1.cell? ⟨w.heap.size+2,0,none⟩=some (.int .i64 0):=(hc1 _ _ (by first|(simp;done)|(simp;omega))).trans (by simp [go_sem])
 have z4:w1.frozen? ⟨w.heap.size+2,0,none⟩=false:=(hf1 _ _ (by first|(simp;done)|(simp;omega))).trans (by simp [go_sem])
 have hB1:Below w.heap.size w w1:=bel
 have l0:w.heap.size<w1.heap.size:=by omega
 have l1:w.heap.size+1<w1.heap.size:=by omega
 have l2:w.heap.size+2<w1.heap.size:=by omega
 clear hb1
 obtain⟨n1,n2⟩:=hn
 have N1:¬ n< -3000:=by omega
 have N2:¬ 3000<n:=by omega
 have M1:decide (n< -3000)=false:=by simpa using N1
 have M2:decide (3000<n)=false:=by simpa using N2
 have N3:¬ n<0:=by omega
 gi_wp2
 refine⟨trivial,(callsIn_wide.2 (CR (s 0) 67 _)).mono ?_⟩
 rintro e w2 ⟨rfl,⟨e0,e1,e2,e3⟩,es,hb2⟩
 simp only [World.size_alloc]at e0 e1 e2 e3 es
 obtain⟨hc2,hf2⟩:=aA hb2
 have hz2:=hb2.size
 simp at hz2
 have D0:w2.cell? ⟨w.heap.size,0,none⟩=some (.int .i64 (s 0).1):=(hc2 _ _ (by first|(simp;done)|(simp;omega))).trans (by first|(simp [go_sem];done)|(simp [go_sem, *];done))
 have D1:w2.cell? ⟨w.heap.size,1,none⟩=some (.int .i64 (s 0).2.1):=(hc2 _ _ (by first|(simp;done)|(simp;omega))).trans (by first|(simp [go_sem];done)|(simp [go_sem, *];done))
 have D2:w2.cell? ⟨w.heap.size,2,none⟩=some (.bool (s 0).2.2.1):=(hc2 _ _ (by first|(simp;done)|(simp;omega))).trans (by first|(simp [go_sem];done)|(simp [go_sem, *];done))
 have D3:w2.cell? ⟨w.heap.size,3,none⟩=some (.int .i64 (s 0).2.2.2):=(hc2 _ _ (by first|(simp;done)|(simp;omega))).trans (by first|(simp [go_sem];done)|(simp [go_sem, *];done))
 have R0:w2.cell? ⟨w.heap.size+1,0,none⟩=some (.int .i64 0):=(hc2 _ _ (by first|(simp;done)|(simp;omega))).trans (by first|(simp [go_sem];done)|(simp [go_sem, *];done))
 have Z0:w2.frozen? ⟨w.heap.size+1,0,none⟩=false:=(hf2 _ _ (by first|(simp;done)|(simp;omega))).trans (by first|(simp [go_sem];done)|(simp [go_sem, *];done))
 have R1:w2.cell? ⟨w.heap.size+1,1,none⟩=some (.int .i64 0):=(hc2 _ _ (by first|(simp;done)|(simp;omega))).trans (by first|(simp [go_sem];done)|(simp [go_sem, *];done))
 have Z1:w2.frozen? ⟨w.heap.size+1,1,none⟩=false:=(hf2 _ _ (by first|(simp;done)|(simp;omega))).trans (by first|(simp [go_sem];done)|(simp [go_sem, *];done))
 have R2:w2.cell? ⟨w.heap.size+1,2,none⟩=some (.bool false):=(hc2 _ _ (by first|(simp;done)|(simp;omega))).trans (by first|(simp [go_sem];done)|(simp [go_sem, *];done))
 have Z2:w2.frozen? ⟨w.heap.size+1,2,none⟩=false:=(hf2 _ _ (by first|(simp;done)|(simp;omega))).trans (by first|(simp [go_sem];done)|(simp [go_sem, *];done))
 have R3:w2.cell? ⟨w.heap.size+1,3,none⟩=some (.int .i64 0):=(hc2 _ _ (by first|(simp;done)|(simp;omega))).trans (by first|(simp [go_sem];done)|(simp [go_sem, *];done))
 have Z3:w2.frozen? ⟨w.heap.size+1,3,none⟩=false:=(hf2 _ _ (by first|(simp;done)|(simp;omega))).trans (by first|(simp [go_sem];done)|(simp [go_sem, *];done))
 have R4:w2.cell? ⟨w.heap.size+2,0,none⟩=some (.int .i64 0):=(hc2 _ _ (by first|(simp;done)|(simp;omega))).trans (by first|(simp [go_sem];done)|(simp [go_sem, *];done))
 have Z4:w2.frozen? ⟨w.heap.size+2,0,none⟩=false:=(hf2 _ _ (by first|(simp;done)|(simp;omega))).trans (by first|(simp [go_sem];done)|(simp [go_sem, *];done))
 have X0:w2.cell? ⟨w1.heap.size,0,none⟩=some (.int .i64 (q:Int)):=(hc2 _ _ (by first|(simp;done)|(simp;omega))).trans (by rw [hq];simp [go_sem, *])
 clear hq
 have hB2:Below w.heap.size w w2:=bel
 have lw0:w.heap.size<w2.heap.size:=by omega
 have lw1:w.heap.size+1<w2.heap.size:=by omega
 have lw2:w.heap.size+2<w2.heap.size:=by omega
 have lw3:w1.heap.size<w2.heap.size:=by omega
 have hT2:=Tab.below hT hB2
 have hL2:=Tab.below hL hB2
 clear hc1 hf1 hc2 hf2 hb2 d0 d1 d2 d3 r0 r1 r2 r3 r4 z0 z1 z2 z3 z4 hB1
 gi_wp2
 refine nU (gf:=141) rfl (enters_of Tryo.func141 (by kernel_rfl) rfl) (fun k=> #[.int .i64 (k:Int),.agg #[.int .i64 (s k).1,.int .i64 (s k).2.1,.bool (s k).2.2.1,.int .i64 (s k).2.2.2]]) N (fun _=>rfl) (fun k=>¬ k=q)
  (fun k c W=>c= .ret/\k=q/\Below w.heap.size w W/\(W.cell? ⟨w.heap.size+1,0,none⟩=some (.int .i64 (s q).1)/\W.cell? ⟨w.heap.size+1,1,none⟩=some (.int .i64 (s q).2.1)/\W.cell? ⟨w.heap.size+1,2,none⟩=some (.bool (s q).2.2.1)/\W.cell? ⟨w.heap.size+1,3,none⟩=some (.int .i64 (s q).2.2.2))/\W.cell? ⟨w.heap.size+2,0,none⟩=some (.int .i64 0)) ?hJ ?hit ?round ?done ?stop
 case hJ=>
  rintro k c X Y hA ⟨h1,h2,h3,⟨c0,c1,c2,c3⟩,c4⟩
  exact⟨h1,h2,h3.trans (hA.below.mono (by omega)),⟨(hA.cell _).trans c0,(hA.cell _).trans c1,(hA.cell _).trans c2,(hA.cell _).trans c3⟩,(hA.cell _).trans c4⟩
 case hit=>
  intro l W0 Jx hW hY
  exact Cg 2 s 2 N hN l _ _ w2 W0 hT2 hL2 _ Jx HS HE rfl e0 e1 e2 e3 es hW hY
 case round=>
  intro l k W hk hW hlt
  have S0:=(hW.cell (p:=⟨w.heap.size+1,0,none⟩) lw1).trans R0
  have S1:=(hW.cell (p:=⟨w.heap.size+1,1,none⟩) lw1).trans R1
  have S2:=(hW.cell (p:=⟨w.heap.size+1,2,none⟩) lw1).trans R2
  have S3:=(hW.cell (p:=⟨w.heap.size+1,3,none⟩) lw1).trans R3
  have S4:=(hW.cell (p:=⟨w.heap.size+2,0,none⟩) lw2).trans R4
  have F0:=(hW.frozen (p:=⟨w.heap.size+1,0,none⟩) lw1).trans Z0
  have F1:=(hW.frozen (p:=⟨w.heap.size+1,1,none⟩) lw1).trans Z1
  have F2:=(hW.frozen (p:=⟨w.heap.size+1,2,none⟩) lw1).trans Z2
  have F3:=(hW.frozen (p:=⟨w.heap.size+1,3,none⟩) lw1).trans Z3
  have F4:=(hW.frozen (p:=⟨w.heap.size+2,0,none⟩) lw2).trans Z4
  have hWs:=hW.size
  have q1:w.heap.size+1<W.heap.size:=by omega
  have q2:w.heap.size+2<W.heap.size:=by omega
  have q3:w1.heap.size<W.heap.size:=by omega
  have hWB:Below w.heap.size w W:=hB2.trans (hW.mono hB2.size)
  have X1:=(hW.cell (p:=⟨w1.heap.size,0,none⟩) lw3).trans X0
  gi_wp2
  refine⟨bel, ?_⟩
  intro W2 hA
  have G0:W2.cell? ⟨w.heap.size+1,0,none⟩=some (.int .i64 0):=(hA.cell _).trans (by simp [go_sem, *])
  have G1:W2.cell? ⟨w.heap.size+1,1,none⟩=some (.int .i64 0):=(hA.cell _).trans (by simp [go_sem, *])
  have G2:W2.cell? ⟨w.heap.size+1,2,none⟩=some (.bool false):=(hA.cell _).trans (by simp [go_sem, *])
  have G3:W2.cell? ⟨w.heap.size+1,3,none⟩=some (.int .i64 0):=(hA.cell _).trans (by simp [go_sem, *])
  have G4:W2.cell? ⟨w.heap.size+2,0,none⟩=some (.int .i64 0):=(hA.cell _).trans (by simp [go_sem, *])
  have K0:W2.frozen? ⟨w.heap.size+1,0,none⟩=false:=(hA.frozen _).trans (by simp [go_sem, *])
  have K1:W2.frozen? ⟨w.heap.size+1,1,none⟩=false:=(hA.frozen _).trans (by simp [go_sem, *])
  have K2:W2.frozen? ⟨w.heap.size+1,2,none⟩=false:=(hA.frozen _).trans (by simp [go_sem, *])
  have K3:W2.frozen? ⟨w.heap.size+1,3,none⟩=false:=(hA.frozen _).trans (by simp [go_sem, *])
  have K4:W2.frozen? ⟨w.heap.size+2,0,none⟩=false:=(hA.frozen _).trans (by simp [go_sem, *])
  have X2:W2.cell? ⟨w1.heap.size,0,none⟩=some (.int .i64 (q:Int)):=(hA.cell _).trans (by simp [go_sem, *])
  have A0:W2.cell? ⟨W.heap.size,0,none⟩=some (.int .i64 (s k).1):=(hA.cell _).trans (by simp [go_sem, *])
  have A1:W2.cell? ⟨W.heap.size,1,none⟩=some (.int .i64 (s k).2.1):=(hA.cell _).trans (by simp [go_sem, *])
  have A2:W2.cell? ⟨W.heap.size,2,none⟩=some (.bool (s k).2.2.1):=(hA.cell _).trans (by simp [go_sem, *])
  have A3:W2.cell? ⟨W.heap.size,3,none⟩=some (.int .i64 (s k).2.2.2):=(hA.cell _).trans (by simp [go_sem, *])
  have hsA:W2.heap.size=W.heap.size+1:=hA.size.trans (by simp)
  have hAB:Below w.heap.size w W2:=Below.trans bel (hA.below.mono hB2.size)
  clear hA S0 S1 S2 S3 S4 F0 F1 F2 F3 F4 X1
  by_cases c:k=q
  ·subst c
   gi_wp2
   refine⟨?_,rfl,bel,⟨by simp [go_sem, *],by simp [go_sem, *],by simp [go_sem, *],by simp [go_sem, *]⟩,by simp [go_sem, *]⟩
   repeat(first|exact Upper.refl _ _|refine Upper.setCell ?_ (by simp;omega) _)
  ·have c2:((k:Int)==(q:Int))=false:=by simpa using(show ¬ (k:Int)=(q:Int) by omega)
   gi_wp2
   exact⟨c,Below.refl _ _⟩
 case done=>
  intro W hW hG hD
  have S0:=(hW.cell (p:=⟨w.heap.size+1,0,none⟩) lw1).trans R0
  have S1:=(hW.cell (p:=⟨w.heap.size+1,1,none⟩) lw1).trans R1
  have S2:=(hW.cell (p:=⟨w.heap.size+1,2,none⟩) lw1).trans R2
  have S3:=(hW.cell (p:=⟨w.heap.size+1,3,none⟩) lw1).trans R3
  have S4:=(hW.cell (p:=⟨w.heap.size+2,0,none⟩) lw2).trans R4
  have F0:=(hW.frozen (p:=⟨w.heap.size+1,0,none⟩) lw1).trans Z0
  have F1:=(hW.frozen (p:=⟨w.heap.size+1,1,none⟩) lw1).trans Z1
  have F2:=(hW.frozen (p:=⟨w.heap.size+1,2,none⟩) lw1).trans Z2
  have F3:=(hW.frozen (p:=⟨w.heap.size+1,3,none⟩) lw1).trans Z3
  have F4:=(hW.frozen (p:=⟨w.heap.size+2,0,none⟩) lw2).trans Z4
  have hWs:=hW.size
  have q1:w.heap.size+1<W.heap.size:=by omega
  have q2:w.heap.size+2<W.heap.size:=by omega
  have q3:w1.heap.size<W.heap.size:=by omega
  have hWB:Below w.heap.size w W:=hB2.trans (hW.mono hB2.size)
  obtain⟨rfl,rfl⟩:=hR.2 (fun h=>hG q h rfl)
  gi_wp2
  refine lq (by repeat(first|(with_reducible exact hD)|refine(Below.heap_setCell _ _ _ _ (by simp;omega)).trans ?_)) bel (by omega) (fun Y hY=> ?_)
  have T0:Y.cell? ⟨w.heap.size+1,0,none⟩=some (.int .i64 0):=(hY _).trans (by simp [go_sem, *])
  have T1:Y.cell? ⟨w.heap.size+1,1,none⟩=some (.int .i64 0):=(hY _).trans (by simp [go_sem, *])
  have T2:Y.cell? ⟨w.heap.size+1,2,none⟩=some (.bool false):=(hY _).trans (by simp [go_sem, *])
  have T3:Y.cell? ⟨w.heap.size+1,3,none⟩=some (.int .i64 0):=(hY _).trans (by simp [go_sem, *])
  have T4:Y.cell? ⟨w.heap.size+2,0,none⟩=some (.int .i64 2):=(hY _).trans (by simp [go_sem, *])
  simp [results,Tryz.results20,go_sem,T0,T1,T2,T3,T4]
 case stop=>
  rintro k c W hk hG ⟨rfl,rfl,hB,⟨c0,c1,c2,c3⟩,c4⟩ hD
  obtain⟨rfl,rfl⟩:=hR.1 hk
  gi_wp2
  refine lq hD hB (by omega) (fun Y hY=> ?_)
  have T0:Y.cell? ⟨w.heap.size+1,0,none⟩=some (.int .i64 (s k).1):=(hY _).trans c0
  have T1:Y.cell? ⟨w.heap.size+1,1,none⟩=some (.int .i64 (s k).2.1):=(hY _).trans c1
  have T2:Y.cell? ⟨w.heap.size+1,2,none⟩=some (.bool (s k).2.2.1):=(hY _).trans c2
  have T3:Y.cell? ⟨w.heap.size+1,3,none⟩=some (.int .i64 (s k).2.2.2):=(hY _).trans c3
  have T4:Y.cell? ⟨w.heap.size+2,0,none⟩=some (.int .i64 0):=(hY _).trans c4
  simp [results,Tryz.results20,go_sem,T0,T1,T2,T3,T4]
theorem AR(s:Nat->Dt)(N:Nat)(hN:N<=4000000)(n:Int)(la:Int)(w:World)(hT:Tab w 7 kevCells)(hL:Tab w 5 lenCells)(hn: -3000<=n/\n<0)
  (HC:Hid (∀w:World,Tab w 7 kevCells->Tab w 5 lenCells->Calls Tryo.prog 66 #[.agg #[.int .i64 (s 0).1,.int .i64 (s 0).2.1,.bool (s 0).2.2.1,.int .i64 (s 0).2.2.2]] w fun e w'=>e= .returned (.tuple #[.int .i64 la,.int .i64 0])/\Below w.heap.size w w'))
  (HS:Hid (∀k,k<N->∀W:World,Tab W 7 kevCells->Tab W 5 lenCells->Calls Tryo.prog 68 #[.agg #[.int .i64 (s k).1,.int .i64 (s k).2.1,.bool (s k).2.2.1,.int .i64 (s k).2.2.2]] W fun e w'=>e= .returned (.tuple #[.agg #[.int .i64 (s (k+1)).1,.int .i64 (s (k+1)).2.1,.bool (s (k+1)).2.2.1,.int .i64 (s (k+1)).2.2.2],.int .i64 0])/\Below W.heap.size W w'))
  (HE:Hid (∀W:World,Tab W 7 kevCells->Tab W 5 lenCells->Calls Tryo.prog 68 #[.agg #[.int .i64 (s N).1,.int .i64 (s N).2.1,.bool (s N).2.2.1,.int .i64 (s N).2.2.2]] W fun e w'=>e= .returned (.tuple #[.agg #[.int .i64 0,.int .i64 0,.bool false,.int .i64 0],.int .i64 2])/\Below W.heap.size W w')) (q:Nat) (hq:(q:Int)= -n) (R:Dt) (er:Int) (hR:(q<=N->R=s q/\er=0)/\(¬ q<=N->R=(0,0,false,0)/\er=2)):
  Calls Tryo.prog 20 #[.agg #[.int .i64 (s 0).1,.int .i64 (s 0).2.1,.bool (s 0).2.2.1,.int .i64 (s 0).2.2.2],.int .i64 n] w fun e w'=>e= .returned (.tuple #[.agg #[.int .i64 (R).1,.int .i64 (R).2.1,.bool (R).2.2.1,.int .i64 (R).2.2.2],.int .i64 er])/\Below w.heap.size w w':=by
 refine(callsIn_wide (n:=3)).1 ?_
 refine callsIn_of_wp_marks Tryo.func20 rfl trivial ?_ rfl
 simp only [Tryz.ntmps20,List.size_toArray,List.length_cons,List.length_nil,Nat.reduceAdd,Nat.reduceSub,Array.replicate_succ,Array.replicate_zero,List.push_toArray,List.append_toArray,List.nil_append,List.cons_append]
 gi_wp2
 refine⟨trivial,(callsIn_wide.2 (HC.out _ (Tab.below hT bel) (Tab.below hL bel))).mono ?_⟩
 rintro e w1 ⟨rfl,hb1⟩
 obtain⟨hc1,hf1⟩:=aA hb1
 have hz1:=hb1.size
 simp at hz1
 have d0:w1.cell? ⟨w.heap.size,0,none⟩=some (.int .i64 (s 0).1):=(hc1 _ _ (by first|(simp;done)|(simp;omega))).trans (by simp [go_sem])
 have d1:w1.cell? ⟨w.heap.size,1,none⟩=some (.int .i64 (s 0).2.1):=(hc1 _ _ (by first|(simp;done)|(simp;omega))).trans (by simp [go_sem])
 have d2:w1.cell? ⟨w.heap.size,2,none⟩=some (.bool (s 0).2.2.1):=(hc1 _ _ (by first|(simp;done)|(simp;omega))).trans (by simp [go_sem])
 have d3:w1.cell? ⟨w.heap.size,3,none⟩=some (.int .i64 (s 0).2.2.2):=(hc1 _ _ (by first|(simp;done)|(simp;omega))).trans (by simp [go_sem])
 have r0:w1.cell? ⟨w.heap.size+1,0,none⟩=some (.int .i64 0):=(hc1 _ _ (by first|(simp;done)|(simp;omega))).trans (by simp [go_sem])
 have z0:w1.frozen? ⟨w.heap.size+1,0,none⟩=false:=(hf1 _ _ (by first|(simp;done)|(simp;omega))).trans (by simp [go_sem])
 have r1:w1.cell? ⟨w.heap.size+1,1,none⟩=some (.int .i64 0):=(hc1 _ _ (by first|(simp;done)|(simp;omega))).trans (by simp [go_sem])
 have z1:w1.frozen? ⟨w.heap.size+1,1,none⟩=false:=(hf1 _ _ (by first|(simp;done)|(simp;omega))).trans (by simp [go_sem])
 have r2:w1.cell? ⟨w.heap.size+1,2,none⟩=some (.bool false):=(hc1 _ _ (by first|(simp;done)|(simp;omega))).trans (by simp [go_sem])
 have z2:w1.frozen? ⟨w.heap.size+1,2,none⟩=false:=(hf1 _ _ (by first|(simp;done)|(simp;omega))).trans (by simp [go_sem])
 have r3:w1.cell? ⟨w.heap.size+1,3,none⟩=some (.int .i64 0):=(hc1 _ _ (by first|(simp;done)|(simp;omega))).trans (by simp [go_sem])
 have z3:w1.frozen? ⟨w.heap.size+1,3,none⟩=false:=(hf1 _ _ (by first|(simp;done)|(simp;omega))).trans (by simp [go_sem])
 have r4:w1.cell? ⟨w.heap.size+2,0,none⟩=some (.int .i64 0):=(hc1 _ _ (by first|(simp;done)|(simp;omega))).trans (by simp [go_sem])
 have z4:w1.frozen? ⟨w.heap.size+2,0,none⟩=false:=(hf1 _ _ (by first|(simp;done)|(simp;omega))).trans (by simp [go_sem])
 have hB1:Below w.heap.size w w1:=bel
 have l0:w.heap.size<w1.heap.size:=by omega
 have l1:w.heap.size+1<w1.heap.size:=by omega
 have l2:w.heap.size+2<w1.heap.size:=by omega
 clear hb1
 obtain⟨n1,n2⟩:=hn
 have N1:¬ n< -3000:=by omega
 have N2:¬ 3000<n:=by omega
 have M1:decide (n< -3000)=false:=by simpa using N1
 have M2:decide (3000<n)=false:=by simpa using N2
 have N3:n<0:=by omega
 gi_wp2
 refine⟨trivial,(callsIn_wide.2 (CR (s 0) 68 _)).mono ?_⟩
 rintro e w2 ⟨rfl,⟨e0,e1,e2,e3⟩,es,hb2⟩
 simp only [World.size_alloc]at e0 e1 e2 e3 es
 obtain⟨hc2,hf2⟩:=aA hb2
 have hz2:=hb2.size
 simp at hz2
 have D0:w2.cell? ⟨w.heap.size,0,none⟩=some (.int .i64 (s 0).1):=(hc2 _ _ (by first|(simp;done)|(simp;omega))).trans (by first|(simp [go_sem];done)|(simp [go_sem, *];done))
 have D1:w2.cell? ⟨w.heap.size,1,none⟩=some (.int .i64 (s 0).2.1):=(hc2 _ _ (by first|(simp;done)|(simp;omega))).trans (by first|(simp [go_sem];done)|(simp [go_sem, *];done))
 have D2:w2.cell? ⟨w.heap.size,2,none⟩=some (.bool (s 0).2.2.1):=(hc2 _ _ (by first|(simp;done)|(simp;omega))).trans (by first|(simp [go_sem];done)|(simp [go_sem, *];done))
 have D3:w2.cell? ⟨w.heap.size,3,none⟩=some (.int .i64 (s 0).2.2.2):=(hc2 _ _ (by first|(simp;done)|(simp;omega))).trans (by first|(simp [go_sem];done)|(simp [go_sem, *];done))
 have R0:w2.cell? ⟨w.heap.size+1,0,none⟩=some (.int .i64 0):=(hc2 _ _ (by first|(simp;done)|(simp;omega))).trans (by first|(simp [go_sem];done)|(simp [go_sem, *];done))
 have Z0:w2.frozen? ⟨w.heap.size+1,0,none⟩=false:=(hf2 _ _ (by first|(simp;done)|(simp;omega))).trans (by first|(simp [go_sem];done)|(simp [go_sem, *];done))
 have R1:w2.cell? ⟨w.heap.size+1,1,none⟩=some (.int .i64 0):=(hc2 _ _ (by first|(simp;done)|(simp;omega))).trans (by first|(simp [go_sem];done)|(simp [go_sem, *];done))
 have Z1:w2.frozen? ⟨w.heap.size+1,1,none⟩=false:=(hf2 _ _ (by first|(simp;done)|(simp;omega))).trans (by first|(simp [go_sem];done)|(simp [go_sem, *];done))
 have R2:w2.cell? ⟨w.heap.size+1,2,none⟩=some (.bool false):=(hc2 _ _ (by first|(simp;done)|(simp;omega))).trans (by first|(simp [go_sem];done)|(simp [go_sem, *];done))
 have Z2:w2.frozen? ⟨w.heap.size+1,2,none⟩=false:=(hf2 _ _ (by first|(simp;done)|(simp;omega))).trans (by first|(simp [go_sem];done)|(simp [go_sem, *];done))
 have R3:w2.cell? ⟨w.heap.size+1,3,none⟩=some (.int .i64 0):=(hc2 _ _ (by first|(simp;done)|(simp;omega))).trans (by first|(simp [go_sem];done)|(simp [go_sem, *];done))
 have Z3:w2.frozen? ⟨w.heap.size+1,3,none⟩=false:=(hf2 _ _ (by first|(simp;done)|(simp;omega))).trans (by first|(simp [go_sem];done)|(simp [go_sem, *];done))
 have R4:w2.cell? ⟨w.heap.size+2,0,none⟩=some (.int .i64 0):=(hc2 _ _ (by first|(simp;done)|(simp;omega))).trans (by first|(simp [go_sem];done)|(simp [go_sem, *];done))
 have Z4:w2.frozen? ⟨w.heap.size+2,0,none⟩=false:=(hf2 _ _ (by first|(simp;done)|(simp;omega))).trans (by first|(simp [go_sem];done)|(simp [go_sem, *];done))
 have X0:w2.cell? ⟨w1.heap.size,0,none⟩=some (.int .i64 (q:Int)):=(hc2 _ _ (by first|(simp;done)|(simp;omega))).trans (by rw [hq];simp [go_sem, *])
 clear hq
 have hB2:Below w.heap.size w w2:=bel
 have lw0:w.heap.size<w2.heap.size:=by omega
 have lw1:w.heap.size+1<w2.heap.size:=by omega
 have lw2:w.heap.size+2<w2.heap.size:=by omega
 have lw3:w1.heap.size<w2.heap.size:=by omega
 have hT2:=Tab.below hT hB2
 have hL2:=Tab.below hL hB2
 clear hc1 hf1 hc2 hf2 hb2 d0 d1 d2 d3 r0 r1 r2 r3 r4 z0 z1 z2 z3 z4 hB1
 gi_wp2
 refine nU (gf:=141) rfl (enters_of Tryo.func141 (by kernel_rfl) rfl) (fun k=> #[.int .i64 (k:Int),.agg #[.int .i64 (s k).1,.int .i64 (s k).2.1,.bool (s k).2.2.1,.int .i64 (s k).2.2.2]]) N (fun _=>rfl) (fun k=>¬ k=q)
  (fun k c W=>c= .ret/\k=q/\Below w.heap.size w W/\(W.cell? ⟨w.heap.size+1,0,none⟩=some (.int .i64 (s q).1)/\W.cell? ⟨w.heap.size+1,1,none⟩=some (.int .i64 (s q).2.1)/\W.cell? ⟨w.heap.size+1,2,none⟩=some (.bool (s q).2.2.1)/\W.cell? ⟨w.heap.size+1,3,none⟩=some (.int .i64 (s q).2.2.2))/\W.cell? ⟨w.heap.size+2,0,none⟩=some (.int .i64 0)) ?hJ ?hit ?round ?done ?stop
 case hJ=>
  rintro k c X Y hA ⟨h1,h2,h3,⟨c0,c1,c2,c3⟩,c4⟩
  exact⟨h1,h2,h3.trans (hA.below.mono (by omega)),⟨(hA.cell _).trans c0,(hA.cell _).trans c1,(hA.cell _).trans c2,(hA.cell _).trans c3⟩,(hA.cell _).trans c4⟩
 case hit=>
  intro l W0 Jx hW hY
  exact AL 2 s 2 N hN l _ _ w2 W0 hT2 hL2 _ Jx HS HE rfl e0 e1 e2 e3 es hW hY
 case round=>
  intro l k W hk hW hlt
  have S0:=(hW.cell (p:=⟨w.heap.size+1,0,none⟩) lw1).trans R0
  have S1:=(hW.cell (p:=⟨w.heap.size+1,1,none⟩) lw1).trans R1
  have S2:=(hW.cell (p:=⟨w.heap.size+1,2,none⟩) lw1).trans R2
  have S3:=(hW.cell (p:=⟨w.heap.size+1,3,none⟩) lw1).trans R3
  have S4:=(hW.cell (p:=⟨w.heap.size+2,0,none⟩) lw2).trans R4
  have F0:=(hW.frozen (p:=⟨w.heap.size+1,0,none⟩) lw1).trans Z0
  have F1:=(hW.frozen (p:=⟨w.heap.size+1,1,none⟩) lw1).trans Z1
  have F2:=(hW.frozen (p:=⟨w.heap.size+1,2,none⟩) lw1).trans Z2
  have F3:=(hW.frozen (p:=⟨w.heap.size+1,3,none⟩) lw1).trans Z3
  have F4:=(hW.frozen (p:=⟨w.heap.size+2,0,none⟩) lw2).trans Z4
  have hWs:=hW.size
  have q1:w.heap.size+1<W.heap.size:=by omega
  have q2:w.heap.size+2<W.heap.size:=by omega
  have q3:w1.heap.size<W.heap.size:=by omega
  have hWB:Below w.heap.size w W:=hB2.trans (hW.mono hB2.size)
  have X1:=(hW.cell (p:=⟨w1.heap.size,0,none⟩) lw3).trans X0
  gi_wp2
  refine⟨bel, ?_⟩
  intro W2 hA
  have G0:W2.cell? ⟨w.heap.size+1,0,none⟩=some (.int .i64 0):=(hA.cell _).trans (by simp [go_sem, *])
  have G1:W2.cell? ⟨w.heap.size+1,1,none⟩=some (.int .i64 0):=(hA.cell _).trans (by simp [go_sem, *])
  have G2:W2.cell? ⟨w.heap.size+1,2,none⟩=some (.bool false):=(hA.cell _).trans (by simp [go_sem, *])
  have G3:W2.cell? ⟨w.heap.size+1,3,none⟩=some (.int .i64 0):=(hA.cell _).trans (by simp [go_sem, *])
  have G4:W2.cell? ⟨w.heap.size+2,0,none⟩=some (.int .i64 0):=(hA.cell _).trans (by simp [go_sem, *])
  have K0:W2.frozen? ⟨w.heap.size+1,0,none⟩=false:=(hA.frozen _).trans (by simp [go_sem, *])
  have K1:W2.frozen? ⟨w.heap.size+1,1,none⟩=false:=(hA.frozen _).trans (by simp [go_sem, *])
  have K2:W2.frozen? ⟨w.heap.size+1,2,none⟩=false:=(hA.frozen _).trans (by simp [go_sem, *])
  have K3:W2.frozen? ⟨w.heap.size+1,3,none⟩=false:=(hA.frozen _).trans (by simp [go_sem, *])
  have K4:W2.frozen? ⟨w.heap.size+2,0,none⟩=false:=(hA.frozen _).trans (by simp [go_sem, *])
  have X2:W2.cell? ⟨w1.heap.size,0,none⟩=some (.int .i64 (q:Int)):=(hA.cell _).trans (by simp [go_sem, *])
  have A0:W2.cell? ⟨W.heap.size,0,none⟩=some (.int .i64 (s k).1):=(hA.cell _).trans (by simp [go_sem, *])
  have A1:W2.cell? ⟨W.heap.size,1,none⟩=some (.int .i64 (s k).2.1):=(hA.cell _).trans (by simp [go_sem, *])
  have A2:W2.cell? ⟨W.heap.size,2,none⟩=some (.bool (s k).2.2.1):=(hA.cell _).trans (by simp [go_sem, *])
  have A3:W2.cell? ⟨W.heap.size,3,none⟩=some (.int .i64 (s k).2.2.2):=(hA.cell _).trans (by simp [go_sem, *])
  have hsA:W2.heap.size=W.heap.size+1:=hA.size.trans (by simp)
  have hAB:Below w.heap.size w W2:=Below.trans bel (hA.below.mono hB2.size)
  clear hA S0 S1 S2 S3 S4 F0 F1 F2 F3 F4 X1
  by_cases c:k=q
  ·subst c
   gi_wp2
   refine⟨?_,rfl,bel,⟨by simp [go_sem, *],by simp [go_sem, *],by simp [go_sem, *],by simp [go_sem, *]⟩,by simp [go_sem, *]⟩
   repeat(first|exact Upper.refl _ _|refine Upper.setCell ?_ (by simp;omega) _)
  ·have c2:((k:Int)==(q:Int))=false:=by simpa using(show ¬ (k:Int)=(q:Int) by omega)
   gi_wp2
   exact⟨c,Below.refl _ _⟩
 case done=>
  intro W hW hG hD
  have S0:=(hW.cell (p:=⟨w.heap.size+1,0,none⟩) lw1).trans R0
  have S1:=(hW.cell (p:=⟨w.heap.size+1,1,none⟩) lw1).trans R1
  have S2:=(hW.cell (p:=⟨w.heap.size+1,2,none⟩) lw1).trans R2
  have S3:=(hW.cell (p:=⟨w.heap.size+1,3,none⟩) lw1).trans R3
  have S4:=(hW.cell (p:=⟨w.heap.size+2,0,none⟩) lw2).trans R4
  have F0:=(hW.frozen (p:=⟨w.heap.size+1,0,none⟩) lw1).trans Z0
  have F1:=(hW.frozen (p:=⟨w.heap.size+1,1,none⟩) lw1).trans Z1
  have F2:=(hW.frozen (p:=⟨w.heap.size+1,2,none⟩) lw1).trans Z2
  have F3:=(hW.frozen (p:=⟨w.heap.size+1,3,none⟩) lw1).trans Z3
  have F4:=(hW.frozen (p:=⟨w.heap.size+2,0,none⟩) lw2).trans Z4
  have hWs:=hW.size
  have q1:w.heap.size+1<W.heap.size:=by omega
  have q2:w.heap.size+2<W.heap.size:=by omega
  have q3:w1.heap.size<W.heap.size:=by omega
  have hWB:Below w.heap.size w W:=hB2.trans (hW.mono hB2.size)
  obtain⟨rfl,rfl⟩:=hR.2 (fun h=>hG q h rfl)
  gi_wp2
  refine lq (by repeat(first|(with_reducible exact hD)|refine(Below.heap_setCell _ _ _ _ (by simp;omega)).trans ?_)) bel (by omega) (fun Y hY=> ?_)
  have T0:Y.cell? ⟨w.heap.size+1,0,none⟩=some (.int .i64 0):=(hY _).trans (by simp [go_sem, *])
  have T1:Y.cell? ⟨w.heap.size+1,1,none⟩=some (.int .i64 0):=(hY _).trans (by simp [go_sem, *])
  have T2:Y.cell? ⟨w.heap.size+1,2,none⟩=some (.bool false):=(hY _).trans (by simp [go_sem, *])
  have T3:Y.cell? ⟨w.heap.size+1,3,none⟩=some (.int .i64 0):=(hY _).trans (by simp [go_sem, *])
  have T4:Y.cell? ⟨w.heap.size+2,0,none⟩=some (.int .i64 2):=(hY _).trans (by simp [go_sem, *])
  simp [results,Tryz.results20,go_sem,T0,T1,T2,T3,T4]
 case stop=>
  rintro k c W hk hG ⟨rfl,rfl,hB,⟨c0,c1,c2,c3⟩,c4⟩ hD
  obtain⟨rfl,rfl⟩:=hR.1 hk
  gi_wp2
  refine lq hD hB (by omega) (fun Y hY=> ?_)
  have T0:Y.cell? ⟨w.heap.size+1,0,none⟩=some (.int .i64 (s k).1):=(hY _).trans c0
  have T1:Y.cell? ⟨w.heap.size+1,1,none⟩=some (.int .i64 (s k).2.1):=(hY _).trans c1
  have T2:Y.cell? ⟨w.heap.size+1,2,none⟩=some (.bool (s k).2.2.1):=(hY _).trans c2
  have T3:Y.cell? ⟨w.heap.size+1,3,none⟩=some (.int .i64 (s k).2.2.2):=(hY _).trans c3
  have T4:Y.cell? ⟨w.heap.size+2,0,none⟩=some (.int .i64 0):=(hY _).trans c4
  simp [results,Tryz.results20,go_sem,T0,T1,T2,T3,T4]
theorem BM(dd:Dt)(n la er:Int)(w:World)(hT:Tab w 7 kevCells)(hL:Tab w 5 lenCells)(h:(er !=0)=true)
  (HC:Hid (∀w:World,Tab w 7 kevCells->Tab w 5 lenCells->Calls Tryo.prog 66 #[.agg #[.int .i64 (dd).1,.int .i64 (dd).2.1,.bool (dd).2.2.1,.int .i64 (dd).2.2.2]] w fun e w'=>e= .returned (.tuple #[.int .i64 la,.int .i64 er])/\Below w.heap.size w w')):
  Calls Tryo.prog 20 #[.agg #[.int .i64 (dd).1,.int .i64 (dd).2.1,.bool (dd).2.2.1,.int .i64 (dd).2.2.2],.int .i64 n] w fun e w'=>e= .returned (.tuple #[.agg #[.int .i64 0,.int .i64 0,.bool false,.int .i64 0],.int .i64 er])/\Below w.heap.size w w':=by
 go_enter Tryo.func20,Tryz.ntmps20
 go_wp2_with fail
 refine(HC.out _ (Tab.below hT bel) (Tab.below hL bel)).mono ?_
 rintro e w1 ⟨rfl,hb1⟩
 obtain⟨hc1,hf1⟩:=aA hb1
 have r0:w1.cell? ⟨w.heap.size+1,0,none⟩=some (.int .i64 0):=(hc1 _ _ (by first|(simp;done)|(simp;omega))).trans (by simp [go_sem])
 have z0:w1.frozen? ⟨w.heap.size+1,0,none⟩=false:=(hf1 _ _ (by first|(simp;done)|(simp;omega))).trans (by simp [go_sem])
 have r1:w1.cell? ⟨w.heap.size+1,1,none⟩=some (.int .i64 0):=(hc1 _ _ (by first|(simp;done)|(simp;omega))).trans (by simp [go_sem])
 have z1:w1.frozen? ⟨w.heap.size+1,1,none⟩=false:=(hf1 _ _ (by first|(simp;done)|(simp;omega))).trans (by simp [go_sem])
 have r2:w1.cell? ⟨w.heap.size+1,2,none⟩=some (.bool false):=(hc1 _ _ (by first|(simp;done)|(simp;omega))).trans (by simp [go_sem])
 have z2:w1.frozen? ⟨w.heap.size+1,2,none⟩=false:=(hf1 _ _ (by first|(simp;done)|(simp;omega))).trans (by simp [go_sem])
 have r3:w1.cell? ⟨w.heap.size+1,3,none⟩=some (.int .i64 0):=(hc1 _ _ (by first|(simp;done)|(simp;omega))).trans (by simp [go_sem])
 have z3:w1.frozen? ⟨w.heap.size+1,3,none⟩=false:=(hf1 _ _ (by first|(simp;done)|(simp;omega))).trans (by simp [go_sem])
 have r4:w1.cell? ⟨w.heap.size+2,0,none⟩=some (.int .i64 0):=(hc1 _ _ (by first|(simp;done)|(simp;omega))).trans (by simp [go_sem])
 have z4:w1.frozen? ⟨w.heap.size+2,0,none⟩=false:=(hf1 _ _ (by first|(simp;done)|(simp;omega))).trans (by simp [go_sem])
 have hB1:Below w.heap.size w w1:=bel
 clear hb1 hc1 hf1
 go_wp2_with fail
 refine bodyPost_ret (v:= .tuple #[.agg #[.int .i64 0,.int .i64 0,.bool false,.int .i64 0],.int .i64 er]) (by simp [results,Tryz.results20,go_sem, *]) rfl ⟨rfl, ?_⟩
 exact bel
theorem BP(dd:Dt)(n la er:Int)(w:World)(hT:Tab w 7 kevCells)(hL:Tab w 5 lenCells)(h:n< -3000)
  (HC:Hid (∀w:World,Tab w 7 kevCells->Tab w 5 lenCells->Calls Tryo.prog 66 #[.agg #[.int .i64 (dd).1,.int .i64 (dd).2.1,.bool (dd).2.2.1,.int .i64 (dd).2.2.2]] w fun e w'=>e= .returned (.tuple #[.int .i64 la,.int .i64 0])/\Below w.heap.size w w')):
  Calls Tryo.prog 20 #[.agg #[.int .i64 (dd).1,.int .i64 (dd).2.1,.bool (dd).2.2.1,.int .i64 (dd).2.2.2],.int .i64 n] w fun e w'=>e= .returned (.tuple #[.agg #[.int .i64 0,.int .i64 0,.bool false,.int .i64 0],.int .i64 1])/\Below w.heap.size w w':=by
 have h1:decide (n< -3000)=true:=by simpa using h
 go_enter Tryo.func20,Tryz.ntmps20
 go_wp2_with fail
 refine(HC.out _ (Tab.below hT bel) (Tab.below hL bel)).mono ?_
 rintro e w1 ⟨rfl,hb1⟩
 obtain⟨hc1,hf1⟩:=aA hb1
 have r0:w1.cell? ⟨w.heap.size+1,0,none⟩=some (.int .i64 0):=(hc1 _ _ (by first|(simp;done)|(simp;omega))).trans (by simp [go_sem])
 have z0:w1.frozen? ⟨w.heap.size+1,0,none⟩=false:=(hf1 _ _ (by first|(simp;done)|(simp;omega))).trans (by simp [go_sem])
 have r1:w1.cell? ⟨w.heap.size+1,1,none⟩=some (.int .i64 0):=(hc1 _ _ (by first|(simp;done)|(simp;omega))).trans (by simp [go_sem])
 have z1:w1.frozen? ⟨w.heap.size+1,1,none⟩=false:=(hf1 _ _ (by first|(simp;done)|(simp;omega))).trans (by simp [go_sem])
 have r2:w1.cell? ⟨w.heap.size+1,2,none⟩=some (.bool false):=(hc1 _ _ (by first|(simp;done)|(simp;omega))).trans (by simp [go_sem])
 have z2:w1.frozen? ⟨w.heap.size+1,2,none⟩=false:=(hf1 _ _ (by first|(simp;done)|(simp;omega))).trans (by simp [go_sem])
 have r3:w1.cell? ⟨w.heap.size+1,3,none⟩=some (.int .i64 0):=(hc1 _ _ (by first|(simp;done)|(simp;omega))).trans (by simp [go_sem])
 have z3:w1.frozen? ⟨w.heap.size+1,3,none⟩=false:=(hf1 _ _ (by first|(simp;done)|(simp;omega))).trans (by simp [go_sem])
 have r4:w1.cell? ⟨w.heap.size+2,0,none⟩=some (.int .i64 0):=(hc1 _ _ (by first|(simp;done)|(simp;omega))).trans (by simp [go_sem])
 have z4:w1.frozen? ⟨w.heap.size+2,0,none⟩=false:=(hf1 _ _ (by first|(simp;done)|(simp;omega))).trans (by simp [go_sem])
 have hB1:Below w.heap.size w w1:=bel
 clear hb1 hc1 hf1
 go_wp2_with fail
 refine bodyPost_ret (v:= .tuple #[.agg #[.int .i64 0,.int .i64 0,.bool false,.int .i64 0],.int .i64 1]) (by simp [results,Tryz.results20,go_sem, *]) rfl ⟨rfl, ?_⟩
 exact bel
theorem Ab(dd:Dt)(n la er:Int)(w:World)(hT:Tab w 7 kevCells)(hL:Tab w 5 lenCells)(h:3000<n)
  (HC:Hid (∀w:World,Tab w 7 kevCells->Tab w 5 lenCells->Calls Tryo.prog 66 #[.agg #[.int .i64 (dd).1,.int .i64 (dd).2.1,.bool (dd).2.2.1,.int .i64 (dd).2.2.2]] w fun e w'=>e= .returned (.tuple #[.int .i64 la,.int .i64 0])/\Below w.heap.size w w')):
  Calls Tryo.prog 20 #[.agg #[.int .i64 (dd).1,.int .i64 (dd).2.1,.bool (dd).2.2.1,.int .i64 (dd).2.2.2],.int .i64 n] w fun e w'=>e= .returned (.tuple #[.agg #[.int .i64 0,.int .i64 0,.bool false,.int .i64 0],.int .i64 1])/\Below w.heap.size w w':=by
 have h0:¬ n< -3000:=by omega
 have h1:decide (n< -3000)=false:=by simpa using h0
 have h2:decide (3000<n)=true:=by simpa using h
 go_enter Tryo.func20,Tryz.ntmps20
 go_wp2_with fail
 refine(HC.out _ (Tab.below hT bel) (Tab.below hL bel)).mono ?_
 rintro e w1 ⟨rfl,hb1⟩
 obtain⟨hc1,hf1⟩:=aA hb1
 have r0:w1.cell? ⟨w.heap.size+1,0,none⟩=some (.int .i64 0):=(hc1 _ _ (by first|(simp;done)|(simp;omega))).trans (by simp [go_sem])
 have z0:w1.frozen? ⟨w.heap.size+1,0,none⟩=false:=(hf1 _ _ (by first|(simp;done)|(simp;omega))).trans (by simp [go_sem])
 have r1:w1.cell? ⟨w.heap.size+1,1,none⟩=some (.int .i64 0):=(hc1 _ _ (by first|(simp;done)|(simp;omega))).trans (by simp [go_sem])
 have z1:w1.frozen? ⟨w.heap.size+1,1,none⟩=false:=(hf1 _ _ (by first|(simp;done)|(simp;omega))).trans (by simp [go_sem])
 have r2:w1.cell? ⟨w.heap.size+1,2,none⟩=some (.bool false):=(hc1 _ _ (by first|(simp;done)|(simp;omega))).trans (by simp [go_sem])
 have z2:w1.frozen? ⟨w.heap.size+1,2,none⟩=false:=(hf1 _ _ (by first|(simp;done)|(simp;omega))).trans (by simp [go_sem])
 have r3:w1.cell? ⟨w.heap.size+1,3,none⟩=some (.int .i64 0):=(hc1 _ _ (by first|(simp;done)|(simp;omega))).trans (by simp [go_sem])
 have z3:w1.frozen? ⟨w.heap.size+1,3,none⟩=false:=(hf1 _ _ (by first|(simp;done)|(simp;omega))).trans (by simp [go_sem])
 have r4:w1.cell? ⟨w.heap.size+2,0,none⟩=some (.int .i64 0):=(hc1 _ _ (by first|(simp;done)|(simp;omega))).trans (by simp [go_sem])
 have z4:w1.frozen? ⟨w.heap.size+2,0,none⟩=false:=(hf1 _ _ (by first|(simp;done)|(simp;omega))).trans (by simp [go_sem])
 have hB1:Below w.heap.size w w1:=bel
 clear hb1 hc1 hf1
 go_wp2_with fail
 refine bodyPost_ret (v:= .tuple #[.agg #[.int .i64 0,.int .i64 0,.bool false,.int .i64 0],.int .i64 1]) (by simp [results,Tryz.results20,go_sem, *]) rfl ⟨rfl, ?_⟩
 exact bel
end
section
open Go.ChangeShapes Go.WideShapes Go.ChangeAt Go.RowKit
attribute [local go_sem] Oper.semAt_some
end
section
open Go.ChangeShapes Go.WideShapes Go.ChangeAt Go.RowKit
end
section
open Go.ChangeShapes Go.WideShapes Go.ChangeAt Go.RowKit
namespace D27
def E(d:Dt):Int:=D10.aB d.1 d.2.1 d.2.2.1 d.2.2.2
def Dv(d:Dt):Int:=D10.aF d.1 d.2.1 d.2.2.1 d.2.2.2
def Ok(f:Int->Dt):Prop:=∀D, -1373427<=D->D<=2278650->E (f D)=0/\Dv (f D)=D
theorem VY:∃f,Ok f:=by
 have h:∀D:Int,∃d:Dt, -1373427<=D->D<=2278650->E d=0/\Dv d=D:=fun D=>by
  by_cases h: -1373427<=D/\D<=2278650
  ·obtain⟨a,b,c,d,h1,h2⟩:=Le h.1 h.2
   exact⟨(a,b,c,d),fun _ _=>⟨h1,h2⟩⟩
  ·exact⟨(0,0,false,0),fun h1 h2=>absurd ⟨h1,h2⟩ h⟩
 exact⟨fun D=>Classical.choose (h D),fun D=>Classical.choose_spec (h D)⟩
theorem bd{d:Dt}(h:E d=0): -1373427<=Dv d/\Dv d<=2278650:=by
 obtain⟨_,b1,b2⟩:=D10.iy _ _ _ _ h
 exact⟨b1,b2⟩
theorem year{d:Dt}(h:E d=0):I64 d.1:=by
 obtain⟨⟨g1,g2,_⟩,_⟩:=D10.bG h
 exact⟨by omega,by omega⟩
theorem same{d e:Dt}(h:E d=0)(h':E e=0)(hD:Dv d=Dv e):d=e:=by
 obtain⟨a,b,c,g⟩:=D10.D9 h h' hD
 exact Prod.ext a (Prod.ext b (Prod.ext c g))
theorem f_at{f:Int->Dt}(hf:Ok f){d:Dt}(h:E d=0):f (Dv d)=d:=by
 obtain⟨b1,b2⟩:=bd h
 obtain⟨a,b⟩:=hf _ b1 b2
 exact same a h b
def stE(d:Dt)(n:Int):Int:=if E d=0 then(if n< -3000∨3000<n then 1 else if -1373427<=Dv d+n/\Dv d+n<=2278650 then 0 else 2)else E d
def stV(f:Int->Dt)(d:Dt)(n:Int):Dt:=if stE d n=0 then f (Dv d+n)else(0,0,false,0)
theorem Va{f:Int->Dt}(hf:Ok f){D:Int}(h1: -1373427<=D)(h2:D+1<=2278650):Ns (f D).1 (f D).2.1 (f D).2.2.1 (f D).2.2.2 (f (D+1)).1 (f (D+1)).2.1 (f (D+1)).2.2.1 (f (D+1)).2.2.2 0:=by
 obtain⟨a,b⟩:=hf D h1 (by omega)
 obtain⟨a',b'⟩:=hf (D+1) (by omega) h2
 exact .inr (.inr ⟨a,rfl,a',by unfold Dv at b b';rw [b,b']⟩)
theorem U2{f:Int->Dt}(hf:Ok f):Ns (f 2278650).1 (f 2278650).2.1 (f 2278650).2.2.1 (f 2278650).2.2.2 0 0 false 0 2:=by
 obtain⟨a,b⟩:=hf 2278650 (by omega) (by omega)
 exact .inr (.inl ⟨a,b,rfl,rfl,rfl,rfl,rfl⟩)
theorem Tc{f:Int->Dt}(hf:Ok f){D:Int}(h1: -1373427<=D-1)(h2:D<=2278650):IX (f D).1 (f D).2.1 (f D).2.2.1 (f D).2.2.2 (f (D-1)).1 (f (D-1)).2.1 (f (D-1)).2.2.1 (f (D-1)).2.2.2 0:=by
 obtain⟨a,b⟩:=hf D (by omega) h2
 obtain⟨a',b'⟩:=hf (D-1) h1 (by omega)
 exact .inr (.inr ⟨a,rfl,a',by unfold Dv at b b';rw [b,b']⟩)
theorem TJ{f:Int->Dt}(hf:Ok f):IX (f (-1373427)).1 (f (-1373427)).2.1 (f (-1373427)).2.2.1 (f (-1373427)).2.2.2 0 0 false 0 2:=by
 obtain⟨a,b⟩:=hf (-1373427) (by omega) (by omega)
 exact .inr (.inl ⟨a,b,rfl,rfl,rfl,rfl,rfl⟩)
def up(f:Int->Dt)(d:Dt)(k:Nat):Dt:=f (Dv d+k)
def dn(f:Int->Dt)(d:Dt)(k:Nat):Dt:=f (Dv d-k)
theorem up_0{f:Int->Dt}(hf:Ok f){d:Dt}(h:E d=0):up f d 0=d:=by
 unfold up
 rw [show Dv d+((0:Nat):Int)=Dv d by omega]
 exact f_at hf h
theorem dn_0{f:Int->Dt}(hf:Ok f){d:Dt}(h:E d=0):dn f d 0=d:=by
 unfold dn
 rw [show Dv d-((0:Nat):Int)=Dv d by omega]
 exact f_at hf h
end D27
theorem Gp{f:Int->Dt}(hf:D27.Ok f){d:Dt}(h:D27.E d=0)(k:Nat)(hk:k<(2278650-D27.Dv d).toNat)(W:World):Tab W 7 kevCells->Tab W 5 lenCells->Calls Tryo.prog 67 #[.agg #[.int .i64 ((D27.up f d k)).1,.int .i64 ((D27.up f d k)).2.1,.bool ((D27.up f d k)).2.2.1,.int .i64 ((D27.up f d k)).2.2.2]] W fun e w'=>e= .returned (.tuple #[.agg #[.int .i64 ((D27.up f d (k+1))).1,.int .i64 ((D27.up f d (k+1))).2.1,.bool ((D27.up f d (k+1))).2.2.1,.int .i64 ((D27.up f d (k+1))).2.2.2],.int .i64 0])/\Below W.heap.size W w':=by
 obtain⟨b1,b2⟩:=D27.bd h
 have e:D27.up f d (k+1)=f (D27.Dv d+k+1):=by
  unfold D27.up
  congr 1
  omega
 rw [e]
 intro hT hL
 exact Du _ _ _ _ W (D27.year (hf _ (by omega) (by omega)).1) hT hL _ _ _ _ _ (D27.Va hf (by omega) (by omega))
theorem Im{f:Int->Dt}(hf:D27.Ok f){d:Dt}(h:D27.E d=0)(W:World):Tab W 7 kevCells->Tab W 5 lenCells->Calls Tryo.prog 67 #[.agg #[.int .i64 ((D27.up f d (2278650-D27.Dv d).toNat)).1,.int .i64 ((D27.up f d (2278650-D27.Dv d).toNat)).2.1,.bool ((D27.up f d (2278650-D27.Dv d).toNat)).2.2.1,.int .i64 ((D27.up f d (2278650-D27.Dv d).toNat)).2.2.2]] W fun e w'=>e= .returned (.tuple #[.agg #[.int .i64 0,.int .i64 0,.bool false,.int .i64 0],.int .i64 2])/\Below W.heap.size W w':=by
 obtain⟨b1,b2⟩:=D27.bd h
 have e:D27.up f d (2278650-D27.Dv d).toNat=f 2278650:=by
  unfold D27.up
  congr 1
  omega
 rw [e]
 intro hT hL
 exact Du _ _ _ _ W (D27.year (hf _ (by omega) (by omega)).1) hT hL _ _ _ _ _ (D27.U2 hf)
theorem FU{f:Int->Dt}(hf:D27.Ok f){d:Dt}(h:D27.E d=0)(k:Nat)(hk:k<(D27.Dv d+1373427).toNat)(W:World):Tab W 7 kevCells->Tab W 5 lenCells->Calls Tryo.prog 68 #[.agg #[.int .i64 ((D27.dn f d k)).1,.int .i64 ((D27.dn f d k)).2.1,.bool ((D27.dn f d k)).2.2.1,.int .i64 ((D27.dn f d k)).2.2.2]] W fun e w'=>e= .returned (.tuple #[.agg #[.int .i64 ((D27.dn f d (k+1))).1,.int .i64 ((D27.dn f d (k+1))).2.1,.bool ((D27.dn f d (k+1))).2.2.1,.int .i64 ((D27.dn f d (k+1))).2.2.2],.int .i64 0])/\Below W.heap.size W w':=by
 obtain⟨b1,b2⟩:=D27.bd h
 have e:D27.dn f d (k+1)=f (D27.Dv d-k-1):=by
  unfold D27.dn
  congr 1
  omega
 rw [e]
 intro hT hL
 exact AZ _ _ _ _ W (D27.year (hf _ (by omega) (by omega)).1) hT hL _ _ _ _ _ (D27.Tc hf (by omega) (by omega))
theorem JU{f:Int->Dt}(hf:D27.Ok f){d:Dt}(h:D27.E d=0)(W:World):Tab W 7 kevCells->Tab W 5 lenCells->Calls Tryo.prog 68 #[.agg #[.int .i64 ((D27.dn f d (D27.Dv d+1373427).toNat)).1,.int .i64 ((D27.dn f d (D27.Dv d+1373427).toNat)).2.1,.bool ((D27.dn f d (D27.Dv d+1373427).toNat)).2.2.1,.int .i64 ((D27.dn f d (D27.Dv d+1373427).toNat)).2.2.2]] W fun e w'=>e= .returned (.tuple #[.agg #[.int .i64 0,.int .i64 0,.bool false,.int .i64 0],.int .i64 2])/\Below W.heap.size W w':=by
 obtain⟨b1,b2⟩:=D27.bd h
 have e:D27.dn f d (D27.Dv d+1373427).toNat=f (-1373427):=by
  unfold D27.dn
  congr 1
  omega
 rw [e]
 intro hT hL
 exact AZ _ _ _ _ W (D27.year (hf _ (by omega) (by omega)).1) hT hL _ _ _ _ _ (D27.TJ hf)
theorem Co{f:Int->Dt}(hf:D27.Ok f)(d:Dt)(n:Int)(w:World)(hd:I64 d.1)(hT:Tab w 7 kevCells)(hL:Tab w 5 lenCells):
  Calls Tryo.prog 20 #[.agg #[.int .i64 (d).1,.int .i64 (d).2.1,.bool (d).2.2.1,.int .i64 (d).2.2.2],.int .i64 n] w fun e w'=>e= .returned (.tuple #[.agg #[.int .i64 ((D27.stV f d n)).1,.int .i64 ((D27.stV f d n)).2.1,.bool ((D27.stV f d n)).2.2.1,.int .i64 ((D27.stV f d n)).2.2.2],.int .i64 (D27.stE d n)])/\Below w.heap.size w w':=by
 have HC:=Lib.hid (fun w hT hL=>qh d.1 d.2.1 d.2.2.1 d.2.2.2 w hd hT hL)
 by_cases hE:D27.E d=0
 ·obtain⟨b1,b2⟩:=D27.bd hE
  rw [show D10.aB d.1 d.2.1 d.2.2.1 d.2.2.2=0 from hE]at HC
  by_cases h1:n< -3000
  ·have es:D27.stE d n=1:=by unfold D27.stE;rw [if_pos hE,if_pos (.inl h1)]
   have ev:D27.stV f d n=(0,0,false,0):=by unfold D27.stV;rw [es];rfl
   rw [es,ev]
   exact BP d n _ 0 w hT hL h1 HC
  by_cases h2:3000<n
  ·have es:D27.stE d n=1:=by unfold D27.stE;rw [if_pos hE,if_pos (.inr h2)]
   have ev:D27.stV f d n=(0,0,false,0):=by unfold D27.stV;rw [es];rfl
   rw [es,ev]
   exact Ab d n _ 0 w hT hL h2 HC
  by_cases h3:0<=n
  ·skip
   have es:D27.stE d n=if D27.Dv d+n<=2278650 then 0 else 2:=by
    unfold D27.stE
    rw [if_pos hE,if_neg (by omega)]
    by_cases c:D27.Dv d+n<=2278650
    ·rw [if_pos c,if_pos ⟨by omega,by omega⟩]
    ·rw [if_neg c,if_neg (by omega)]
   have hm:=En (D27.up f d) (2278650-D27.Dv d).toNat (by omega) n _ w hT hL ⟨by omega,by omega⟩ (by rw [D27.up_0 hf hE];exact HC) (Lib.hid (fun k hk W=>Gp hf hE k hk W)) (Lib.hid (fun W=>Im hf hE W)) (n).toNat (by omega) (D27.stV f d n) (D27.stE d n) ⟨fun hq=> ?_,fun hq=> ?_⟩
   ·rw [D27.up_0 hf hE]at hm
    exact hm
   ·rw [if_pos (by omega)]at es
    refine⟨?_,es⟩
    unfold D27.stV
    rw [es,if_pos rfl]
    unfold D27.up
    congr 1
    omega
   ·rw [if_neg (by omega)]at es
    refine⟨?_,es⟩
    unfold D27.stV
    rw [es]
    rfl
  ·skip
   have es:D27.stE d n=if -1373427<=D27.Dv d+n then 0 else 2:=by
    unfold D27.stE
    rw [if_pos hE,if_neg (by omega)]
    by_cases c: -1373427<=D27.Dv d+n
    ·rw [if_pos c,if_pos ⟨by omega,by omega⟩]
    ·rw [if_neg c,if_neg (by omega)]
   have hm:=AR (D27.dn f d) (D27.Dv d+1373427).toNat (by omega) n _ w hT hL ⟨by omega,by omega⟩ (by rw [D27.dn_0 hf hE];exact HC) (Lib.hid (fun k hk W=>FU hf hE k hk W)) (Lib.hid (fun W=>JU hf hE W)) (-n).toNat (by omega) (D27.stV f d n) (D27.stE d n) ⟨fun hq=> ?_,fun hq=> ?_⟩
   ·rw [D27.dn_0 hf hE]at hm
    exact hm
   ·rw [if_pos (by omega)]at es
    refine⟨?_,es⟩
    unfold D27.stV
    rw [es,if_pos rfl]
    unfold D27.dn
    congr 1
    omega
   ·rw [if_neg (by omega)]at es
    refine⟨?_,es⟩
    unfold D27.stV
    rw [es]
    rfl
 ·have es:D27.stE d n=D27.E d:=by unfold D27.stE;rw [if_neg hE]
  have ev:D27.stV f d n=(0,0,false,0):=by unfold D27.stV;rw [es,if_neg hE]
  rw [es,ev]
  exact BM d n _ _ w hT hL (by simpa using hE) HC
end
end Go.Proofs.YthnjjcoahdhmnaaGreatDoor
