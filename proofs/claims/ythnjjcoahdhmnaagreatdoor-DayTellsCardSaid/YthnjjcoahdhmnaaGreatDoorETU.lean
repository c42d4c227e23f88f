import Derived.Test.YthnjjcoahdhmnaaGreatDoorERC
import Derived.Test.YthnjjcoahdhmnaaGreatDoorETJ
import Derived.Test.YthnjjcoahdhmnaaGreatDoorERB
import Derived.Test.YthnjjcoahdhmnaaGreatDoorERA
import Derived.Test.YthnjjcoahdhmnaaGreatDoorEBB
set_option maxHeartbeats 8000000
set_option maxRecDepth 100000
set_option linter.unusedSimpArgs false
set_option linter.unusedVariables false
namespace Go.Proofs.YthnjjcoahdhmnaaGreatDoor
section
open Go.ChangeShapes Go.WideShapes Go.ChangeAt Go.RowKit Go.Lib Go.Sort Go.Shelf
theorem N9(D pl y er:Int)(w:World)(her:er≠0)(HC:Hid (∀w:World,Calls Tryo.prog 100 #[.int .i64 D,.int .i64 pl] w fun e w'=>e= .returned (.tuple #[.int .i64 y,.int .i64 er])/\Below w.heap.size w w')):
  Calls Tryo.prog 37 #[.int .i64 D,.int .i64 pl] w fun e w'=>e= .returned (.tuple #[.agg #[.int .i64 0,.int .i64 0,.int .i64 0],.int .i64 er])/\Below w.heap.size w w':=by
 have d0:decide (er=0)=false:=decide_eq_false her
 go_enter Tryo.func37,Tryz.ntmps37
 go_wp2_with fail
 refine(HC.out _).mono ?_
 rintro e w1 ⟨rfl,hb1⟩
 have hB1:Below w.heap.size w w1:=bel
 obtain⟨hc1,hf1⟩:=aA hb1
 have hz1:=hb1.size
 simp at hz1
 have g1:w1.cell? ⟨w.heap.size,0,none⟩=some (.int .i64 0):=(hc1 _ _ (by simp)).trans (by simp [go_sem])
 have g2:w1.cell? ⟨w.heap.size,1,none⟩=some (.int .i64 0):=(hc1 _ _ (by simp)).trans (by simp [go_sem])
 have g3:w1.cell? ⟨w.heap.size,2,none⟩=some (.int .i64 0):=(hc1 _ _ (by simp)).trans (by simp [go_sem])
 have g4:∀i,w1.frozen? ⟨w.heap.size,i,none⟩=false:=fun i=>(hf1 _ _ (by simp)).trans (by simp [go_sem])
 clear hc1 hf1
 go_wp2_with fail
 refine bodyPost_ret (v:= .tuple #[.agg #[.int .i64 0,.int .i64 0,.int .i64 0],.int .i64 er]) (by simp [results,Tryz.results37,go_sem, *]) rfl ?_
 refine⟨rfl, ?_⟩
 exact bel
theorem Rz(D pl y r6:Int)(w:World)(h6:D % 7=r6)(hr:r6≠6)(HC:Hid (∀w:World,Calls Tryo.prog 100 #[.int .i64 D,.int .i64 pl] w fun e w'=>e= .returned (.tuple #[.int .i64 y,.int .i64 0])/\Below w.heap.size w w'))(HWd:Hid (∀w:World,Calls Tryo.prog 34 #[.int .i64 D] w fun e w'=>e= .returned (.int .i64 (D % 7))/\w=w')):
  Calls Tryo.prog 37 #[.int .i64 D,.int .i64 pl] w fun e w'=>e= .returned (.tuple #[.agg #[.int .i64 0,.int .i64 0,.int .i64 0],.int .i64 4])/\Below w.heap.size w w':=by
 rw [h6]at HWd
 have d6:decide (r6=6)=false:=decide_eq_false hr
 go_enter Tryo.func37,Tryz.ntmps37
 go_wp2_with fail
 refine(HC.out _).mono ?_
 rintro e w1 ⟨rfl,hb1⟩
 have hB1:Below w.heap.size w w1:=bel
 obtain⟨hc1,hf1⟩:=aA hb1
 have hz1:=hb1.size
 simp at hz1
 have g1:w1.cell? ⟨w.heap.size,0,none⟩=some (.int .i64 0):=(hc1 _ _ (by simp)).trans (by simp [go_sem])
 have g2:w1.cell? ⟨w.heap.size,1,none⟩=some (.int .i64 0):=(hc1 _ _ (by simp)).trans (by simp [go_sem])
 have g3:w1.cell? ⟨w.heap.size,2,none⟩=some (.int .i64 0):=(hc1 _ _ (by simp)).trans (by simp [go_sem])
 have g4:∀i,w1.frozen? ⟨w.heap.size,i,none⟩=false:=fun i=>(hf1 _ _ (by simp)).trans (by simp [go_sem])
 clear hc1 hf1
 go_wp2_with fail
 refine(HWd.out _).mono ?_
 rintro e w' ⟨rfl,rfl⟩
 go_wp2_with fail
 refine bodyPost_ret (v:= .tuple #[.agg #[.int .i64 0,.int .i64 0,.int .i64 0],.int .i64 4]) (by simp [results,Tryz.results37,go_sem, *]) rfl ?_
 refine⟨rfl, ?_⟩
 exact bel
theorem OY(D pl y r1 r2:Int)(L:List Rd)(n:Nat)(w:World)(hl:L.length=n)(hn:n<=100)(h6:D % 7=6)(HX:Hid (L.find? (Rd.kr D)=some (r1,r2,D)))(HC:Hid (∀w:World,Calls Tryo.prog 100 #[.int .i64 D,.int .i64 pl] w fun e w'=>e= .returned (.tuple #[.int .i64 y,.int .i64 0])/\Below w.heap.size w w'))(HWd:Hid (∀w:World,Calls Tryo.prog 34 #[.int .i64 D] w fun e w'=>e= .returned (.int .i64 (D % 7))/\w=w'))(HY:Hid (∀w:World,Calls Tryo.prog 101 #[.int .i64 y,.int .i64 pl] w fun e w'=>∃v,e= .returned (.tuple #[v,.int .i64 0])/\Rd.Own w' w.heap.size v L/\Below w.heap.size w w')):
  Calls Tryo.prog 37 #[.int .i64 D,.int .i64 pl] w fun e w'=>e= .returned (.tuple #[.agg #[.int .i64 r1,.int .i64 r2,.int .i64 D],.int .i64 0])/\Below w.heap.size w w':=by
 rw [h6]at HWd
 go_enter Tryo.func37,Tryz.ntmps37
 go_wp2_with fail
 refine(HC.out _).mono ?_
 rintro e w1 ⟨rfl,hb1⟩
 have hB1:Below w.heap.size w w1:=bel
 obtain⟨hc1,hf1⟩:=aA hb1
 have hz1:=hb1.size
 simp at hz1
 have g1:w1.cell? ⟨w.heap.size,0,none⟩=some (.int .i64 0):=(hc1 _ _ (by simp)).trans (by simp [go_sem])
 have g2:w1.cell? ⟨w.heap.size,1,none⟩=some (.int .i64 0):=(hc1 _ _ (by simp)).trans (by simp [go_sem])
 have g3:w1.cell? ⟨w.heap.size,2,none⟩=some (.int .i64 0):=(hc1 _ _ (by simp)).trans (by simp [go_sem])
 have g4:∀i,w1.frozen? ⟨w.heap.size,i,none⟩=false:=fun i=>(hf1 _ _ (by simp)).trans (by simp [go_sem])
 clear hc1 hf1
 go_wp2_with fail
 refine(HWd.out _).mono ?_
 rintro e w' ⟨rfl,rfl⟩
 go_wp2_with fail
 refine(HY.out _).mono ?_
 rintro e w2 ⟨v2,rfl,ho2,hb2⟩
 have hr:=ho2.row
 obtain⟨p2,c2,rfl⟩:=hr.len
 rw [hl]
 have HN:=Lib.hid hl
 have hB12:Below w1.heap.size w1 w2:=bel
 have hB2:Below w.heap.size w w2:=bt hB1 hB12
 have k1:=(hB12.cell (p:=⟨w.heap.size,0,none⟩) (by show w.heap.size<_;omega)).trans g1
 have k2:=(hB12.cell (p:=⟨w.heap.size,1,none⟩) (by show w.heap.size<_;omega)).trans g2
 have k3:=(hB12.cell (p:=⟨w.heap.size,2,none⟩) (by show w.heap.size<_;omega)).trans g3
 have k4:∀i,w2.frozen? ⟨w.heap.size,i,none⟩=false:=fun i=>(hB12.frozen (p:=⟨w.heap.size,i,none⟩) (by show w.heap.size<_;omega)).trans (g4 i)
 have hz2:=hB12.size
 clear ho2 HY HC hl g1 g2 g3 g4
 have HK1:=Lib.hid k1
 have HK2:=Lib.hid k2
 have HK3:=Lib.hid k3
 have HK4:=Lib.hid k4
 clear k1 k2 k3 k4
 go_wp2_with fail
 go_loopw [10] (fun i wr=>∃j:Nat,j<=n/\i= .int .i64 (j:Int)/\Hid ((L.take j).find? (Rd.kr D)=none)/\Below w2.heap.size w2 wr) (fun i _=>n-(intOf i).toNat)
 case atStart=>exact⟨0,Nat.zero_le _,rfl,Lib.hid rfl,bel⟩
 case round=>
  obtain⟨j,hj,rfl,HG,hB⟩:=hrel
  obtain⟨w9,rfl⟩:∃x,x=wr:=⟨_,rfl⟩
  have hBw:Below w.heap.size w w9:=bt hB2 hB
  have hs9:=hB.size
  by_cases hlt:j<n
  ·obtain⟨x,hx⟩:∃x,L[j]? =some x:=⟨_,List.getElem?_eq_getElem (by rw [HN.out];exact hlt)⟩
   obtain⟨x1,x2,x3⟩:=x
   obtain⟨b,off,cc,hp1,hc⟩:=(hr.below hB).bH (by rw [HN.out];omega)
   rw [HN.out]at hp1
   simp only [Value.slice.injEq]at hp1
   obtain⟨rfl,_,rfl⟩:=hp1
   obtain⟨cx1,cx2,cx3⟩:=Rd.dW hc j (x1,x2,x3) hx
   have lx:=World.block_lt_of_cell? _ _ cx1
   dsimp only at lx cx1 cx2 cx3
   have j0:(0:Int)<=(j:Int):=by omega
   have j1:(j:Int)<(n:Int):=by omega
   have k1:=(hB.cell (p:=⟨w.heap.size,0,none⟩) (by show w.heap.size<_;omega)).trans HK1.out
   have k2:=(hB.cell (p:=⟨w.heap.size,1,none⟩) (by show w.heap.size<_;omega)).trans HK2.out
   have k3:=(hB.cell (p:=⟨w.heap.size,2,none⟩) (by show w.heap.size<_;omega)).trans HK3.out
   have k4:∀i,w9.frozen? ⟨w.heap.size,i,none⟩=false:=fun i=>(hB.frozen (p:=⟨w.heap.size,i,none⟩) (by show w.heap.size<_;omega)).trans (HK4.out i)
   have lg:w.heap.size<w9.heap.size:=by omega
   by_cases c:x3=D
   ·have HH:=Lib.hid (Rd.zy (Rd.kr D) L j (x1,x2,x3) hx HG.out (by simp [Rd.kr,c]))
    subst c
    have e1:x1=r1/\x2=r2:=by have h1:=HX.out;rw [HH.out]at h1;simpa using h1
    obtain⟨rfl,rfl⟩:=e1
    clear hc hx HG
    go_wp2_with fail
    refine bodyPost_ret (v:= .tuple #[.agg #[.int .i64 x1,.int .i64 x2,.int .i64 x3],.int .i64 0]) (by simp [results,Tryz.results37,go_sem, *]) rfl ?_
    refine⟨rfl, ?_⟩
    exact bel
   ·have HH:=Lib.hid (Rd.nS (Rd.kr D) L j (x1,x2,x3) hx HG.out (by simpa [Rd.kr]using c))
    clear hc hx k1 k2 k3 k4
    have c3:decide (x3=D)=false:=decide_eq_false c
    go_wp2_with fail
    go_roundw
    case rel=>exact⟨j+1,by omega,by go_num,HH,bel⟩
    case measure=>simp [intOf];omega
  ·exfalso
   have h1:=HG.out
   rw [List.take_of_length_le (by rw [HN.out];omega)]at h1
   rw [HX.out]at h1
   cases h1
end
section
open Go.ChangeShapes Go.WideShapes Go.ChangeAt Go.RowKit Go.Lib Go.Sort Go.Shelf
end
section
open Go.ChangeShapes Go.WideShapes Go.ChangeAt Go.RowKit Go.Lib Go.Sort Go.Shelf
theorem JY(v:Value)(l:List Int)(x:Int)(n:Nat)(w:World)(hr:Il.Row w v l)(hl:l.length=n)(hn:n<=1000):
  Calls Tryo.prog 172 #[v,.int .i64 x] w fun e w'=>e= .returned (.bool (decide (x∈l)))/\Below w.heap.size w w':=by
 obtain⟨p1,c1,rfl⟩:=hr.len
 rw [hl]
 have HN:=Lib.hid hl
 clear hl
 go_enter Tryo.func172,Tryz.ntmps172
 go_wp2_with fail
 go_loopw [5] (fun i wr=>∃j:Nat,j<=n/\i= .int .i64 (j:Int)/\Hid (x ∉ l.take j)/\Below w.heap.size w wr) (fun i _=>n-(intOf i).toNat)
 case atStart=>exact⟨0,Nat.zero_le _,rfl,Lib.hid (by simp),bel⟩
 case round=>
  obtain⟨j,hj,rfl,HG,hB⟩:=hrel
  by_cases hlt:j<n
  ·obtain⟨y,hy⟩:∃x,l[j]? =some x:=⟨_,List.getElem?_eq_getElem (by rw [HN.out];exact hlt)⟩
   obtain⟨b,off,cc,hp1,hc⟩:=(hr.below hB).bH (by rw [HN.out];omega)
   rw [HN.out]at hp1
   simp only [Value.slice.injEq]at hp1
   obtain⟨rfl,_,rfl⟩:=hp1
   have cx1:=hc j y hy
   have lx:=World.block_lt_of_cell? _ _ cx1
   dsimp only at lx cx1
   have j0:(0:Int)<=(j:Int):=by omega
   have j1:(j:Int)<(n:Int):=by omega
   have HM:=Lib.hid (show y∈l from List.mem_of_getElem? hy)
   have HT:=Lib.hid (show l.take (j+1)=l.take j++ [y] by rw [List.take_add_one,hy];rfl)
   clear hc hy
   by_cases c:y=x
   ·subst c
    go_wp2_with fail
    go_ret
    refine⟨?_,bel⟩
    rw [decide_eq_true HM.out]
    rfl
   ·have HC:=Lib.hid c
    have c2:decide (y=x)=false:=decide_eq_false c
    go_wp2_with fail
    go_roundw
    case rel=>exact⟨j+1,by omega,by go_num,Lib.hid (by rw [HT.out];have h1:=HG.out;have h2:=HC.out;simp [h1];exact fun h=>h2 h.symm),bel⟩
    case measure=>simp [intOf];omega
  ·obtain rfl:j=n:=by omega
   clear hlt
   go_wp2_with fail
   go_ret
   refine⟨?_,bel⟩
   have h1:=HG.out
   rw [List.take_of_length_le (by rw [HN.out];exact Nat.le_refl _)]at h1
   rw [decide_eq_false h1]
   rfl
theorem lM(f:Int)(J:List Int)(b:Nat)(w:World)(hJ:J.length<=100)(hf: -1000<=f/\f<=1000)(hcs:∀ (j:Nat) x,J[j]? =some x->w.cell? ⟨b,j,none⟩=some (.int .i64 x)):
  Calls Tryo.prog 220 #[.int .i64 f,.slice (some ⟨b,0,none⟩) J.length J.length] w fun e w'=>∃v,e= .returned v/\Il.Row w v (J.take f.toNat)/\w=w':=by
 have HC:=Lib.hid hcs
 clear hcs
 by_cases c:f<=0
 ·have d1:decide (f<=0)=true:=decide_eq_true c
  have h0:=Lib.hid (show f.toNat=0 by omega)
  go_enter Tryo.func220,Tryz.ntmps220
  go_wp2_with fail
  go_ret
  exact⟨_,rfl,by rw [h0.out];exact .inl ⟨rfl,rfl⟩,rfl⟩
 ·have d1:decide (f<=0)=false:=decide_eq_false c
  obtain⟨M,hM⟩:∃M:Nat,M=(min f (J.length:Int)).toNat:=⟨_,rfl⟩
  have hM2:min f (J.length:Int)=(M:Int):=by omega
  have HM:=Lib.hid hM2
  have hm:(M:Int)<=(J.length:Int):=by omega
  have h0:(0:Int)<=(M:Int):=by omega
  have hS:∀W,(Instr.slice 30 (.slice (some ⟨b,0,none⟩) J.length J.length) none (some (.int .i64 (M:Int))) none).run Tryo.prog W= .ok (.slice (some ⟨b,0,none⟩) M J.length) W:=fun W=>by simp [Instr.slice,go_sem,hm,h0]
  clear hM
  go_enter Tryo.func220,Tryz.ntmps220
  go_wp2_with fail
  go_ret
  have h1:=HM.out
  refine⟨_,rfl,.inr ⟨b,0,J.length, ?_,fun j x hj=> ?_⟩,rfl⟩
  ·have e:(J.take f.toNat).length=M:=by rw [List.length_take];omega
   rw [e]
   rfl
  ·rw [Nat.zero_add]
   refine HC.out j x ?_
   rw [List.getElem?_take]at hj
   split at hj
   ·exact hj
   ·cases hj
end
section
open Go.ChangeShapes Go.WideShapes Go.ChangeAt Go.RowKit Go.Lib Go.Sort Go.Shelf
end
section
open Go.ChangeShapes Go.WideShapes Go.ChangeAt Go.RowKit Go.Lib Go.Sort Go.Shelf
namespace Rd
def rst(F T:List Int)(s:Int×List Rd)(d:Int):Int×List Rd:=if d∈F then(s.1+many T s.1,s.2++ [(s.1,many T s.1,d)])else(s.1,s.2++ [(0,0,d)])
def Jm(F T ds:List Int):Int×List Rd:=ds.foldl (rst F T) (1,[])
theorem Ve(F T ds:List Int)(j:Nat)(d:Int)(hd:ds[j]? =some d):Jm F T (ds.take (j+1))=rst F T (Jm F T (ds.take j)) d:=by
 unfold Jm
 rw [List.take_add_one,hd,List.foldl_append]
 rfl
end Rd
theorem FM(y pl:Int)(ds F T:List Int)(C:Value)(n nf nt:Nat)(w:World)(hl:ds.length=n)(hf:F.length=nf)(ht:T.length=nt)(hn:n<=100)(hnf:nf<=100)(hnt:nt<=100)
  (HA:Hid (∀w:World,Calls Tryo.prog 168 #[.int .i64 y,.int .i64 pl] w fun e w'=>∃v,e= .returned (.tuple #[v,.int .i64 0])/\Il.Own w' w.heap.size v ds/\Below w.heap.size w w'))
  (HF:Hid (∀w:World,Calls Tryo.prog 169 #[.int .i64 y,.int .i64 pl] w fun e w'=>∃v,e= .returned (.tuple #[v,.int .i64 0])/\Il.Own w' w.heap.size v F/\Below w.heap.size w w'))
  (HC:Hid (∀ (v:Value) (w:World),Il.Row w v F->Calls Tryo.prog 171 #[.int .i64 y,v] w fun e w'=>e= .returned C/\Below w.heap.size w w'))
  (HP:Hid (∀w:World,Calls Tryo.prog 170 #[.int .i64 y,C] w fun e w'=>∃v,e= .returned v/\Il.Own w' w.heap.size v T/\Below w.heap.size w w')):
  Calls Tryo.prog 101 #[.int .i64 y,.int .i64 pl] w fun e w'=>∃v,e= .returned (.tuple #[v,.int .i64 0])/\Rd.Own w' w.heap.size v (Rd.Jm F T ds).2/\Below w.heap.size w w':=by
 obtain⟨r0,hri,hrz0,hrz1,hrz2⟩:=info_parts Rd.info
 go_enter Tryo.func101,Tryz.ntmps101
 go_wp2_with fail
 refine(HA.out _).mono ?_
 rintro e w1 ⟨v1,rfl,ho1,hb1⟩
 have hB1:Below w.heap.size w w1:=bel
 go_wp2_with fail
 refine(HF.out _).mono ?_
 rintro e w2 ⟨v2,rfl,ho2,hb2⟩
 have hB2:Below w1.heap.size w1 w2:=bel
 go_wp2_with fail
 refine(HC.out _ _ ho2.row).mono ?_
 rintro e w3 ⟨rfl,hb3⟩
 go_wp2_with fail
 refine(HP.out _).mono ?_
 rintro e w5 ⟨v5,rfl,ho5,hb5⟩
 have hB25:Below w2.heap.size w2 w5:=bel
 have hB5:Below w.heap.size w w5:=bt (bt hB1 hB2) hB25
 have hr1:=(ho1.row.below hB2).below hB25
 have hr2:=ho2.row.below hB25
 have hr5:=ho5.row
 obtain⟨p1,c1,rfl⟩:=hr1.len
 rw [hl]
 have HN:=Lib.hid hl
 have HCF:=Lib.hid (fun(D:Int) (W:World) (hW:Below w5.heap.size w5 W)=>JY v2 F D nf W (hr2.below hW) hf (by omega))
 have HCT:=Lib.hid (fun(D:Int) (W:World) (hW:Below w5.heap.size w5 W)=>JY v5 T D nt W (hr5.below hW) ht (by omega))
 obtain⟨p2,m2,c2,rfl⟩:∃p m c,v2= .slice p m c:=⟨_,_,_,hr2.len.choose_spec.choose_spec⟩
 obtain⟨p5,m5,c5,rfl⟩:∃p m c,v5= .slice p m c:=⟨_,_,_,hr5.len.choose_spec.choose_spec⟩
 clear ho1 ho2 ho5 HA HF HC HP hl hf ht hr2 hr5
 go_wp2_with fail
 go_loopw [11,12,13] (fun v b i wr=>∃ (j:Nat) (nx:Int) (S:List Rd),j<=n/\i= .int .i64 (j:Int)/\b= .int .i64 nx/\(1<=nx/\nx<=1+2*(j:Int))/\Hid (Rd.Jm F T (ds.take j)=(nx,S))/\S.length=j/\Rd.Own wr w5.heap.size v S/\Below w5.heap.size w5 wr) (fun _ _ i _=>n-(intOf i).toNat)
 case atStart=>exact⟨0,1,[],Nat.zero_le _,rfl,rfl,by omega,Lib.hid rfl,rfl,Rd.Own.nil _ _,bel⟩
 case round=>
  obtain⟨j,nx,S,hj,rfl,rfl,hnx,HR,hlen,HO,hB⟩:=hrel
  obtain⟨w9,rfl⟩:∃x,x=wr:=⟨_,rfl⟩
  have hs9:=hB.size
  by_cases hlt:j<n
  ·obtain⟨D,hx⟩:∃x,ds[j]? =some x:=⟨_,List.getElem?_eq_getElem (by rw [HN.out];exact hlt)⟩
   have HX:=Lib.hid (Rd.Ve F T ds j D hx)
   obtain⟨b,off,cc,hp1,hc⟩:=(hr1.below hB).bH (by rw [HN.out];omega)
   rw [HN.out]at hp1
   simp only [Value.slice.injEq]at hp1
   obtain⟨rfl,_,rfl⟩:=hp1
   have cx1:=hc j D hx
   have lx:=World.block_lt_of_cell? _ _ cx1
   dsimp only at lx cx1
   have j0:(0:Int)<=(j:Int):=by omega
   have j1:(j:Int)<(n:Int):=by omega
   have HXS:=Lib.hid (fun(W:World) (hW:Below w9.heap.size w9 W)=>(show W.ownsRow w5.heap.size 32 3 u11 S.length (Rd.flat S)from Rd.Own.below HO hW))
   clear hc hx
   go_wp2_with fail
   refine(HCF.out D _ bel).mono ?_
   rintro e w6 ⟨rfl,hb6⟩
   have hz6:=hb6.size
   simp at hz6
   have lg6:w9.heap.size<w6.heap.size:=by omega
   have HB6:Below w9.heap.size w9 w6:=bel
   by_cases cF:D∈F
   ·rw [decide_eq_true cF]
    have HIN:=Lib.hid cF
    clear cF
    have w6c0:w6.cell? ⟨w9.heap.size,0,none⟩=some (.int .i64 0):=((aA hb6).1 _ _ (by simp)).trans (by simp [go_sem, *])
    have w6c1:w6.cell? ⟨w9.heap.size,1,none⟩=some (.int .i64 0):=((aA hb6).1 _ _ (by simp)).trans (by simp [go_sem, *])
    have w6c2:w6.cell? ⟨w9.heap.size,2,none⟩=some (.int .i64 D):=((aA hb6).1 _ _ (by simp)).trans (by simp [go_sem, *])
    have w6f:∀i,w6.frozen? ⟨w9.heap.size,i,none⟩=false:=fun i=>((aA hb6).2 _ _ (by simp)).trans (by simp [go_sem, *])
    go_wp2_with fail
    refine(HCT.out nx _ bel).mono ?_
    rintro e w8 ⟨rfl,hb8⟩
    have hz8:=hb8.size
    simp [World.setCell]at hz8
    have lg8:w9.heap.size<w8.heap.size:=by omega
    have HB8:Below w9.heap.size w9 w8:=bel
    have e1:wrap64 (nx+1)=nx+1:=IntWalk.wrap64_in _ ⟨by omega,by omega⟩
    have e2:wrap64 (nx+2)=nx+2:=IntWalk.wrap64_in _ ⟨by omega,by omega⟩
    have w8c0:w8.cell? ⟨w9.heap.size,0,none⟩=some (.int .i64 nx):=((aA hb8).1 _ _ (by simp [World.setCell];omega)).trans (by simp [go_sem, *])
    have w8c1:w8.cell? ⟨w9.heap.size,1,none⟩=some (.int .i64 1):=((aA hb8).1 _ _ (by simp [World.setCell];omega)).trans (by simp [go_sem, *])
    have w8c2:w8.cell? ⟨w9.heap.size,2,none⟩=some (.int .i64 D):=((aA hb8).1 _ _ (by simp [World.setCell];omega)).trans (by simp [go_sem, *])
    have w8f:∀i,w8.frozen? ⟨w9.heap.size,i,none⟩=false:=fun i=>((aA hb8).2 _ _ (by simp [World.setCell];omega)).trans (by simp [go_sem, *])
    clear w6c0 w6c1 w6c2 w6f
    by_cases cT:nx∈T
    ·rw [decide_eq_true cT]
     have HIT:=Lib.hid cT
     clear cT
     have hsz:(w8.setCell ⟨w9.heap.size,1,none⟩ (.int .i64 2)).heap.size=w8.heap.size:=by simp [World.setCell]
     have HNW:=Lib.hid (Rd.news (w8.setCell ⟨w9.heap.size,1,none⟩ (.int .i64 2)) nx 2 D)
     rw [hsz]at HNW
     go_wp2_with (at_builtin;go_loud (refine wpList_append_own_at _ rfl (.tmp 63) (.tmp 65) 118 rfl w5.heap.size 32 r0 (.agg #[.int .i64 0,.int .i64 0,.int .i64 0]) 3 24 (aI Tryz.underlying118) hri hrz0 hrz1 hrz2 rfl (by decide) u11 S.length (Rd.flat S) rfl (World.ownsRow.alloc (HXS.out _ bel) _) ⟨w8.heap.size,0,none⟩ 1 1 [.int .i64 nx,.int .i64 2,.int .i64 D] rfl rfl HNW.out (Rd.one _ _ _) (by simp only [maxLen];omega) (by omega) (by first|assumption|(simp;omega)|(simp [World.setCell];omega)|omega) ?_;intro v7 w7 hown7 hgrow7 _ hblk7))
     go_roundw
     case rel=>exact⟨j+1,nx+2,S++ [(nx,2,D)],by omega,by go_num,rfl,by omega,Lib.hid (by rw [HX.out,HR.out];simp [Rd.rst,Rd.many,HIN.out,HIT.out]),by simp [hlen],Rd.aM rfl hown7,aB bel hgrow7 (fun k e=>(World.ownsRow.lt HO k e).1)⟩
     case measure=>simp [intOf];omega
    ·rw [decide_eq_false cT]
     have HIT:=Lib.hid cT
     clear cT
     go_wp2_with (at_builtin;go_loud (refine wpList_append_own_at _ rfl (.tmp 63) (.tmp 65) 118 rfl w5.heap.size 32 r0 (.agg #[.int .i64 0,.int .i64 0,.int .i64 0]) 3 24 (aI Tryz.underlying118) hri hrz0 hrz1 hrz2 rfl (by decide) u11 S.length (Rd.flat S) rfl (World.ownsRow.alloc (HXS.out _ bel) _) _ 1 1 [.int .i64 _,.int .i64 _,.int .i64 _] rfl rfl (Rd.news _ _ _ _) (Rd.one _ _ _) (by simp only [maxLen];omega) (by omega) (by first|assumption|(simp;omega)|(simp [World.setCell];omega)|omega) ?_;intro v7 w7 hown7 hgrow7 _ hblk7))
     go_roundw
     case rel=>exact⟨j+1,nx+1,S++ [(nx,1,D)],by omega,by go_num,rfl,by omega,Lib.hid (by rw [HX.out,HR.out];simp [Rd.rst,Rd.many,HIN.out,HIT.out]),by simp [hlen],Rd.aM rfl hown7,aB bel hgrow7 (fun k e=>(World.ownsRow.lt HO k e).1)⟩
     case measure=>simp [intOf];omega
   ·rw [decide_eq_false cF]
    have HIN:=Lib.hid cF
    clear cF
    have w6c0:w6.cell? ⟨w9.heap.size,0,none⟩=some (.int .i64 0):=((aA hb6).1 _ _ (by simp)).trans (by simp [go_sem, *])
    have w6c1:w6.cell? ⟨w9.heap.size,1,none⟩=some (.int .i64 0):=((aA hb6).1 _ _ (by simp)).trans (by simp [go_sem, *])
    have w6c2:w6.cell? ⟨w9.heap.size,2,none⟩=some (.int .i64 D):=((aA hb6).1 _ _ (by simp)).trans (by simp [go_sem, *])
    have w6f:∀i,w6.frozen? ⟨w9.heap.size,i,none⟩=false:=fun i=>((aA hb6).2 _ _ (by simp)).trans (by simp [go_sem, *])
    go_wp2_with (at_builtin;go_loud (refine wpList_append_own_at _ rfl (.tmp 63) (.tmp 65) 118 rfl w5.heap.size 32 r0 (.agg #[.int .i64 0,.int .i64 0,.int .i64 0]) 3 24 (aI Tryz.underlying118) hri hrz0 hrz1 hrz2 rfl (by decide) u11 S.length (Rd.flat S) rfl (World.ownsRow.alloc (HXS.out w6 bel) _) ⟨w6.heap.size,0,none⟩ 1 1 [.int .i64 _,.int .i64 _,.int .i64 _] rfl rfl (Rd.news _ _ _ _) (Rd.one _ _ _) (by simp only [maxLen];omega) (by omega) (by first|assumption|(simp;omega)|omega) ?_;intro v7 w7 hown7 hgrow7 _ hblk7))
    go_roundw
    case rel=>exact⟨j+1,nx,S++ [(0,0,D)],by omega,by go_num,rfl,by omega,Lib.hid (by rw [HX.out,HR.out];simp [Rd.rst,HIN.out]),by simp [hlen],Rd.aM rfl hown7,aB bel hgrow7 (fun k e=>(World.ownsRow.lt HO k e).1)⟩
    case measure=>simp [intOf];omega
  ·obtain rfl:j=n:=by omega
   have HT:=Lib.hid (show ds.take j=ds from List.take_of_length_le (by rw [HN.out];exact Nat.le_refl _))
   clear hlt
   go_wp2_with fail
   go_ret2
   refine⟨_,rfl, ?_,bt hB5 hB⟩
   rw [←HT.out,HR.out]
   exact HO.base hB5.size
end
end Go.Proofs.YthnjjcoahdhmnaaGreatDoor
