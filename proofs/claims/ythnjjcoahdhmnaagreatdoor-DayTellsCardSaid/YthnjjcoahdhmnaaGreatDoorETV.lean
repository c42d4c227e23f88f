import Derived.Test.YthnjjcoahdhmnaaGreatDoorETU
import Derived.Test.YthnjjcoahdhmnaaGreatDoorETJ
import Derived.Laws.AppendOwnNone
set_option maxHeartbeats 8000000
set_option maxRecDepth 100000
set_option linter.unnecessarySimpa false
set_option linter.unusedSimpArgs false
set_option linter.unusedVariables false
namespace Go.Proofs.YthnjjcoahdhmnaaGreatDoor
section
open Go.ChangeShapes Go.WideShapes Go.ChangeAt Go.RowKit Go.Lib Go.Sort Go.Shelf
namespace Rd
def cn(part:Int->Nat)(F:List Int)(q:Nat):Int:=((F.filter fun d=>decide (part d+1=q)).length:Int)
theorem X8(part:Int->Nat)(F:List Int)(j:Nat)(d:Int)(hd:F[j]? =some d)(q:Nat):cn part (F.take (j+1)) q=if q=part d+1 then cn part (F.take j) q+1 else cn part (F.take j) q:=by
 unfold cn
 rw [List.take_add_one,hd,List.filter_append,List.length_append]
 by_cases e:q=part d+1
 ·rw [if_pos e]
  subst e
  simp
 ·rw [if_neg e]
  have:¬ part d+1=q:=fun h=>e h.symm
  simp [this]
theorem cn_bd(part:Int->Nat)(F:List Int)(q:Nat):0<=cn part F q/\cn part F q<=F.length:=by
 unfold cn
 have:=List.length_filter_le (fun d=>decide (part d+1=q)) F
 omega
theorem cn_sh(part part':Int->Nat)(c:Int)(h:∀d,part' (c+d)=part d)(F:List Int)(q:Nat):cn part' (F.map fun d=>c+d) q=cn part F q:=by
 unfold cn
 congr 1
 induction F with
 |nil=>rfl
 |cons d r ih=>
  rw [List.map_cons,List.filter_cons,List.filter_cons,h d]
  split
  ·rw [List.length_cons,List.length_cons,ih]
  ·exact ih
def DL(w:World)(g:Nat)(f:Nat->Int):Prop:=g<w.heap.size/\(∀i,w.frozen? ⟨g,i,none⟩=false)/\∀q,q<6->w.cell? ⟨g,q,none⟩=some (.int .i64 (f q))
theorem DL.below{w w':World}{g:Nat}{f:Nat->Int}(h:DL w g f)(hb:Below w.heap.size w w'):DL w' g f:=by
 obtain⟨h1,h2,h3⟩:=h
 have c:=fun i=>hb.cell (p:=⟨g,i,none⟩) h1
 exact⟨Nat.lt_of_lt_of_le h1 hb.size,fun i=>(hb.frozen (p:=⟨g,i,none⟩) h1).trans (h2 i),fun q hq=>(c _).trans (h3 q hq)⟩
theorem DL.put{w:World}{g k:Nat}{f:Nat->Int}(h:DL w g f)(hk:k<6)(a:Int):DL (w.setCell ⟨g,k,none⟩ (.int .i64 a)) g (fun q=>if q=k then a else f q):=by
 obtain⟨h1,h2,h3⟩:=h
 refine⟨by simpa [World.setCell]using h1,fun i=>by rw [World.frozen?_setCell];exact h2 i,fun q hq=> ?_⟩
 by_cases e:q=k
 ·subst e
  simp only [if_true]
  exact World.cell?_setCell_same _ _ _ (h3 q hq)
 ·dsimp only
  rw [if_neg e]
  exact(World.cell?_setCell_other _ _ _ _ (by simpa using e)).trans (h3 q hq)
theorem DL.other{w:World}{g g' k:Nat}{f:Nat->Int}{v:Value}(h:DL w g f)(hg:g≠g'):DL (w.setCell ⟨g',k,none⟩ v) g f:=by
 obtain⟨h1,h2,h3⟩:=h
 refine⟨by simpa [World.setCell]using h1,fun i=>by rw [World.frozen?_setCell];exact h2 i,fun q hq=> ?_⟩
 exact(World.cell?_setCell_other _ _ _ _ (by simp [hg])).trans (h3 q hq)
end Rd
theorem Lc(y:Int)(F:List Int)(part:Int->Nat)(v:Value)(n:Nat)(w:World)(hl:F.length=n)(hn:n<=100)(hr:Il.Row w v F)(HD:Hid (∀d,part d<5))
  (HP:Hid (∀ (d:Int) (w:World),Calls Tryo.prog 221 #[.int .i64 y,.int .i64 d] w fun e w'=>e= .returned (.tuple #[.int .i64 ((part d:Int)+1),.int .i64 0])/\Below w.heap.size w w')):
  Calls Tryo.prog 171 #[.int .i64 y,v] w fun e w'=>e= .returned (.agg #[.int .i64 (Rd.cn part F 0),.int .i64 (Rd.cn part F 1),.int .i64 (Rd.cn part F 2),.int .i64 (Rd.cn part F 3),.int .i64 (Rd.cn part F 4),.int .i64 (Rd.cn part F 5)])/\Below w.heap.size w w':=by
 obtain⟨p1,c1,rfl⟩:=hr.len
 rw [hl]
 have HN:=Lib.hid hl
 clear hl
 go_enter Tryo.func171,Tryz.ntmps171
 go_wp2_with fail
 go_loopw [6] (fun i wr=>∃j:Nat,j<=n/\i= .int .i64 (j:Int)/\Rd.DL wr w.heap.size (fun _=>0)/\Rd.DL wr (w.heap.size+1) (Rd.cn part (F.take j))/\Below w.heap.size w wr) (fun i _=>n-(intOf i).toNat)
 case atStart=>
  refine⟨0,Nat.zero_le _,rfl,⟨by simp;omega,fun i=>by simp [go_sem],fun q hq=> ?_⟩,⟨by simp,fun i=>by simp [go_sem],fun q hq=> ?_⟩,bel⟩
  ·rcases(show q=0∨q=1∨q=2∨q=3∨q=4∨q=5 by omega)with rfl|rfl|rfl|rfl|rfl|rfl <;> simp [go_sem]
  ·rcases(show q=0∨q=1∨q=2∨q=3∨q=4∨q=5 by omega)with rfl|rfl|rfl|rfl|rfl|rfl <;> simp [go_sem,Rd.cn]
 case round=>
  obtain⟨j,hj,rfl,HR,HS,hB⟩:=hrel
  obtain⟨w9,rfl⟩:∃x,x=wr:=⟨_,rfl⟩
  by_cases hlt:j<n
  ·obtain⟨D,hD⟩:∃x,F[j]? =some x:=⟨_,List.getElem?_eq_getElem (by rw [HN.out];exact hlt)⟩
   have HX:=Lib.hid (Rd.X8 part F j D hD)
   have hpd:=HD.out D
   have HPd:=Lib.hid (HP.out D)
   obtain⟨ba,oa,cca,hp1,hca⟩:=(hr.below hB).bH (by rw [HN.out];omega)
   rw [HN.out]at hp1
   simp only [Value.slice.injEq]at hp1
   obtain⟨rfl,_,rfl⟩:=hp1
   have x1:=hca j D hD
   have lx:=World.block_lt_of_cell? _ _ x1
   dsimp only at lx x1
   have j0:(0:Int)<=(j:Int):=by omega
   have j1:(j:Int)<(n:Int):=by omega
   obtain⟨m,hm⟩:∃m,m=part D+1:=⟨_,rfl⟩
   have HM:=Lib.hid hm
   have hm6:m<6:=by omega
   rw [show((part D:Int)+1)=(m:Int) by rw [hm];push_cast;rfl]at HPd
   have m0:(0:Int)<=(m:Int):=by omega
   have m1:(m:Int)<6:=by omega
   have hbd:=Rd.cn_bd part (F.take j) m
   have hlen:(F.take j).length<=100:=by rw [List.length_take];omega
   have ew:wrap64 (Rd.cn part (F.take j) m+1)=Rd.cn part (F.take j) m+1:=IntWalk.wrap64_in _ ⟨by omega,by omega⟩
   clear hca hD hm hpd hbd hlen
   go_wp2_with fail
   refine(HPd.out _).mono ?_
   rintro e w3 ⟨rfl,hb3⟩
   have HS3:=Lib.hid (HS.below hb3)
   have HR3:=Lib.hid (HR.below hb3)
   obtain⟨s1,s2,s3⟩:=HS3.out
   have s4:=s3 m hm6
   have hB3:Below w.heap.size w w3:=bel
   have hz3:=hB3.size
   clear x1 s3 HS HR lx
   go_wp2_with fail
   go_roundw
   case rel=>
    refine⟨j+1,by omega,by go_num,HR3.out.other (by omega), ?_,bel⟩
    have h9:=Rd.DL.put HS3.out hm6 (Rd.cn part (F.take j) m+1)
    have e9:Rd.cn part (F.take (j+1))=fun q=>if q=m then Rd.cn part (F.take j) m+1 else Rd.cn part (F.take j) q:=by
     funext q
     rw [HX.out q,←HM.out]
     by_cases e:q=m
     ·rw [if_pos e,if_pos e,e]
     ·rw [if_neg e,if_neg e]
    rw [e9]
    first|exact h9|(simpa using h9)
   case measure=>simp [intOf];omega
  ·obtain rfl:j=n:=by omega
   rw [List.take_of_length_le (by rw [HN.out];exact Nat.le_refl _)]at HS
   obtain⟨s1,s2,s3⟩:=HS
   obtain⟨t1,t2,t3⟩:=HR
   have r0:=s3 0 (by omega)
   have r1:=s3 1 (by omega)
   have r2:=s3 2 (by omega)
   have r3:=s3 3 (by omega)
   have r4:=s3 4 (by omega)
   have r5:=s3 5 (by omega)
   have q0:=t3 0 (by omega)
   have q1:=t3 1 (by omega)
   have q2:=t3 2 (by omega)
   have q3:=t3 3 (by omega)
   have q4:=t3 4 (by omega)
   have q5:=t3 5 (by omega)
   clear s3 t3 hlt
   go_wp2_with fail
   refine bodyPost_ret (v:= .agg #[.int .i64 (Rd.cn part F 0),.int .i64 (Rd.cn part F 1),.int .i64 (Rd.cn part F 2),.int .i64 (Rd.cn part F 3),.int .i64 (Rd.cn part F 4),.int .i64 (Rd.cn part F 5)]) (by simp [results,Tryz.results171,go_sem, *]) rfl ?_
   refine⟨rfl, ?_⟩
   exact bel
end
section
open Go.ChangeShapes Go.WideShapes Go.ChangeAt Go.RowKit Go.Lib Go.Sort Go.Shelf
namespace Rd
def two(lp:Bool)(c1 c2 c3 c5:Int):List Int:=
 ((if lp then []else([22].take (25-c1).toNat++ [27,29,32].take (9-c2).toNat))++ [42,39].take (44-(if lp then 1+c1+c2 else 35)+1-c3).toNat)++(if c5=1 then [51]else [])
end Rd
theorem pX(W:World)(J:List Int)(A:Array Value)(hA:A=(J.map fun z=>Value.int .i64 z).toArray):∀ (j:Nat) x,J[j]? =some x->(W.alloc (.cells A 3)).cell? ⟨W.heap.size,j,none⟩=some (.int .i64 x):=by
 subst hA
 intro j x hj
 rw [Joins.cell_alloc_mark_at _ _ _ _ _ _ (by simp)]
 simp [hj]
theorem Il.Own.Fg{w:World}{B:Nat}{v:Value}{l:List Int}(h:Il.Own w B v l)(o:Obj):Il.Own (w.alloc o) B v l:=World.ownsRow.alloc h o
theorem ji{w:World}{ops:Array Oper}{rest:List Oper}{o:Oper}{a:Act}{Q:Exit->Act->World->Prop}(hgd:o.guard=none)(s x:Operand)
  (ho:o.op= .call {callee:= .builtin .append,args:= #[s,x],argTypes:= #[30,30]}) (B:Nat) (v:Value) (xs:List Int) (hs:a.eval s=v) (hown:Il.Own w B v xs)
  (v2:Value) (ys:List Int) (hx:a.eval x=v2) (hrow:Il.Row w v2 ys) (hlen:xs.length+ys.length<=1000) (hB:B<=w.heap.size)
  (h:∀v' w',Il.Own w' B v' (xs++ys)->Below B w w'->wpList Tryo.prog ops Q rest (a.put o.dst v') w'):wpList Tryo.prog ops Q (o :: rest) a w:=by
 obtain⟨i0,hi,hz0⟩:=Option.map_eq_some_iff.1 ku
 simp only [Prod.mk.injEq]at hz0
 obtain⟨hz,hsz,hby⟩:=hz0
 rcases hrow with ⟨rfl,rfl⟩|⟨b,off,cap,rfl,hc⟩
 ·exact wpList_append_own_none hgd s x 30 ho B 3 i0 1 (aI Tryz.underlying30) hi v xs.length (Il.vals xs) hs hown hx (h v w (by rw [List.append_nil];exact hown) (Below.refl _ _))
 ·refine wpList_append_own_at _ hgd s x 30 ho B 3 i0 (.int .i64 0) 1 8 (aI Tryz.underlying30) hi hz hsz hby rfl (by decide) v xs.length (Il.vals xs) hs hown ⟨b,off,none⟩ ys.length cap (Il.vals ys) hx (by rw [Il.XE];omega) (fun j u hj=> ?_) (fun u hu=> ?_) (by simp only [maxLen];omega) (by omega) hB ?_
  ·unfold Il.vals at hj
   rw [List.getElem?_map]at hj
   rcases e:ys[j]? with _|y
   ·rw [e]at hj;cases hj
   ·rw [e]at hj
    simp only [Option.map_some,Option.some.injEq]at hj
    subst hj
    have h9:=hc j y e
    unfold Addr.add
    split
    ·rename_i e0;subst e0;simpa using h9
    ·exact h9
  ·unfold Il.vals at hu
   obtain⟨y,_,rfl⟩:=List.mem_map.1 hu
   rfl
  ·intro v7 w7 hown7 hgrow7 _ hblk7
   refine h v7 w7 ?_ ((Below.refl _ _).grown hgrow7 hB (fun k e=>(World.ownsRow.lt hown k e).1))
   unfold Il.Own Il.vals
   rw [List.length_append,List.map_append]
   exact hown7
theorem FC(y c0 c1 c2 c3 c4 c5:Int)(lp:Bool)(f1 f2 f3:Int)(w:World)(b1:0<=c1/\c1<=100)(b2:0<=c2/\c2<=100)(b3:0<=c3/\c3<=100)(h1:25-c1=f1)(h2:9-c2=f2)(h3:44-(if lp then 1+c1+c2 else 35)+1-c3=f3)
  (HI:Hid (∀w:World,Calls Tryo.prog 117 #[.int .i64 y] w fun e w'=>e= .returned (.bool lp)/\w=w')):
  Calls Tryo.prog 170 #[.int .i64 y,.agg #[.int .i64 c0,.int .i64 c1,.int .i64 c2,.int .i64 c3,.int .i64 c4,.int .i64 c5]] w fun e w'=>∃v,e= .returned v/\Il.Own w' w.heap.size v (Rd.two lp c1 c2 c3 c5)/\Below w.heap.size w w':=by
 have T1:Hid (∀ (W:World) (g:Nat),g=W.heap.size->Calls Tryo.prog 220 #[.int .i64 f1,.slice (some ⟨g,0,none⟩) 1 1] (W.alloc (.cells #[.int .i64 22] 3)) fun e w'=>∃v,e= .returned v/\Il.Row (W.alloc (.cells #[.int .i64 22] 3)) v ([22].take f1.toNat)/\(W.alloc (.cells #[.int .i64 22] 3))=w'):=Lib.hid fun W g hg=>hg▸lM f1 [22] W.heap.size _ (by decide) (by omega) (pX W [22] _ rfl)
 have T2:Hid (∀ (W:World) (g:Nat),g=W.heap.size->Calls Tryo.prog 220 #[.int .i64 f2,.slice (some ⟨g,0,none⟩) 3 3] (W.alloc (.cells #[.int .i64 27,.int .i64 29,.int .i64 32] 3)) fun e w'=>∃v,e= .returned v/\Il.Row (W.alloc (.cells #[.int .i64 27,.int .i64 29,.int .i64 32] 3)) v ([27,29,32].take f2.toNat)/\(W.alloc (.cells #[.int .i64 27,.int .i64 29,.int .i64 32] 3))=w'):=Lib.hid fun W g hg=>hg▸lM f2 [27,29,32] W.heap.size _ (by decide) (by omega) (pX W [27,29,32] _ rfl)
 have T3:Hid (∀ (W:World) (g:Nat),g=W.heap.size->Calls Tryo.prog 220 #[.int .i64 f3,.slice (some ⟨g,0,none⟩) 2 2] (W.alloc (.cells #[.int .i64 42,.int .i64 39] 3)) fun e w'=>∃v,e= .returned v/\Il.Row (W.alloc (.cells #[.int .i64 42,.int .i64 39] 3)) v ([42,39].take f3.toNat)/\(W.alloc (.cells #[.int .i64 42,.int .i64 39] 3))=w'):=Lib.hid fun W g hg=>hg▸lM f3 [42,39] W.heap.size _ (by decide) (by split at h3 <;> omega) (pX W [42,39] _ rfl)
 obtain⟨p1,p2⟩:=b1
 obtain⟨q1,q2⟩:=b2
 obtain⟨r1,r2⟩:=b3
 have HE:Hid (Rd.two lp c1 c2 c3 c5=((if lp then []else([22].take f1.toNat++ [27,29,32].take f2.toNat))++ [42,39].take f3.toNat)++(if c5=1 then [51]else [])):=Lib.hid (by unfold Rd.two;rw [h1,h2,h3])
 have e1:wrap64 (25-c1)=f1:=by rw [h1];exact IntWalk.wrap64_in _ ⟨by omega,by omega⟩
 have e2:wrap64 (9-c2)=f2:=by rw [h2];exact IntWalk.wrap64_in _ ⟨by omega,by omega⟩
 go_enter Tryo.func170,Tryz.ntmps170
 go_wp2_with fail
 refine(HI.out _).mono ?_
 rintro e w' ⟨rfl,rfl⟩
 cases lp
 ·simp only [Bool.false_eq_true,if_false]at h3
  have h3n:10-c3=f3:=by omega
  clear h3
  go_wp2_with fail
  refine Calls.mono (T1.out _ _ ?_) ?_
  ·first|rfl|(simp;done)|(simp;omega)
  rintro e w' ⟨u3,rfl,hr3,rfl⟩
  go_wp2_with (at_builtin;go_loud (refine ji rfl (.tmp 15) (.tmp 20) rfl (w.heap.size+1) (.slice none 0 0) [] rfl (Il.Own.nil _ _) u3 _ rfl hr3 (by simp only [List.length_append,List.length_take,List.length_cons,List.length_nil];omega) (by first|(simp;done)|(simp;omega)) ?_;intro v3 w3 hown3 hbel3;have hB3:Below w.heap.size w w3:=Below.trans bel (hbel3.mono (by omega));have hz3:w.heap.size+1<=w3.heap.size:=(by have:=hbel3.size;(try simp at this);omega);have g30:w3.cell? ⟨w.heap.size,0,none⟩=some (.int .i64 c0):=(hbel3.cell (p:=⟨w.heap.size,0,none⟩) (by show w.heap.size<_;omega)).trans (by simp [go_sem]);have g31:w3.cell? ⟨w.heap.size,1,none⟩=some (.int .i64 c1):=(hbel3.cell (p:=⟨w.heap.size,1,none⟩) (by show w.heap.size<_;omega)).trans (by simp [go_sem]);have g32:w3.cell? ⟨w.heap.size,2,none⟩=some (.int .i64 c2):=(hbel3.cell (p:=⟨w.heap.size,2,none⟩) (by show w.heap.size<_;omega)).trans (by simp [go_sem]);have g33:w3.cell? ⟨w.heap.size,3,none⟩=some (.int .i64 c3):=(hbel3.cell (p:=⟨w.heap.size,3,none⟩) (by show w.heap.size<_;omega)).trans (by simp [go_sem]);have g34:w3.cell? ⟨w.heap.size,4,none⟩=some (.int .i64 c4):=(hbel3.cell (p:=⟨w.heap.size,4,none⟩) (by show w.heap.size<_;omega)).trans (by simp [go_sem]);have g35:w3.cell? ⟨w.heap.size,5,none⟩=some (.int .i64 c5):=(hbel3.cell (p:=⟨w.heap.size,5,none⟩) (by show w.heap.size<_;omega)).trans (by simp [go_sem])))
  refine Calls.mono (T2.out _ _ ?_) ?_
  ·first|rfl|(simp;done)|(simp;omega)
  rintro e w' ⟨u4,rfl,hr4,rfl⟩
  go_wp2_with (at_builtin;go_loud (refine ji rfl (.tmp 22) (.tmp 27) rfl (w.heap.size+1) v3 _ rfl (Il.Own.Fg hown3 _) u4 _ rfl hr4 (by simp only [List.length_append,List.length_take,List.length_cons,List.length_nil];omega) (by first|(simp;done)|(simp;omega)) ?_;intro v4 w4 hown4 hbel4;have hB4:Below w.heap.size w w4:=Below.trans bel (hbel4.mono (by omega));have hz4:w.heap.size+1<=w4.heap.size:=(by have:=hbel4.size;(try simp at this);omega);have g40:w4.cell? ⟨w.heap.size,0,none⟩=some (.int .i64 c0):=(hbel4.cell (p:=⟨w.heap.size,0,none⟩) (by show w.heap.size<_;omega)).trans (((ba w3 _).cell (p:=⟨w.heap.size,0,none⟩) (by show w.heap.size<_;omega)).trans g30);have g41:w4.cell? ⟨w.heap.size,1,none⟩=some (.int .i64 c1):=(hbel4.cell (p:=⟨w.heap.size,1,none⟩) (by show w.heap.size<_;omega)).trans (((ba w3 _).cell (p:=⟨w.heap.size,1,none⟩) (by show w.heap.size<_;omega)).trans g31);have g42:w4.cell? ⟨w.heap.size,2,none⟩=some (.int .i64 c2):=(hbel4.cell (p:=⟨w.heap.size,2,none⟩) (by show w.heap.size<_;omega)).trans (((ba w3 _).cell (p:=⟨w.heap.size,2,none⟩) (by show w.heap.size<_;omega)).trans g32);have g43:w4.cell? ⟨w.heap.size,3,none⟩=some (.int .i64 c3):=(hbel4.cell (p:=⟨w.heap.size,3,none⟩) (by show w.heap.size<_;omega)).trans (((ba w3 _).cell (p:=⟨w.heap.size,3,none⟩) (by show w.heap.size<_;omega)).trans g33);have g44:w4.cell? ⟨w.heap.size,4,none⟩=some (.int .i64 c4):=(hbel4.cell (p:=⟨w.heap.size,4,none⟩) (by show w.heap.size<_;omega)).trans (((ba w3 _).cell (p:=⟨w.heap.size,4,none⟩) (by show w.heap.size<_;omega)).trans g34);have g45:w4.cell? ⟨w.heap.size,5,none⟩=some (.int .i64 c5):=(hbel4.cell (p:=⟨w.heap.size,5,none⟩) (by show w.heap.size<_;omega)).trans (((ba w3 _).cell (p:=⟨w.heap.size,5,none⟩) (by show w.heap.size<_;omega)).trans g35);clear g30 g31 g32 g33 g34 g35))
  refine Calls.mono (T3.out _ _ ?_) ?_
  ·first|rfl|(simp;done)|(simp;omega)
  rintro e w' ⟨u5,rfl,hr5,rfl⟩
  by_cases c9:c5=1
  ·have d9:(c5==1)=true:=beq_iff_eq.2 c9
   have D9:=Lib.hid c9
   clear c9
   go_wp2_with (at_builtin;first|(refine ji rfl (.tmp 29) (.tmp 37) rfl (w.heap.size+1) v4 _ rfl (Il.Own.Fg hown4 _) u5 _ rfl hr5 (by simp only [List.length_append,List.length_take,List.length_cons,List.length_nil];omega) (by first|(simp;done)|(simp;omega)) ?_;intro v5 w5 hown5 hbel5;have hB5:Below w.heap.size w w5:=Below.trans bel (hbel5.mono (by omega));have hz5:w.heap.size+1<=w5.heap.size:=(by have:=hbel5.size;(try simp at this);omega);have g50:w5.cell? ⟨w.heap.size,0,none⟩=some (.int .i64 c0):=(hbel5.cell (p:=⟨w.heap.size,0,none⟩) (by show w.heap.size<_;omega)).trans (((ba w4 _).cell (p:=⟨w.heap.size,0,none⟩) (by show w.heap.size<_;omega)).trans g40);have g51:w5.cell? ⟨w.heap.size,1,none⟩=some (.int .i64 c1):=(hbel5.cell (p:=⟨w.heap.size,1,none⟩) (by show w.heap.size<_;omega)).trans (((ba w4 _).cell (p:=⟨w.heap.size,1,none⟩) (by show w.heap.size<_;omega)).trans g41);have g52:w5.cell? ⟨w.heap.size,2,none⟩=some (.int .i64 c2):=(hbel5.cell (p:=⟨w.heap.size,2,none⟩) (by show w.heap.size<_;omega)).trans (((ba w4 _).cell (p:=⟨w.heap.size,2,none⟩) (by show w.heap.size<_;omega)).trans g42);have g53:w5.cell? ⟨w.heap.size,3,none⟩=some (.int .i64 c3):=(hbel5.cell (p:=⟨w.heap.size,3,none⟩) (by show w.heap.size<_;omega)).trans (((ba w4 _).cell (p:=⟨w.heap.size,3,none⟩) (by show w.heap.size<_;omega)).trans g43);have g54:w5.cell? ⟨w.heap.size,4,none⟩=some (.int .i64 c4):=(hbel5.cell (p:=⟨w.heap.size,4,none⟩) (by show w.heap.size<_;omega)).trans (((ba w4 _).cell (p:=⟨w.heap.size,4,none⟩) (by show w.heap.size<_;omega)).trans g44);have g55:w5.cell? ⟨w.heap.size,5,none⟩=some (.int .i64 c5):=(hbel5.cell (p:=⟨w.heap.size,5,none⟩) (by show w.heap.size<_;omega)).trans (((ba w4 _).cell (p:=⟨w.heap.size,5,none⟩) (by show w.heap.size<_;omega)).trans g45);clear g40 g41 g42 g43 g44 g45)|(refine ji rfl (.tmp 42) (.tmp 43) rfl (w.heap.size+1) v5 _ rfl (Il.Own.Fg hown5 _) _ [51] rfl (.inr ⟨_,0,1,rfl,fun j x hj=>by rw [Nat.zero_add];exact pX _ [51] _ rfl j x hj⟩) (by simp only [List.length_append,List.length_take,List.length_cons,List.length_nil];omega) (by first|(simp;done)|(simp;omega)) ?_;intro v9 w9 hown9 hbel9;have hB9:Below w.heap.size w w9:=Below.trans bel (hbel9.mono (by omega))))
   go_ret
   refine⟨_,rfl, ?_,hB9⟩
   rw [HE.out,if_pos D9.out]
   exact Il.Own.base (by simpa using hown9) (by omega)
  ·have d9:(c5==1)=false:=beq_eq_false_iff_ne.2 c9
   have D9:=Lib.hid c9
   clear c9
   go_wp2_with (at_builtin;go_loud (refine ji rfl (.tmp 29) (.tmp 37) rfl (w.heap.size+1) v4 _ rfl (Il.Own.Fg hown4 _) u5 _ rfl hr5 (by simp only [List.length_append,List.length_take,List.length_cons,List.length_nil];omega) (by first|(simp;done)|(simp;omega)) ?_;intro v5 w5 hown5 hbel5;have hB5:Below w.heap.size w w5:=Below.trans bel (hbel5.mono (by omega));have hz5:w.heap.size+1<=w5.heap.size:=(by have:=hbel5.size;(try simp at this);omega);have g50:w5.cell? ⟨w.heap.size,0,none⟩=some (.int .i64 c0):=(hbel5.cell (p:=⟨w.heap.size,0,none⟩) (by show w.heap.size<_;omega)).trans (((ba w4 _).cell (p:=⟨w.heap.size,0,none⟩) (by show w.heap.size<_;omega)).trans g40);have g51:w5.cell? ⟨w.heap.size,1,none⟩=some (.int .i64 c1):=(hbel5.cell (p:=⟨w.heap.size,1,none⟩) (by show w.heap.size<_;omega)).trans (((ba w4 _).cell (p:=⟨w.heap.size,1,none⟩) (by show w.heap.size<_;omega)).trans g41);have g52:w5.cell? ⟨w.heap.size,2,none⟩=some (.int .i64 c2):=(hbel5.cell (p:=⟨w.heap.size,2,none⟩) (by show w.heap.size<_;omega)).trans (((ba w4 _).cell (p:=⟨w.heap.size,2,none⟩) (by show w.heap.size<_;omega)).trans g42);have g53:w5.cell? ⟨w.heap.size,3,none⟩=some (.int .i64 c3):=(hbel5.cell (p:=⟨w.heap.size,3,none⟩) (by show w.heap.size<_;omega)).trans (((ba w4 _).cell (p:=⟨w.heap.size,3,none⟩) (by show w.heap.size<_;omega)).trans g43);have g54:w5.cell? ⟨w.heap.size,4,none⟩=some (.int .i64 c4):=(hbel5.cell (p:=⟨w.heap.size,4,none⟩) (by show w.heap.size<_;omega)).trans (((ba w4 _).cell (p:=⟨w.heap.size,4,none⟩) (by show w.heap.size<_;omega)).trans g44);have g55:w5.cell? ⟨w.heap.size,5,none⟩=some (.int .i64 c5):=(hbel5.cell (p:=⟨w.heap.size,5,none⟩) (by show w.heap.size<_;omega)).trans (((ba w4 _).cell (p:=⟨w.heap.size,5,none⟩) (by show w.heap.size<_;omega)).trans g45);clear g40 g41 g42 g43 g44 g45))
   go_wp2_with fail
   go_ret
   refine⟨_,rfl, ?_,hB5⟩
   rw [HE.out,if_neg D9.out]
   exact Il.Own.base (by simpa using hown5) (by omega)
 ·simp only [if_true]at h3
  rw [←h3]at T3
  have HH3:=Lib.hid h3
  clear h3
  go_wp2_with fail
  refine Calls.mono (T3.out _ _ ?_) ?_
  ·first|rfl|(simp;done)|(simp;omega)
  rintro e w' ⟨u5,rfl,hr5,rfl⟩
  by_cases c9:c5=1
  ·have d9:(c5==1)=true:=beq_iff_eq.2 c9
   have D9:=Lib.hid c9
   clear c9
   go_wp2_with (at_builtin;first|(refine ji rfl (.tmp 29) (.tmp 37) rfl (w.heap.size+1) (.slice none 0 0) [] rfl (Il.Own.nil _ _) u5 _ rfl hr5 (by simp only [List.length_append,List.length_take,List.length_cons,List.length_nil];omega) (by first|(simp;done)|(simp;omega)) ?_;intro v5 w5 hown5 hbel5;have hB5:Below w.heap.size w w5:=Below.trans bel (hbel5.mono (by omega));have hz5:w.heap.size+1<=w5.heap.size:=(by have:=hbel5.size;(try simp at this);omega);have g50:w5.cell? ⟨w.heap.size,0,none⟩=some (.int .i64 c0):=(hbel5.cell (p:=⟨w.heap.size,0,none⟩) (by show w.heap.size<_;omega)).trans (by simp [go_sem]);have g51:w5.cell? ⟨w.heap.size,1,none⟩=some (.int .i64 c1):=(hbel5.cell (p:=⟨w.heap.size,1,none⟩) (by show w.heap.size<_;omega)).trans (by simp [go_sem]);have g52:w5.cell? ⟨w.heap.size,2,none⟩=some (.int .i64 c2):=(hbel5.cell (p:=⟨w.heap.size,2,none⟩) (by show w.heap.size<_;omega)).trans (by simp [go_sem]);have g53:w5.cell? ⟨w.heap.size,3,none⟩=some (.int .i64 c3):=(hbel5.cell (p:=⟨w.heap.size,3,none⟩) (by show w.heap.size<_;omega)).trans (by simp [go_sem]);have g54:w5.cell? ⟨w.heap.size,4,none⟩=some (.int .i64 c4):=(hbel5.cell (p:=⟨w.heap.size,4,none⟩) (by show w.heap.size<_;omega)).trans (by simp [go_sem]);have g55:w5.cell? ⟨w.heap.size,5,none⟩=some (.int .i64 c5):=(hbel5.cell (p:=⟨w.heap.size,5,none⟩) (by show w.heap.size<_;omega)).trans (by simp [go_sem]))|(refine ji rfl (.tmp 42) (.tmp 43) rfl (w.heap.size+1) v5 _ rfl (Il.Own.Fg hown5 _) _ [51] rfl (.inr ⟨_,0,1,rfl,fun j x hj=>by rw [Nat.zero_add];exact pX _ [51] _ rfl j x hj⟩) (by simp only [List.length_append,List.length_take,List.length_cons,List.length_nil];omega) (by first|(simp;done)|(simp;omega)) ?_;intro v9 w9 hown9 hbel9;have hB9:Below w.heap.size w w9:=Below.trans bel (hbel9.mono (by omega))))
   go_ret
   refine⟨_,rfl, ?_,hB9⟩
   rw [HE.out,if_pos D9.out,←HH3.out]
   exact Il.Own.base (by simpa using hown9) (by omega)
  ·have d9:(c5==1)=false:=beq_eq_false_iff_ne.2 c9
   have D9:=Lib.hid c9
   clear c9
   go_wp2_with (at_builtin;go_loud (refine ji rfl (.tmp 29) (.tmp 37) rfl (w.heap.size+1) (.slice none 0 0) [] rfl (Il.Own.nil _ _) u5 _ rfl hr5 (by simp only [List.length_append,List.length_take,List.length_cons,List.length_nil];omega) (by first|(simp;done)|(simp;omega)) ?_;intro v5 w5 hown5 hbel5;have hB5:Below w.heap.size w w5:=Below.trans bel (hbel5.mono (by omega));have hz5:w.heap.size+1<=w5.heap.size:=(by have:=hbel5.size;(try simp at this);omega);have g50:w5.cell? ⟨w.heap.size,0,none⟩=some (.int .i64 c0):=(hbel5.cell (p:=⟨w.heap.size,0,none⟩) (by show w.heap.size<_;omega)).trans (by simp [go_sem]);have g51:w5.cell? ⟨w.heap.size,1,none⟩=some (.int .i64 c1):=(hbel5.cell (p:=⟨w.heap.size,1,none⟩) (by show w.heap.size<_;omega)).trans (by simp [go_sem]);have g52:w5.cell? ⟨w.heap.size,2,none⟩=some (.int .i64 c2):=(hbel5.cell (p:=⟨w.heap.size,2,none⟩) (by show w.heap.size<_;omega)).trans (by simp [go_sem]);have g53:w5.cell? ⟨w.heap.size,3,none⟩=some (.int .i64 c3):=(hbel5.cell (p:=⟨w.heap.size,3,none⟩) (by show w.heap.size<_;omega)).trans (by simp [go_sem]);have g54:w5.cell? ⟨w.heap.size,4,none⟩=some (.int .i64 c4):=(hbel5.cell (p:=⟨w.heap.size,4,none⟩) (by show w.heap.size<_;omega)).trans (by simp [go_sem]);have g55:w5.cell? ⟨w.heap.size,5,none⟩=some (.int .i64 c5):=(hbel5.cell (p:=⟨w.heap.size,5,none⟩) (by show w.heap.size<_;omega)).trans (by simp [go_sem])))
   go_wp2_with fail
   go_ret
   refine⟨_,rfl, ?_,hB5⟩
   rw [HE.out,if_neg D9.out,←HH3.out]
   exact Il.Own.base (by simpa using hown5) (by omega)
end
end Go.Proofs.YthnjjcoahdhmnaaGreatDoor
