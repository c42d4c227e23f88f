import Derived.Test.YtjmdplapinflnaaGreatDoorZQw
set_option maxHeartbeats 8000000
set_option maxRecDepth 100000
set_option linter.unusedSimpArgs false
set_option linter.unusedVariables false
namespace Go.Proofs.YtjmdplapinflnaaGreatDoor
open Go.ChangeShapes Go.WideShapes Go.ChangeAt Go.RowKit Go.Lib
def O26.z:O26:=⟨0,0,0,0,false,0,0,0,0,⟨#[]⟩⟩
def O26.n:O26:=⟨99,0,0,0,false,0,0,0,0,⟨#[]⟩⟩
theorem O26.info:(Tryo.prog.info? 42).map (fun i=>(i.zero,i.size,i.bytes))=some (some (O26.v O26.z),10,88):=vK
theorem aaO(o:O26)(n m:Int)(hl:200<o.t.size)(hmx:o.t.size<=maxLen)(HW:Yes m 6 #[] (.bool true)):Yes m 4 #[o.v,.int .u16 n] (.bool true):=by
 intro w hT
 unfold O26.v
 have d1:decide (200<(o.t.size:Int))=true:=decide_eq_true vO
 have d2:(200:Int)<(o.t.size:Int):=vO
 go_enter (vF Tryz.func4),Tryz.ntmps4
 go_wp2_with fail
 refine(HW _ (hT.below bel)).mono ?_
 rintro e w1 ⟨rfl,hb1⟩
 go_wp2_with fail
 go_ret
 exact⟨rfl,bt bel hb1⟩
def nn(j:Nat)(i:Nat):O26:=if i<j then O26.n else O26.z
def Lst(w:World)(g k:Nat)(f:Nat->O26):Prop:=(∀i<k,∀t u,(f i).c2[t]? =some u->w.cell? ⟨g,i*10+t,none⟩=some u)/\∀p,w.frozen? ⟨g,p,none⟩=false
theorem Lst.set{w:World}{g k j:Nat}(h:Lst w g k (nn j))(hj:j<k):Lst (w.setCell ⟨g,j*10,none⟩ (.int .i64 99)) g k (nn (j+1)):=by
 refine⟨fun i hi t u hu=> ?_,fun p=>by simpa using h.2 p⟩
 have ht:t<10:=by have:=(Array.getElem?_eq_some_iff.1 hu).1;simpa [O26.c2]using this
 have h0:w.cell? ⟨g,j*10,none⟩=some (.int .i64 (nn j j).k):=h.1 j hj 0 _ rfl
 by_cases e:i=j
 ·subst e
  by_cases e0:t=0
  ·subst e0
   have:u= .int .i64 99:=by simp [nn,O26.c2,O26.n]at hu;exact hu.symm
   subst this
   have:=World.cell?_setCell_same w ⟨g,i*10,none⟩ (.int .i64 99) h0
   simpa using this
  ·rw [World.cell?_setCell_other w ⟨g,i*10,none⟩ ⟨g,i*10+t,none⟩ _ (by intro h;simp at h;try omega)]
   refine h.1 i hi t u ?_
   rw [←hu]
   have:t=1∨t=2∨t=3∨t=4∨t=5∨t=6∨t=7∨t=8∨t=9:=vO
   rcases this with rfl|rfl|rfl|rfl|rfl|rfl|rfl|rfl|rfl <;> simp [nn,O26.c2,O26.n,O26.z]
 ·rw [World.cell?_setCell_other w ⟨g,j*10,none⟩ ⟨g,i*10+t,none⟩ _ (by intro h;simp at h;try omega)]
  refine h.1 i hi t u ?_
  rw [←hu]
  unfold nn
  by_cases c:i<j
  ·rw [if_pos c,if_pos vO]
  ·rw [if_neg c,if_neg vO]
theorem Lst.made{w:World}{g k c:Nat}(h:w.ownsRow g 42 10 (.slice (some ⟨g,0,none⟩) k c) k (madeCells (O26.v O26.z).cells (k*10)).toList):Lst w g k (nn 0):=by
 refine⟨fun i hi t u hu=> ?_,fun p=> ?_⟩
 ·have ht:t<10:=by have:=(Array.getElem?_eq_some_iff.1 hu).1;simpa [O26.c2]using this
  have h2:=World.ownsRow.cells h rfl (i*10+t) u (by
   rw [←hu]
   have hp:i*10+t<k*10:=vO
   have hm:(i*10+t) % 10=t:=vO
   have hc:(O26.v O26.z).cells.size=10:=rfl
   rw [Array.getElem?_toList]
   unfold madeCells
   rw [Array.getElem?_map,Array.getElem?_range,if_pos hp]
   simp only [Option.map_some,hc,hm]
   have:t=0∨t=1∨t=2∨t=3∨t=4∨t=5∨t=6∨t=7∨t=8∨t=9:=vO
   rcases this with rfl|rfl|rfl|rfl|rfl|rfl|rfl|rfl|rfl|rfl <;> rfl)
  rwa [Addr.add_lit,Nat.zero_add]at h2
 ·rcases h.2 with ⟨h0,_⟩|⟨g',cap,cur,e,hb,hg,_⟩
  ·cases h0
  ·cases e
   simp [World.frozen?,hg]
theorem Lst.head{w:World}{g k:Nat}(o:O26)(h:Lst w g k (nn k))(hk:0<k):Lst (w.setCells g 0 o.c2.toList) g k (fun i=>if i=0 then o else O26.n):=by
 refine⟨fun i hi t u hu=> ?_,fun p=>by rw [World.frozen?_setCells];exact h.2 p⟩
 by_cases e:i=0
 ·subst e
  replace hu:o.c2[t]? =some u:=by simpa using hu
  have ht:t<o.c2.toList.length:=by have:=(Array.getElem?_eq_some_iff.1 hu).1;simpa using this
  have h10:o.c2.toList.length=10:=rfl
  have:=World.cell?_setCells_in g o.c2.toList 0 w (fun j hj=>by
   rw [h10]at hj
   have hj2:j<(nn k 0).c2.size:=by simpa [O26.c2]using hj
   have:=h.1 0 hk j _ (Array.getElem?_eq_getElem hj2)
   simp only [Nat.zero_mul]at this
   rw [this];rfl) t ht
  simp only [Nat.zero_mul]
  rw [this]
  rw [←Array.getElem?_toList]at hu
  rw [List.getElem?_eq_getElem ht]at hu
  exact hu
 ·replace hu:O26.n.c2[t]? =some u:=by simpa [e]using hu
  have h10:o.c2.toList.length=10:=rfl
  rw [World.cell?_setCells_out g o.c2.toList 0 w ⟨g,i*10+t,none⟩ (fun _ _=>Or.inr (by show 0+o.c2.toList.length<=i*10+t;rw [h10];omega))]
  refine h.1 i hi t u ?_
  unfold nn
  rw [if_pos hi]
  exact hu
theorem acj{B b:Nat}{a:World}(hb:B<=b):∀ (vs:List Value) (o:Nat) (w:World),Below B a w->Below B a (w.setCells b o vs)
 | [],_,_,h=>h
 |v :: vs,o,w,h=>acj hb vs (o+1) _ (h.setCell hb _)
theorem A26.acy:∀ (l:List A26) (i t:Nat) (x:A26) (u:Value),l[i]? =some x->x.c[t]? =some u->(A26.flat l)[i*14+t]? =some u
 | [],i,t,x,u,h,_=>by simp at h
 | y :: r,i,t,x,u,h,hu=>by
  have ht:t<14:=by have:=(Array.getElem?_eq_some_iff.1 hu).1;simpa [A26.c]using this
  have hy:y.c.toList.length=14:=rfl
  show(y.c.toList++A26.flat r)[i*14+t]? =some u
  cases i with
  |zero=>
   simp at h
   subst h
   rw [List.getElem?_append_left (by rw [hy];omega),Nat.zero_mul,Nat.zero_add,Array.getElem?_toList]
   exact hu
  |succ i=>
   rw [List.getElem?_append_right (by rw [hy];omega),hy,show(i+1)*14+t-14=i*14+t by omega]
   exact A26.acy r i t x u (by simpa using h) hu
theorem eq26(X:A26)(W:World):(binOp .eql 39 X.v X.v).run Tryo.prog W= .ok (.bool true) W:=by
 unfold A26.v A26.c
 simp [go_sem]
theorem acH{ops:Array Oper}{rest:List Oper}{op:Oper}{a:Act}{w:World}{Q:Exit->Act->World->Prop}(hgd:op.guard=none)(x y:Operand)(ho:op.op= .store 42 x y)
  (g:Nat) (o:O26) (hx:a.eval x= .pointer (some ⟨g,0,none⟩)) (hy:a.eval y=o.v) (ht:w.there g 0 10)
  (h:∀w',w'=w.setCells g 0 o.c2.toList->wpList Tryo.prog ops Q rest (a.put op.dst undef) w'):wpList Tryo.prog ops Q (op :: rest) a w:=
 wpList_store_mid hgd 42 x y ho g 0 o.c2 hx hy ht vK (all_oneCell_toArray (cs:=o.c2.toList) (fun v hv=>by
  simp [O26.c2]at hv
  rcases hv with rfl|rfl|rfl|rfl|rfl|rfl|rfl|rfl|rfl|rfl <;> rfl)) (h _ rfl)
theorem acK{W:World}{o:Oper}{a:Act}{K:Act->Prop}(X:A26)(t:TypeId)(y:Operand)(b off:Nat)(ho:o.op= .load t y)(hp:a.eval y= .pointer (some ⟨b,off,none⟩))(hc:∀t u,X.c[t]? =some u->W.cell? ⟨b,off+t,none⟩=some u)(hb:b<W.1.size)
  (hag:∀w:World,(isAgg t).run Tryo.prog w= .ok true w) (hs:∀w:World,(sizeOf t).run Tryo.prog w= .ok 14 w) (hk:K (a.put o.dst (.agg X.c))):o.quiet Tryo.prog a (Below W.1.size W) K:=
 zF t y b off X.c.toList ho hp hag hs (fun j u hu=>hc j u (by simpa using hu)) hb hk
theorem acL{W:World}{o:Oper}{a:Act}{K:Act->Prop}(X:O26)(t:TypeId)(y:Operand)(b:Nat)(ho:o.op= .load t y)(hp:a.eval y= .pointer (some ⟨b,0,none⟩))(hc:∀t u,X.c2[t]? =some u->W.cell? ⟨b,t,none⟩=some u)(hb:b<W.1.size)
  (hag:∀w:World,(isAgg t).run Tryo.prog w= .ok true w) (hs:∀w:World,(sizeOf t).run Tryo.prog w= .ok 10 w) (hk:K (a.put o.dst (.agg X.c2))):o.quiet Tryo.prog a (Below W.1.size W) K:=
 zF t y b 0 X.c2.toList ho hp hag hs (fun j u hu=>by rw [Nat.zero_add];exact hc j u (by simpa using hu)) hb hk
theorem acJ(o:O26)(n m:Int)(k:Nat)(X:A26)(hn:0<=n)(hn2:n<=65535)(hk:(k:Int)=990+n % 20)(hl:o.t.size<=200)(HX:Ans o m X)(HN:Ans O26.n m {e:=8})(HW:Yes m 6 #[] (.bool true)):Yes m 4 #[o.v,.int .u16 n] (.bool true):=by
 intro w hT
 unfold O26.v
 obtain⟨i0,hi,hz0,hz1,hz2⟩:=TV O26.info
 have d1:decide (200<(o.t.size:Int))=false:=decide_eq_false vO
 have d2:¬ (200:Int)<(o.t.size:Int):=vO
 have m20:n.tmod 20=n % 20:=Int.tmod_eq_emod_of_nonneg hn
 obtain⟨q,hq⟩:∃q,q=n % 20:=⟨_,rfl⟩
 have q0:0<=q:=vO
 have q1:q<20:=vO
 rw [←hq]at hk m20
 have e1:wrap64 (990+q)=(k:Int):=by rw [IntWalk.wrap64_in _ ⟨vO,vO⟩];exact hk.symm
 clear hq
 go_enter (vF Tryz.func4),Tryz.ntmps4
 obtain⟨w2,hr2,ho2,hg2⟩:=Go.run_makeSlice_full (P:=Tryo.prog) (w.alloc (.cells #[o.k,o.a,o.b,o.c,o.l,o.p,o.q,o.r,o.s,o.t] 42)) (w.alloc (.cells #[o.k,o.a,o.b,o.c,o.l,o.p,o.q,o.r,o.s,o.t] 42)).1.size 22 42 i0 (O26.v O26.z) 10 (aB Tryz.underlying22) hi hz0 hz1 .i64 .i64 k vO (by rw [hz2];omega) (by simp only [maxLen];omega) (Nat.le_refl _)
 rw [hk]at hr2
 have hb2:Below w.1.size w w2:=(ba w (.cells #[o.k,o.a,o.b,o.c,o.l,o.p,o.q,o.r,o.s,o.t] 42)).grown hg2 vS (fun k e=>by cases e)
 have hs2:(w.alloc (.cells #[o.k,o.a,o.b,o.c,o.l,o.p,o.q,o.r,o.s,o.t] 42)).1.size=w.1.size+1:=by show(w.1.push _).size=_;simp
 rw [hs2]at hr2 ho2
 have hL0:=Lst.made ho2
 go_wp2_with fail
 go_loopw [7] (fun i wr=>∃ (j:Nat),j<=k/\i= .int .i64 (j:Int)/\Lst wr (w.1.size+1) k (nn j)/\Below (w.1.size+1) w2 wr) (fun i _=>((k:Int)-intOf i).toNat)
 case atStart=>exact⟨0,vO,rfl,hL0,Below.refl _ _⟩
 case round=>
  obtain⟨j,hj,rfl,HL,hB⟩:=hrel
  by_cases hlt:j<k
  ·have dl:decide ((j:Int)<990+q)=true:=decide_eq_true vO
   have dl2:(j:Int)<990+q:=vO
   have hjk:j<k:=hlt
   have c0:wr.cell? ⟨w.1.size+1,j*10,none⟩=some (.int .i64 (nn j j).k):=HL.1 j hlt 0 _ rfl
   have f0:=HL.2 (j*10)
   have HS:=HL.set hlt
   clear HL hL0 ho2 hr2
   go_wp2_with fail
   go_roundw
   case rel=>exact⟨j+1,vO,by first|rfl|(simp;done),HS,hB.setCell (Nat.le_refl _) _⟩
   case measure=>simp [intOf];omega
  ·obtain rfl:j=k:=vO
   have dl:decide ((j:Int)<990+q)=false:=decide_eq_false vO
   have dl2:¬ ((j:Int)<990+q):=vO
   clear hlt
   have hBb:Below (w.alloc (.cells #[o.k,o.a,o.b,o.c,o.l,o.p,o.q,o.r,o.s,o.t] 42)).1.size (w.alloc (.cells #[o.k,o.a,o.b,o.c,o.l,o.p,o.q,o.r,o.s,o.t] 42)) wr:=by
    have h1:Below (w.alloc (.cells #[o.k,o.a,o.b,o.c,o.l,o.p,o.q,o.r,o.s,o.t] 42)).1.size (w.alloc (.cells #[o.k,o.a,o.b,o.c,o.l,o.p,o.q,o.r,o.s,o.t] 42)) w2:=(Below.refl _ _).grown hg2 (Nat.le_refl _) (fun k e=>by cases e)
    refine h1.trans ?_
    rw [hs2]
    exact hB
   have x0:wr.cell? ⟨w.1.size,0,none⟩=some (o.k:vV):=(hBb.cell (p:=⟨w.1.size,0,none⟩) (by show w.1.size<(w.1.push _).size;simp)).trans (World.news_of_block (al0 w _) 0 _ rfl)
   have x1:wr.cell? ⟨w.1.size,1,none⟩=some (o.a:vV):=(hBb.cell (p:=⟨w.1.size,1,none⟩) (by show w.1.size<(w.1.push _).size;simp)).trans (World.news_of_block (al0 w _) 1 _ rfl)
   have x2:wr.cell? ⟨w.1.size,2,none⟩=some (o.b:vV):=(hBb.cell (p:=⟨w.1.size,2,none⟩) (by show w.1.size<(w.1.push _).size;simp)).trans (World.news_of_block (al0 w _) 2 _ rfl)
   have x3:wr.cell? ⟨w.1.size,3,none⟩=some (o.c:vV):=(hBb.cell (p:=⟨w.1.size,3,none⟩) (by show w.1.size<(w.1.push _).size;simp)).trans (World.news_of_block (al0 w _) 3 _ rfl)
   have x4:wr.cell? ⟨w.1.size,4,none⟩=some (.bool o.l):=(hBb.cell (p:=⟨w.1.size,4,none⟩) (by show w.1.size<(w.1.push _).size;simp)).trans (World.news_of_block (al0 w _) 4 _ rfl)
   have x5:wr.cell? ⟨w.1.size,5,none⟩=some (o.p:vV):=(hBb.cell (p:=⟨w.1.size,5,none⟩) (by show w.1.size<(w.1.push _).size;simp)).trans (World.news_of_block (al0 w _) 5 _ rfl)
   have x6:wr.cell? ⟨w.1.size,6,none⟩=some (o.q:vV):=(hBb.cell (p:=⟨w.1.size,6,none⟩) (by show w.1.size<(w.1.push _).size;simp)).trans (World.news_of_block (al0 w _) 6 _ rfl)
   have x7:wr.cell? ⟨w.1.size,7,none⟩=some (o.r:vV):=(hBb.cell (p:=⟨w.1.size,7,none⟩) (by show w.1.size<(w.1.push _).size;simp)).trans (World.news_of_block (al0 w _) 7 _ rfl)
   have x8:wr.cell? ⟨w.1.size,8,none⟩=some (o.s:vV):=(hBb.cell (p:=⟨w.1.size,8,none⟩) (by show w.1.size<(w.1.push _).size;simp)).trans (World.news_of_block (al0 w _) 8 _ rfl)
   have x9:wr.cell? ⟨w.1.size,9,none⟩=some (.string o.t):=(hBb.cell (p:=⟨w.1.size,9,none⟩) (by show w.1.size<(w.1.push _).size;simp)).trans (World.news_of_block (al0 w _) 9 _ rfl)
   have hth:wr.there (w.1.size+1) 0 10:=fun t ht=>by
    refine⟨?_,HL.2 _⟩
    have h1:t<(nn j 0).c2.size:=by simpa [O26.c2]using ht
    have:=HL.1 0 vO t _ (Array.getElem?_eq_getElem h1)
    simp only [Nat.zero_mul]at this
    rw [this];rfl
   -- THE REST
   have HL3:=HL.head o vO
   have hB3:Below w.1.size w (wr.setCells (w.1.size+1) 0 o.c2.toList):=acj vO _ _ _ (hb2.trans (hB.mono vO))
   have HO3:∀t u,o.c2[t]? =some u->(wr.setCells (w.1.size+1) 0 o.c2.toList).cell? ⟨w.1.size,t,none⟩=some u:=by
    intro t u hu
    rw [World.cell?_setCells_out _ _ _ _ _ (fun e _=>absurd e (by show w.1.size≠w.1.size+1;omega))]
    have ht:t<10:=by have:=(Array.getElem?_eq_some_iff.1 hu).1;simpa [O26.c2]using this
    have:t=0∨t=1∨t=2∨t=3∨t=4∨t=5∨t=6∨t=7∨t=8∨t=9:=vO
    rcases this with rfl|rfl|rfl|rfl|rfl|rfl|rfl|rfl|rfl|rfl <;> simp [O26.c2]at hu <;> subst hu <;> assumption
   have hs3:w.1.size+1<(wr.setCells (w.1.size+1) 0 o.c2.toList).1.size:=by
    have:=HL3.1 0 vO 0 _ rfl
    exact World.block_lt_of_cell? _ _ this
   generalize hw3:wr.setCells (w.1.size+1) 0 o.c2.toList=w3 at HL3 hB3 HO3 hs3
   go_wp2_with (refine acH rfl _ _ rfl _ o rfl rfl hth ?_;rw [hw3];rintro w3 rfl)
   have hBw3:=hB3
   have hO4:Ops w3 (w.1.size+1) 0 (o :: List.replicate (j-1) O26.n):=by
    intro i y t u hi ht
    have hjl:i<j:=by have:=(List.getElem?_eq_some_iff.1 hi).1;simp at this;omega
    rw [show 0+i*10+t=i*10+t by omega]
    refine HL3.1 i hjl t u ?_
    cases i with
    |zero=>simp at hi;subst hi;simpa using ht
    |succ i=>
     simp only [List.getElem?_cons_succ]at hi
     obtain⟨h1,h2⟩:=List.getElem?_eq_some_iff.1 hi
     simp at h2
     subst h2
     simpa using ht
   have hTw:=hT.below hB3
   clear hL0 ho2 hr2 HL HL3 hBb x0 x1 x2 x3 x4 x5 x6 x7 x8 x9 hth hB hg2 hs2 hb2 hi hz0 hz1 hz2
   by_cases hbig:1000<j
   ·refine(abM (.bool true) j (some ⟨w.1.size+1,0,none⟩) j w3 hbig vO).mono ?_
    rintro e w4 ⟨rfl,rfl⟩
    have dg:decide ((1000:Int)<990+q)=true:=decide_eq_true vO
    have dg2:(1000:Int)<990+q:=vO
    go_wp2_with fail
    refine(HW _ hTw).mono ?_
    rintro e w4 ⟨rfl,hb4⟩
    go_wp2_with fail
    go_ret
    exact⟨rfl,hBw3.trans (hb4.mono hBw3.size)⟩
   ·have hR:=run26 m (o :: List.replicate (j-1) O26.n) (X :: List.replicate (j-1) {e:=8}) (w.1.size+1) 0 j w3 hTw vS vQ hO4 (by
     intro i y x hi hx
     cases i with
     |zero=>simp at hi hx;subst hi;subst hx;exact HX
     |succ i=>
      simp only [List.getElem?_cons_succ]at hi hx
      obtain⟨h1,h2⟩:=List.getElem?_eq_some_iff.1 hi
      obtain⟨h3,h4⟩:=List.getElem?_eq_some_iff.1 hx
      simp at h2 h4
      subst h2
      subst h4
      exact HN)
    rw [show(o :: List.replicate (j-1) O26.n).length=j by simp;omega]at hR
    refine hR.mono ?_
    rintro e w4 ⟨v,rfl,hOw,hb4⟩
    rcases hOw.2 with ⟨_,h0⟩|⟨g,cap,cur,rfl,hg,hcur,hcap,_,_,_⟩
    ·omega
    have hg4:g<w4.1.size:=(Array.getElem?_eq_some_iff.1 hcur).1
    have hcl:∀ (i t:Nat) (x:A26) (u:Value),(X :: List.replicate (j-1) ({e:=8}:A26))[i]? =some x->x.c[t]? =some u->w4.cell? ⟨g,i*14+t,none⟩=some u:=by
     intro i t x u h1 h2
     have:=World.ownsRow.cells hOw rfl (i*14+t) u (A26.acy _ i t x u h1 h2)
     rwa [Addr.add_lit,Nat.zero_add]at this
    have c0:∀t u,X.c[t]? =some u->w4.cell? ⟨g,0+t,none⟩=some u:=fun t u h=>by
     have:=hcl 0 t X u rfl h
     rwa [Nat.zero_mul]at this
    have c1:∀off,off=(j-1)*14->∀t u,(A26.c {e:=8})[t]? =some u->w4.cell? ⟨g,off+t,none⟩=some u:=fun off e t u h=>by
     rw [e]
     refine hcl (j-1) t {e:=8} u ?_ h
     rw [show j-1=(j-2)+1 by omega,List.getElem?_cons_succ,List.getElem?_replicate,if_pos vO]
    have hB4:Below w.1.size w w4:=hBw3.trans (hb4.mono hBw3.size)
    have hw4:w.1.size<w4.1.size:=by have:=hb4.size;omega
    have HO4:∀t u,o.c2[t]? =some u->w4.cell? ⟨w.1.size,t,none⟩=some u:=fun t u h=>(hb4.cell (p:=⟨w.1.size,t,none⟩) (by show w.1.size<w3.1.size;omega)).trans (HO3 t u h)
    have hT4:=hT.below hB4
    have HD:=do26 o m X HX
    have hE:=fun W=>eq26 X W
    have hE2:=fun W=>eq26 {e:=8} W
    dsimp only [A26.v,A26.c]at HD hE hE2
    clear hO4 hOw hcl hcur HO3
    have dg:decide ((1000:Int)<990+q)=false:=decide_eq_false vO
    have dg2:¬ (1000:Int)<990+q:=vO
    have i1:(990+q-1:Int)<(j:Int):=vO
    have i2:¬ (990+q-1:Int)<0:=vO
    have i3:(0:Int)<=990+q-1:=vO
    have i4:(0:Int)<(j:Int):=vO
    go_wp2_with fail
    refine bP vK vK (fun hall=> ?_)
    repeat(first|go_big_quiet_skip|(go_big_quiet_want;first|(refine acK X _ _ _ _ rfl rfl c0 hg4 ?_ ?_ ?_;(focus (intro _;simp;done));(focus (intro _;simp;done));unfold A26.c;go_simp;go_big_quiet_on)|(refine acK {e:=8} _ _ _ _ rfl rfl (c1 _ (by first|omega|(simp;omega))) hg4 ?_ ?_ ?_;(focus (intro _;simp;done));(focus (intro _;simp;done));unfold A26.c;go_simp;go_big_quiet_on)|(refine acL o _ _ _ rfl rfl HO4 hw4 ?_ ?_ ?_;(focus (intro _;simp;done));(focus (intro _;simp;done));unfold O26.c2;go_simp;go_big_quiet_on)|(go_big_quiet_op;first|go_big_quiet_on|(apply Exists.intro;refine⟨fun x hx=> ?_, ?_⟩;(first|exact dn hx (HW _ (hT4.below hx))|exact dn hx (HD _ (hT4.below hx)));go_big_quiet_on))))
    refine wpQuiet_nil ?_
    clear hall
    intro x0 hx0
    go_wp2_with fail
    go_ret
    exact⟨rfl,hB4.trans (hx0.mono hB4.size)⟩
end Go.Proofs.YtjmdplapinflnaaGreatDoor
