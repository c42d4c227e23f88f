import Derived.Test.YthnjjcoahdhmnaaGreatDoorELA
import Derived.LoopTactic
import Derived.Test.YthnjjcoahdhmnaaGreatDoorEBB
import Derived.StillTail
import Derived.Deep.Quiet
set_option maxHeartbeats 8000000
set_option maxRecDepth 100000
set_option linter.unusedVariables false
namespace Go.Proofs.YthnjjcoahdhmnaaGreatDoor
section
open Go.ChangeShapes Go.WideShapes Go.ChangeAt Go.RowKit
def kG(d:Int):Prop:= -2199023255552<=d/\d<=2199023255552
theorem Ck(v:Int)(w:World)(h0:0<=v)(h1:v<=6):Calls Tryo.prog 273 #[.int .i64 v] w fun e w'=>e= .returned (.bool true)/\w=w':=by
 go_enter Tryo.func273,Tryz.ntmps273
 go_wp2_with fail
 go_ret
 exact⟨fT (by first|rfl|(simp;done)|(simp;omega)),rfl⟩
theorem zo(v:Int)(w:World)(h0:0<=v)(h1:v<=6):Calls Tryo.prog 190 #[.int .i64 v] w fun e w'=>e= .returned (.bool true)/\w=w':=by
 go_enter Tryo.func190,Tryz.ntmps190
 go_wp2_with fail
 go_ret
 exact⟨fT (by first|rfl|(simp;done)|(simp;omega)),rfl⟩
theorem Li(d v a:Int)(w:World)(hd:kG d)(h0:0<=v)(h1:v<=6)(ha:d+(v-d) % 7=a):Calls Tryo.prog 229 #[.int .i64 d,.int .i64 v] w fun e w'=>e= .returned (.int .i64 a)/\w=w':=by
 obtain⟨d1,d2⟩:=hd
 have k1:0<=d % 7:=by omega
 have k2:d % 7<7:=by omega
 have k3:0<=(v-d) % 7:=by omega
 have k4:(v-d) % 7<7:=by omega
 have H1:=Lib.hid (fun w=>aT d w ⟨by omega,by omega⟩)
 have h2:=fun w=>aT (v-d % 7) w ⟨by omega,by omega⟩
 rw [show(v-d % 7) % 7=(v-d) % 7 by omega]at h2
 have H2:=Lib.hid h2
 clear h2
 have HA:=Lib.hid ha
 clear ha
 go_enter Tryo.func229,Tryz.ntmps229
 go_wp2_with fail
 refine(Ck v _ h0 h1).mono ?_
 rintro e w' ⟨rfl,rfl⟩
 go_wp2_with fail
 refine(H1.out _).mono ?_
 rintro e w' ⟨rfl,rfl⟩
 go_wp2_with fail
 refine(H2.out _).mono ?_
 rintro e w' ⟨rfl,rfl⟩
 go_wp2_with fail
 go_ret
 exact⟨jk HA.out,rfl⟩
theorem Ns(d v a:Int)(w:World)(hd:kG d)(h0:0<=v)(h1:v<=6)(ha:d-(d-v) % 7=a):Calls Tryo.prog 226 #[.int .i64 d,.int .i64 v] w fun e w'=>e= .returned (.int .i64 a)/\w=w':=by
 obtain⟨d1,d2⟩:=hd
 have k1:0<=d % 7:=by omega
 have k2:d % 7<7:=by omega
 have k3:0<=(d-v) % 7:=by omega
 have k4:(d-v) % 7<7:=by omega
 have H1:=Lib.hid (fun w=>aT d w ⟨by omega,by omega⟩)
 have h2:=fun w=>aT (d % 7-v) w ⟨by omega,by omega⟩
 rw [show(d % 7-v) % 7=(d-v) % 7 by omega]at h2
 have H2:=Lib.hid h2
 clear h2
 have HA:=Lib.hid ha
 clear ha
 go_enter Tryo.func226,Tryz.ntmps226
 go_wp2_with fail
 refine(Ck v _ h0 h1).mono ?_
 rintro e w' ⟨rfl,rfl⟩
 go_wp2_with fail
 refine(H1.out _).mono ?_
 rintro e w' ⟨rfl,rfl⟩
 go_wp2_with fail
 refine(H2.out _).mono ?_
 rintro e w' ⟨rfl,rfl⟩
 go_wp2_with fail
 go_ret
 exact⟨jk HA.out,rfl⟩
theorem uL(d v a:Int)(w:World)(hd:kG d)(h0:0<=v)(h1:v<=6)(ha:d+(v-d) % 7=a):Calls Tryo.prog 123 #[.int .i64 d,.int .i64 v] w fun e w'=>e= .returned (.int .i64 a)/\w=w':=by
 obtain⟨d1,d2⟩:=hd
 have HA:=Lib.hid ha
 clear ha
 go_enter Tryo.func123,Tryz.ntmps123
 go_wp2_with fail
 refine(zo v _ h0 h1).mono ?_
 rintro e w' ⟨rfl,rfl⟩
 go_wp2_with fail
 go_loop [0] (fun i=>∃n:Nat,n<=6/\i= .int .i64 (d+n)/\Hid ((n:Int)<=(v-d) % 7)) (fun i=>(d+7-intOf i).toNat)
 case atStart=>exact⟨0,by omega,by simp,Lib.hid (by simp;omega)⟩
 case round=>
  obtain⟨n,hn,rfl,hk⟩:=hrel
  have H1:=Lib.hid (fun w=>bS (d+n) w)
  by_cases c:(d+n) % 7=v
  ·rw [c]at H1
   have HC:Hid (d+n=a):=Lib.hid (by have:=HA.out;have:=hk.out;omega)
   clear c
   go_wp2_with fail
   refine(H1.out _).mono ?_
   rintro e w' ⟨rfl,rfl⟩
   go_wp2_with fail
   go_ret
   exact⟨jk HC.out,rfl⟩
  ·have k1:0<=(d+n) % 7:=by omega
   have HK:Hid (((n+1:Nat):Int)<=(v-d) % 7):=Lib.hid (by have:=hk.out;omega)
   have hn6:n<6:=by have:=HK.out;omega
   generalize hg:(d+n) % 7=r at*
   clear hg
   go_wp2_with fail
   refine(H1.out _).mono ?_
   rintro e w' ⟨rfl,rfl⟩
   go_wp2_with fail
   go_round
   case rel=>exact⟨n+1,by omega,by go_num,HK⟩
   case measure=>simp [intOf];omega
theorem Jh(d v a:Int)(w:World)(hd:kG d)(h0:0<=v)(h1:v<=6)(ha:d-(d-v) % 7=a):Calls Tryo.prog 189 #[.int .i64 d,.int .i64 v] w fun e w'=>e= .returned (.int .i64 a)/\w=w':=by
 obtain⟨d1,d2⟩:=hd
 have HA:=Lib.hid ha
 clear ha
 go_enter Tryo.func189,Tryz.ntmps189
 go_wp2_with fail
 refine(zo v _ h0 h1).mono ?_
 rintro e w' ⟨rfl,rfl⟩
 go_wp2_with fail
 go_loop [0] (fun i=>∃n:Nat,n<=6/\i= .int .i64 (d-n)/\Hid ((n:Int)<=(d-v) % 7)) (fun i=>(intOf i-(d-7)).toNat)
 case atStart=>exact⟨0,by omega,by simp,Lib.hid (by simp;omega)⟩
 case round=>
  obtain⟨n,hn,rfl,hk⟩:=hrel
  have H1:=Lib.hid (fun w=>bS (d-n) w)
  by_cases c:(d-n) % 7=v
  ·rw [c]at H1
   have HC:Hid (d-n=a):=Lib.hid (by have:=HA.out;have:=hk.out;omega)
   clear c
   go_wp2_with fail
   refine(H1.out _).mono ?_
   rintro e w' ⟨rfl,rfl⟩
   go_wp2_with fail
   go_ret
   exact⟨jk HC.out,rfl⟩
  ·have k1:0<=(d-n) % 7:=by omega
   have HK:Hid (((n+1:Nat):Int)<=(d-v) % 7):=Lib.hid (by have:=hk.out;omega)
   have hn6:n<6:=by have:=HK.out;omega
   generalize hg:(d-n) % 7=r at*
   clear hg
   go_wp2_with fail
   refine(H1.out _).mono ?_
   rintro e w' ⟨rfl,rfl⟩
   go_wp2_with fail
   go_round
   case rel=>exact⟨n+1,by omega,by go_num,HK⟩
   case measure=>simp [intOf];omega
end
section
open Go.RowKit
section
variable {P:Program} {ops:Array Oper} {md:Region.Mode} {C:World->Prop}
def mJ(P:Program)(md:Region.Mode)(ops:Array Oper)(C:World->Prop)(n:Nat)(L:Array Bool->Act->Prop):Nat->Array Bool->Act->Prop
 |0,listed,a=>L listed a
 |f+1,listed,a=>Region.ready md ops listed≠ []/\∀i∈Region.ready md ops listed,i<n/\qOp P ops C i (mJ P md ops C n L f (listed.setIfInBounds i true)) a
theorem qG{n g:Nat}{L:Array Bool->Act->Prop}{Q':Exit->Act->World->Prop}(hL:∀listed a w,C w->L listed a->wpAny P md ops Q' g listed a w):
  ∀ (f:Nat) (listed:Array Bool) (a:Act) (w:World),C w->mJ P md ops C n L f listed a->wpAny P md ops Q' (f+g) listed a w
 |0,listed,a,w,hw,h=>by rw [Nat.zero_add];exact hL _ _ _ hw h
 |f+1,listed,a,w,hw,h=>by
  rw [show f+1+g=(f+g)+1 by omega]
  exact⟨fun h0=>absurd h0 h.1,fun i hi=>wpOp_of_qOp hw (fun a' w' hw' h'=>qG hL f _ a' w' hw' h') (h.2 i hi).2⟩
theorem H8{n i:Nat}{oi:Oper}{v:Value}{L:Array Bool->Act->Prop}(hi:ops[i]? =some oi)(hsel:∀ (j:Nat) (o:Oper) cs b,ops[j]? =some o->o.op≠ .select cs b)
  (hs:Region.sinkB md ops n=true) (hc:Region.chainB md ops n=true) (hn:n<ops.size) (hin:i<n)
  (hdone:∀listed a,L listed a->∀j∈Region.ready md ops listed,n<=j):
  ∀ (f:Nat) (listed:Array Bool) (a:Act),HeadInv md ops n listed->
   (∀j oj,ops[j]? =some oj->j≠i->listed.getD j true=false->(∀e∈oj.after,Region.binds md e=true->e.on≠i)->oi.apart ops oj=true)->
   i∈Region.ready md ops listed->YieldsIn P ops C oi v a->
   mJ P md ops C n L f (listed.setIfInBounds i true) (a.put oi.dst v)->mJ P md ops C n L (f+1) listed a:=by
 intro f
 induction f with
 | zero=>
  intro listed a inv _ hr hy H
  have hun:=(mem_ready.1 hr).1
  refine⟨fun h=>(by rw [h]at hr;cases hr),fun j hj=> ?_⟩
  have hjn:j<n:=by
   rcases Nat.lt_or_ge j n with h|h
   ·exact h
   ·exact absurd hj (tail_waits hs hc hn inv _ i rfl hin hun j h)
  refine⟨hjn, ?_⟩
  by_cases hji:j=i
  ·subst hji;exact hy.qOp hi H
  ·have:=hdone _ _ H j (ready_mono hj hji)
   omega
 | succ f ih=>
  intro listed a inv hfree hr hy H
  have hun:=(mem_ready.1 hr).1
  refine⟨fun h=>(by rw [h]at hr;cases hr),fun j hj=> ?_⟩
  have hjn:j<n:=by
   rcases Nat.lt_or_ge j n with h|h
   ·exact h
   ·exact absurd hj (tail_waits hs hc hn inv _ i rfl hin hun j h)
  refine⟨hjn, ?_⟩
  by_cases hji:j=i
  ·subst hji;exact hy.qOp hi H
  ·have h1:=(H.2 j (ready_mono hj hji)).2
   obtain⟨hjun,oj,hoj,hall⟩:=mem_ready.1 hj
   have hnot:∀e∈oj.after,Region.binds md e=true->e.on≠i:=fun e he hb heq=>by
    have h1:=hall e he hb
    rw [heq,getD_both hun]at h1
    cases h1
   have h2:=qOp_put hoj (hfree j oj hoj hji hjun hnot) (fun cs b=>hsel i oi cs b hi) (fun cs b=>hsel j oj cs b hoj) hy h1
   have hfree':∀k ok,ops[k]? =some ok->k≠i->(listed.setIfInBounds j true).getD k true=false->
     (∀e∈ok.after,Region.binds md e=true->e.on≠i)->oi.apart ops ok=true:=fun k ok hk hki hun hno=>by
    refine hfree k ok hk hki ?_ hno
    by_cases hjk:j=k
    ·subst hjk;exact hjun
    ·rw [getD_set_ne true hjk]at hun;exact hun
   refine qOp_mono (fun a' h3=>ih (listed.setIfInBounds j true) a' (inv.set hj hjn) hfree' (ready_mono hr (Ne.symm hji)) h3.1 ?_) h2
   rw [Array.setIfInBounds_comm _ _ hji]
   exact h3.2
theorem Cz{n g:Nat}{Lq:Act->Prop}(hsel:Region.noSelect ops=true)(hs:Region.sinkB md ops n=true)(hc:Region.chainB md ops n=true)(hn:n<ops.size):
  ∀ (l:List Oper) (k:Nat) (listed:Array Bool) (a:Act),(∀j,j<l.length->l[j]? =ops[k+j]?)->k+l.length=n->HeadInv md ops n listed->
  Region.lexHead md ops g l.length k listed=true->wpQuiet P ops C Lq l a->
  mJ P md ops C n (fun listed' a'=>Region.seqB md ops g n listed'=true/\Lq a') l.length listed a
 | [],k,listed,a,_,hk,_,hB,h=>by
  have:k=n:=by simpa using hk
  subst this
  exact⟨by simpa [Region.lexHead]using hB,h⟩
 | o :: l,k,listed,a,hl,hk,inv,hB,h=>by
  have h0:ops[k]? =some o:=by simpa using(hl 0 (by simp)).symm
  simp only [List.length_cons,Region.lexHead,Bool.and_eq_true]at hB
  obtain⟨⟨hr,hf⟩,hB'⟩:=hB
  have hkn:k<n:=by simp only [List.length_cons]at hk;omega
  have hr':k∈Region.ready md ops listed:=by simpa using hr
  have hst:qOp P ops C k (wpQuiet P ops C Lq l) a:=by unfold qOp;simp only [h0];exact h
  obtain⟨v,hy,hK⟩:=yieldsIn_of_qOp h0 hst
  exact H8 h0 (Region.noSelect_spec hsel) hs hc hn hkn (fun listed' a' hL=>seqB_ready hL.1) l.length listed a inv (Region.free_spec h0 hf) hr' hy
   (Cz hsel hs hc hn l (k+1) _ _ (fun j hj=>by have:=hl (j+1) (by simp;omega);simpa [Nat.add_assoc,Nat.add_comm 1 j]using this) (by simp only [List.length_cons]at hk;omega) (inv.set hr' hkn) hB' hK)
end
theorem ER{P:Program}{W:World}{id:Nat}{Q:Exit->Act->World->Prop}{a:Act}{l:List Oper}(n:Nat)(hm:P.follows .mixedOrders=true)(hB:Region.lexTailB .any l.toArray n=true)
  (h:(∀q:Prop,(∀x,Below W.heap.size W x->q)=q)->wpQuiet P l.toArray (Below W.heap.size W) (fun a'=>∀x,Below W.heap.size W x->wpList P l.toArray Q (l.drop n) a' x) (l.take n) a):(Code.region id l.toArray true).wp P Q a W:=by
 simp only [Region.lexTailB,Bool.and_eq_true,decide_eq_true_eq]at hB
 obtain⟨⟨⟨⟨hsel,hn⟩,hs⟩,hc⟩,hlex⟩:=hB
 have hn':n<l.length:=by simpa using hn
 have htl:(l.take n).length=n:=by simp;omega
 have hdl:(l.drop n).length=l.toArray.size-n:=by simp
 have inv0:HeadInv .any l.toArray n (Array.replicate l.toArray.size false):=
  ⟨by simp,fun j oj _ hl=>(by rw [getD_replicate_false]at hl;cases hl),fun t _ ht=>getD_in (by simpa using ht) (getD_replicate_false _ _)⟩
 have H:=Cz (P:=P) (C:=Below W.heap.size W) (md:= .any) (g:=l.toArray.size-n) hsel hs hc hn (l.take n) 0 _ a (fun j hj=>by
  have hj':j<n:=by rw [htl]at hj;exact hj
  simp [hj']) (by simpa using htl) inv0 (by rw [htl];exact hlex) (h Ad)
 refine wp_region_any hm ?_
 have:=qG (Q':=Q) (g:=l.toArray.size-n) (fun listed a' w' hw hL=>by
  have:=wpAny_of_seq (md:= .any) (Q':=Q) (l.drop n) n listed a' w' (fun j=>by simp [List.getElem?_drop]) (by rw [hdl];exact hL.1) (hL.2 w' hw)
  rwa [hdl]at this) _ _ _ _ (uX W) H
 rw [htl,show n+(l.toArray.size-n)=l.toArray.size by omega]at this
 exact this
end
section
open Go.RowKit
section
variable {P:Program} {ops:Array Oper} {md:Region.Mode} {C:World->Prop}
def yT(md:Region.Mode)(ops:Array Oper)(m n:Nat):Bool:=
 (List.range n).all fun i=>decide (i<m)||(List.range (n+1)).any fun j=>decide (i<j)&&Region.waitsFor md ops j i
theorem Cc{m n:Nat}{listed:Array Bool}(hs:yT md ops m n=true)(hc:Region.chainB md ops n=true)(hn:n<ops.size)(inv:HeadInv md ops n listed):
  ∀ (d i:Nat),n-i=d->m<=i->i<n->listed.getD i true=false->∀t,n<=t->t ∉ Region.ready md ops listed:=by
 intro d
 induction d using Nat.strongRecOn with
 | _ d ih=>
  intro i hd hmi hi hun t ht hr
  obtain⟨_,ot,hot,hall⟩:=mem_ready.1 hr
  have htlt:t<ops.size:=(Array.getElem?_eq_some_iff.1 hot).1
  by_cases htn:t=n
  ·subst htn
   have h1:=List.all_eq_true.1 hs i (List.mem_range.2 hi)
   simp only [Bool.or_eq_true,decide_eq_true_eq]at h1
   rcases h1 with h1|h1
   ·omega
   obtain⟨j,hj,hj2⟩:=List.any_eq_true.1 h1
   simp only [Bool.and_eq_true,decide_eq_true_eq]at hj2
   obtain⟨oj,hoj,e,he,hb,hon⟩:=Region.waitsFor_spec hj2.2
   have hjle:j<=t:=by have:=List.mem_range.1 hj;omega
   by_cases hjt:j=t
   ·subst hjt
    have:oj=ot:=Option.some.inj (hoj.symm.trans hot)
    subst this
    have h2:=hall e he hb
    rw [hon,getD_both hun]at h2
    cases h2
   ·cases hl:listed.getD j false with
    |true=>
     have h2:=inv.closed j oj hoj hl e he hb
     rw [hon,getD_both hun]at h2
     cases h2
    |false=>
     have hjs:j<listed.size:=by rw [inv.size];omega
     exact ih (t-j) (by omega) j rfl (by omega) (by omega) (getD_in hjs hl) t (Nat.le_refl _) hr
  ·have h1:=List.all_eq_true.1 hc t (List.mem_range.2 htlt)
   simp only [Bool.or_eq_true,decide_eq_true_eq]at h1
   rcases h1 with h1|h1
   ·omega
   ·obtain⟨o',ho',e,he,hb,hon⟩:=Region.waitsFor_spec h1
    have:o'=ot:=Option.some.inj (ho'.symm.trans hot)
    subst this
    have h2:=hall e he hb
    rw [hon,getD_both (inv.tail (t-1) (by omega) (by omega))]at h2
    cases h2
theorem GZ{m n i:Nat}{oi:Oper}{v:Value}{L:Array Bool->Act->Prop}(hi:ops[i]? =some oi)(hsel:∀ (j:Nat) (o:Oper) cs b,ops[j]? =some o->o.op≠ .select cs b)
  (hs:yT md ops m n=true) (hc:Region.chainB md ops n=true) (hn:n<ops.size) (hmi:m<=i) (hin:i<n)
  (hdone:∀listed a,L listed a->∀j∈Region.ready md ops listed,n<=j):
  ∀ (f:Nat) (listed:Array Bool) (a:Act),HeadInv md ops n listed->
   (∀j oj,ops[j]? =some oj->j≠i->listed.getD j true=false->(∀e∈oj.after,Region.binds md e=true->e.on≠i)->oi.apart ops oj=true)->
   i∈Region.ready md ops listed->YieldsIn P ops C oi v a->
   mJ P md ops C n L f (listed.setIfInBounds i true) (a.put oi.dst v)->mJ P md ops C n L (f+1) listed a:=by
 intro f
 induction f with
 | zero=>
  intro listed a inv _ hr hy H
  have hun:=(mem_ready.1 hr).1
  refine⟨fun h=>(by rw [h]at hr;cases hr),fun j hj=> ?_⟩
  have hjn:j<n:=by
   rcases Nat.lt_or_ge j n with h|h
   ·exact h
   ·exact absurd hj (Cc hs hc hn inv _ i rfl hmi hin hun j h)
  refine⟨hjn, ?_⟩
  by_cases hji:j=i
  ·subst hji;exact hy.qOp hi H
  ·have:=hdone _ _ H j (ready_mono hj hji)
   omega
 | succ f ih=>
  intro listed a inv hfree hr hy H
  have hun:=(mem_ready.1 hr).1
  refine⟨fun h=>(by rw [h]at hr;cases hr),fun j hj=> ?_⟩
  have hjn:j<n:=by
   rcases Nat.lt_or_ge j n with h|h
   ·exact h
   ·exact absurd hj (Cc hs hc hn inv _ i rfl hmi hin hun j h)
  refine⟨hjn, ?_⟩
  by_cases hji:j=i
  ·subst hji;exact hy.qOp hi H
  ·have h1:=(H.2 j (ready_mono hj hji)).2
   obtain⟨hjun,oj,hoj,hall⟩:=mem_ready.1 hj
   have hnot:∀e∈oj.after,Region.binds md e=true->e.on≠i:=fun e he hb heq=>by
    have h1:=hall e he hb
    rw [heq,getD_both hun]at h1
    cases h1
   have h2:=qOp_put hoj (hfree j oj hoj hji hjun hnot) (fun cs b=>hsel i oi cs b hi) (fun cs b=>hsel j oj cs b hoj) hy h1
   have hfree':∀k ok,ops[k]? =some ok->k≠i->(listed.setIfInBounds j true).getD k true=false->
     (∀e∈ok.after,Region.binds md e=true->e.on≠i)->oi.apart ops ok=true:=fun k ok hk hki hun hno=>by
    refine hfree k ok hk hki ?_ hno
    by_cases hjk:j=k
    ·subst hjk;exact hjun
    ·rw [getD_set_ne true hjk]at hun;exact hun
   refine qOp_mono (fun a' h3=>ih (listed.setIfInBounds j true) a' (inv.set hj hjn) hfree' (ready_mono hr (Ne.symm hji)) h3.1 ?_) h2
   rw [Array.setIfInBounds_comm _ _ hji]
   exact h3.2
theorem y7{m n g:Nat}{Lq:Act->Prop}(hsel:Region.noSelect ops=true)(hs:yT md ops m n=true)(hc:Region.chainB md ops n=true)(hn:n<ops.size):
  ∀ (l:List Oper) (k:Nat) (listed:Array Bool) (a:Act),(∀j,j<l.length->l[j]? =ops[k+j]?)->m<=k->k+l.length=n->HeadInv md ops n listed->
  Region.lexHead md ops g l.length k listed=true->wpQuiet P ops C Lq l a->
  mJ P md ops C n (fun listed' a'=>Region.seqB md ops g n listed'=true/\Lq a') l.length listed a
 | [],k,listed,a,_,_,hk,_,hB,h=>by
  have:k=n:=by simpa using hk
  subst this
  exact⟨by simpa [Region.lexHead]using hB,h⟩
 | o :: l,k,listed,a,hl,hmk,hk,inv,hB,h=>by
  have h0:ops[k]? =some o:=by simpa using(hl 0 (by simp)).symm
  simp only [List.length_cons,Region.lexHead,Bool.and_eq_true]at hB
  obtain⟨⟨hr,hf⟩,hB'⟩:=hB
  have hkn:k<n:=by simp only [List.length_cons]at hk;omega
  have hr':k∈Region.ready md ops listed:=by simpa using hr
  have hst:qOp P ops C k (wpQuiet P ops C Lq l) a:=by unfold qOp;simp only [h0];exact h
  obtain⟨v,hy,hK⟩:=yieldsIn_of_qOp h0 hst
  exact GZ h0 (Region.noSelect_spec hsel) hs hc hn hmk hkn (fun listed' a' hL=>seqB_ready hL.1) l.length listed a inv (Region.free_spec h0 hf) hr' hy
   (y7 hsel hs hc hn l (k+1) _ _ (fun j hj=>by have:=hl (j+1) (by simp;omega);simpa [Nat.add_assoc,Nat.add_comm 1 j]using this) (by omega) (by simp only [List.length_cons]at hk;omega) (inv.set hr' hkn) hB' hK)
end
def Km(md:Region.Mode)(ops:Array Oper)(n:Nat):Bool:=
 (((((Region.noSelect ops&&decide (n<ops.size))&&decide (1<=n))&&yT md ops 1 n)&&Region.chainB md ops n)&&((Region.ready md ops (Array.replicate ops.size false)).contains 0&&Region.free md ops (Array.replicate ops.size false) 0))&&Region.lexHead md ops (ops.size-n) (n-1) 1 ((Array.replicate ops.size false).setIfInBounds 0 true)
theorem Dp{P:Program}{W:World}{id:Nat}{Q:Exit->Act->World->Prop}{a:Act}{l:List Oper}(n:Nat)(o0:Oper)(d0:Tmp)(v0:Value)(h0:l.toArray[0]? =some o0)(hd:o0.dst=some d0)(hQ:∀c a w,Q (.panic c) (a.put o0.dst v0) w->Q (.panic c) a w)
  (hm:P.follows .mixedOrders=true) (hB:Km .any l.toArray n=true) (hw:Region.wanted o0 (yielded l.toArray a.tmps)=true) (hy:∀w,(execOp a.eval o0).run P w= .ok (.value v0) w)
  (h:(∀q:Prop,(∀x,Below W.heap.size W x->q)=q)->wpQuiet P l.toArray (Below W.heap.size W) (fun a'=>∀x,Below W.heap.size W x->wpList P l.toArray Q (l.drop n) a' x) ((l.take n).drop 1) {tmps:=a.tmps.setIfInBounds d0 v0,defers:=a.defers}):(Code.region id l.toArray true).wp P Q a W:=by
 have ea:a.put o0.dst v0={tmps:=a.tmps.setIfInBounds d0 v0,defers:=a.defers}:=by rw [hd];rfl
 rw [←ea]at h
 simp only [Km,Bool.and_eq_true,decide_eq_true_eq]at hB
 obtain⟨⟨⟨⟨⟨⟨hsel,hn⟩,hn1⟩,hs⟩,hc⟩,hr0,hf0⟩,hlex⟩:=hB
 have hn':n<l.length:=by simpa using hn
 have htl:((l.take n).drop 1).length=n-1:=by simp;omega
 have hdl:(l.drop n).length=l.toArray.size-n:=by simp
 have hr0':0∈Region.ready .any l.toArray (Array.replicate l.toArray.size false):=by simpa using hr0
 have inv0:HeadInv .any l.toArray n (Array.replicate l.toArray.size false):=
  ⟨by simp,fun j oj _ hl=>(by rw [getD_replicate_false]at hl;cases hl),fun t _ ht=>getD_in (by simpa using ht) (getD_replicate_false _ _)⟩
 have inv1:=inv0.set hr0' (by omega)
 have H:=y7 (P:=P) (C:=Below W.heap.size W) (md:= .any) (g:=l.toArray.size-n) hsel hs hc hn ((l.take n).drop 1) 1 _ (a.put o0.dst v0) (fun j hj=>by
  have hj':j<n-1:=by rw [htl]at hj;exact hj
  simp only [List.getElem?_drop,List.getElem?_toArray]
  rw [List.getElem?_take,if_pos (by omega)]) (Nat.le_refl _) (by rw [htl];omega) inv1 (by rw [htl];exact hlex) (h Ad)
 refine wp_region_any hm ?_
 have:=qG (Q':=Q) (g:=l.toArray.size-n) (fun listed a' w' hw hL=>by
  have:=wpAny_of_seq (md:= .any) (Q':=Q) (l.drop n) n listed a' w' (fun j=>by simp [List.getElem?_drop]) (by rw [hdl];exact hL.1) (hL.2 w' hw)
  rwa [hdl]at this) _ _ _ _ (uX W) H
 rw [htl,show n-1+(l.toArray.size-n)=l.toArray.size-1 by omega]at this
 have hfin:=wpAny_first h0 (Region.noSelect_spec hsel) hQ (l.toArray.size-1) (Array.replicate l.toArray.size false) a _ (Region.free_spec h0 hf0) hr0' (.inl ⟨hw,hy⟩) this
 rw [show l.toArray.size-1+1=l.toArray.size by omega]at hfin
 exact hfin
end
end Go.Proofs.YthnjjcoahdhmnaaGreatDoor
