import Derived.Test.YtljbnicolhhicaaGreatDoorZBB
import Derived.StillTail
set_option maxHeartbeats 8000000
set_option maxRecDepth 100000
set_option linter.unusedVariables false
namespace Go.Proofs.YtljbnicolhhicaaGreatDoor
open Go.ChangeShapes Go.WideShapes Go.ChangeAt Go.RowKit
section
variable {P:Program} {ops:Array Oper} {md:Region.Mode} {C:World->Prop}
def CU(P:Program)(md:Region.Mode)(ops:Array Oper)(C:World->Prop)(n:Nat)(L:Array Bool->Act->Prop):Nat->Array Bool->Act->Prop
 |0,listed,a=>L listed a
 |f+1,listed,a=>Region.ready md ops listed≠ []/\∀i∈Region.ready md ops listed,i<n/\qOp P ops C i (CU P md ops C n L f (listed.setIfInBounds i true)) a
theorem E5{n g:Nat}{L:Array Bool->Act->Prop}{Q':Exit->Act->World->Prop}(hL:∀listed a w,C w->L listed a->wpAny P md ops Q' g listed a w):
  ∀ (f:Nat) (listed:Array Bool) (a:Act) (w:World),C w->CU P md ops C n L f listed a->wpAny P md ops Q' (f+g) listed a w
 |0,listed,a,w,hw,h=>by rw [Nat.zero_add];exact hL _ _ _ hw h
 |f+1,listed,a,w,hw,h=>by
  rw [show f+1+g=(f+g)+1 by omega]
  exact⟨fun h0=>absurd h0 h.1,fun i hi=>wpOp_of_qOp hw (fun a' w' hw' h'=>E5 hL f _ a' w' hw' h') (h.2 i hi).2⟩
theorem J9{n i:Nat}{oi:Oper}{v:Value}{L:Array Bool->Act->Prop}(hi:ops[i]? =some oi)(hsel:∀ (j:Nat) (o:Oper) cs b,ops[j]? =some o->o.op≠ .select cs b)
  (hs:Region.sinkB md ops n=true) (hc:Region.chainB md ops n=true) (hn:n<ops.size) (hin:i<n)
  (hdone:∀listed a,L listed a->∀j∈Region.ready md ops listed,n<=j):
  ∀ (f:Nat) (listed:Array Bool) (a:Act),HeadInv md ops n listed->
   (∀j oj,ops[j]? =some oj->j≠i->listed.getD j true=false->(∀e∈oj.after,Region.binds md e=true->e.on≠i)->oi.apart ops oj=true)->
   i∈Region.ready md ops listed->YieldsIn P ops C oi v a->
   CU P md ops C n L f (listed.setIfInBounds i true) (a.put oi.dst v)->CU P md ops C n L (f+1) listed a:=by
 intro f
 induction f with
 | zero=>
  intro listed a inv _ hr hy H
  have hun:=(mem_ready.1 hr).1
  refine⟨fun h=>(by rw [h]at hr;cases hr),fun j hj=> ?_⟩
  have hjn:j<n:=by
   rcases Nat.lt_or_ge j n with h|h
   ·exact h
   ·exact absurd hj (tail_waits hs hc hn inv _ i rfl hin hun j h)
  refine⟨hjn, ?_⟩
  by_cases hji:j=i
  ·subst hji;exact hy.qOp hi H
  ·have:=hdone _ _ H j (ready_mono hj hji)
   omega
 | succ f ih=>
  intro listed a inv hfree hr hy H
  have hun:=(mem_ready.1 hr).1
  refine⟨fun h=>(by rw [h]at hr;cases hr),fun j hj=> ?_⟩
  have hjn:j<n:=by
   rcases Nat.lt_or_ge j n with h|h
   ·exact h
   ·exact absurd hj (tail_waits hs hc hn inv _ i rfl hin hun j h)
  refine⟨hjn, ?_⟩
  by_cases hji:j=i
  ·subst hji;exact hy.qOp hi H
  ·have h1:=(H.2 j (ready_mono hj hji)).2
   obtain⟨hjun,oj,hoj,hall⟩:=mem_ready.1 hj
   have hnot:∀e∈oj.after,Region.binds md e=true->e.on≠i:=fun e he hb heq=>by
    have h1:=hall e he hb
    rw [heq,getD_both hun]at h1
    cases h1
   have h2:=qOp_put hoj (hfree j oj hoj hji hjun hnot) (fun cs b=>hsel i oi cs b hi) (fun cs b=>hsel j oj cs b hoj) hy h1
   have hfree':∀k ok,ops[k]? =some ok->k≠i->(listed.setIfInBounds j true).getD k true=false->
     (∀e∈ok.after,Region.binds md e=true->e.on≠i)->oi.apart ops ok=true:=fun k ok hk hki hun hno=>by
    refine hfree k ok hk hki ?_ hno
    by_cases hjk:j=k
    ·subst hjk;exact hjun
    ·rw [getD_set_ne true hjk]at hun;exact hun
   refine qOp_mono (fun a' h3=>ih (listed.setIfInBounds j true) a' (inv.set hj hjn) hfree' (ready_mono hr (Ne.symm hji)) h3.1 ?_) h2
   rw [Array.setIfInBounds_comm _ _ hji]
   exact h3.2
theorem Fg{n g:Nat}{Lq:Act->Prop}(hsel:Region.noSelect ops=true)(hs:Region.sinkB md ops n=true)(hc:Region.chainB md ops n=true)(hn:n<ops.size):
  ∀ (l:List Oper) (k:Nat) (listed:Array Bool) (a:Act),(∀j,j<l.length->l[j]? =ops[k+j]?)->k+l.length=n->HeadInv md ops n listed->
  Region.lexHead md ops g l.length k listed=true->wpQuiet P ops C Lq l a->
  CU P md ops C n (fun listed' a'=>Region.seqB md ops g n listed'=true/\Lq a') l.length listed a
 | [],k,listed,a,_,hk,_,hB,h=>by
  have:k=n:=by simpa using hk
  subst this
  exact⟨by simpa [Region.lexHead]using hB,h⟩
 | o :: l,k,listed,a,hl,hk,inv,hB,h=>by
  have h0:ops[k]? =some o:=by simpa using(hl 0 vS).symm
  simp only [List.length_cons,Region.lexHead,Bool.and_eq_true]at hB
  obtain⟨⟨hr,hf⟩,hB'⟩:=hB
  have hkn:k<n:=by simp only [List.length_cons]at hk;omega
  have hr':k∈Region.ready md ops listed:=by simpa using hr
  have hst:qOp P ops C k (wpQuiet P ops C Lq l) a:=by unfold qOp;simp only [h0];exact h
  obtain⟨v,hy,hK⟩:=yieldsIn_of_qOp h0 hst
  exact J9 h0 (Region.noSelect_spec hsel) hs hc hn hkn (fun listed' a' hL=>seqB_ready hL.1) l.length listed a inv (Region.free_spec h0 hf) hr' hy
   (Fg hsel hs hc hn l (k+1) _ _ (fun j hj=>by have:=hl (j+1) vQ;simpa [Nat.add_assoc,Nat.add_comm 1 j]using this) (by simp only [List.length_cons]at hk;omega) (inv.set hr' hkn) hB' hK)
end
theorem yN{P:Program}{W:World}{id:Nat}{Q:Exit->Act->World->Prop}{a:Act}{l:List Oper}(n:Nat)(hm:P.follows .mixedOrders=true)(hB:Region.lexTailB .any l.toArray n=true)
  (h:(∀q:Prop,(∀x,Below W.1.size W x->q)=q)->wpQuiet P l.toArray (Below W.1.size W) (fun a'=>∀x,Below W.1.size W x->wpList P l.toArray Q (l.drop n) a' x) (l.take n) a):(Code.region id l.toArray true).wp P Q a W:=by
 simp only [Region.lexTailB,Bool.and_eq_true,decide_eq_true_eq]at hB
 obtain⟨⟨⟨⟨hsel,hn⟩,hs⟩,hc⟩,hlex⟩:=hB
 have hn':n<l.length:=by simpa using hn
 have htl:(l.take n).length=n:=vQ
 have hdl:(l.drop n).length=l.toArray.size-n:=vS
 have inv0:HeadInv .any l.toArray n (Array.replicate l.toArray.size false):=
  ⟨vS,fun j oj _ hl=>(by rw [getD_replicate_false]at hl;cases hl),fun t _ ht=>getD_in (by simpa using ht) (getD_replicate_false _ _)⟩
 have H:=Fg (P:=P) (C:=Below W.1.size W) (md:= .any) (g:=l.toArray.size-n) hsel hs hc hn (l.take n) 0 _ a (fun j hj=>by
  have hj':j<n:=by rw [htl]at hj;exact hj
  simp [hj']) (by simpa using htl) inv0 (by rw [htl];exact hlex) (h Lv)
 refine wp_region_any hm ?_
 have:=E5 (Q':=Q) (g:=l.toArray.size-n) (fun listed a' w' hw hL=>by
  have:=wpAny_of_seq (md:= .any) (Q':=Q) (l.drop n) n listed a' w' (fun j=>by simp [List.getElem?_drop]) (by rw [hdl];exact hL.1) (hL.2 w' hw)
  rwa [hdl]at this) _ _ _ _ (JN W) H
 rw [htl,show n+(l.toArray.size-n)=l.toArray.size by omega]at this
 exact this
section
variable {P:Program} {ops:Array Oper} {Q:Exit->Act->World->Prop} {md:Region.Mode} {c:Nat} {w0:World}
def dx(P:Program)(md:Region.Mode)(ops:Array Oper)(Q:Exit->Act->World->Prop)(c:Nat)(w0:World):Nat->Array Bool->Act->World->Prop
 |0,listed,a,w=>Region.ready md ops listed= []/\Q .normal a w
 |f+1,listed,a,w=>(Region.ready md ops listed= []->Q .normal a w)/\∀i∈Region.ready md ops listed,wpOp P ops Q i (fun a' w'=>((listed.setIfInBounds i true).getD c true=false->w'=w0)/\dx P md ops Q c w0 f (listed.setIfInBounds i true) a' w') a w
theorem Cw:∀ (f:Nat) (listed:Array Bool) (a:Act) (w:World),dx P md ops Q c w0 f listed a w->wpAny P md ops Q f listed a w
 |0,_,_,_,h=>h
 |f+1,_,_,_,h=>⟨h.1,fun i hi=>wpOp_mono (fun a' w' h'=>Cw f _ a' w' h'.2) (h.2 i hi)⟩
theorem FM{S:World->Prop}{i:Nat}{oi:Oper}{v:Value}(hi:ops[i]? =some oi)(hsel:∀ (j:Nat) (o:Oper) cs b,ops[j]? =some o->o.op≠ .select cs b)
  (hQ:∀b a w,Q (.panic b) (a.put oi.dst v) w->Q (.panic b) a w) (hne:c≠i) (hS:(∀w,S w)∨(S w0/\Region.waitsFor md ops c i=true)):
  ∀ (f:Nat) (listed:Array Bool) (a:Act) (w:World),
   (∀j oj,ops[j]? =some oj->j≠i->listed.getD j true=false->(∀e∈oj.after,Region.binds md e=true->e.on≠i)->oi.apart ops oj=true)->
   ((∀w,S w)∨listed.getD c true=false)->(listed.getD c true=false->w=w0)->
   i∈Region.ready md ops listed->YieldsIf P ops S oi v a->
   dx P md ops Q c w0 f (listed.setIfInBounds i true) (a.put oi.dst v) w->dx P md ops Q c w0 (f+1) listed a w:=by
 have hat:∀ (listed:Array Bool) (w:World),((∀w,S w)∨listed.getD c true=false)->(listed.getD c true=false->w=w0)->S w:=by
  intro listed w h1 h2
  rcases h1 with h|h
  ·exact h w
  ·rw [h2 h]
   rcases hS with h3|h3
   ·exact h3 _
   ·exact h3.1
 intro f
 induction f with
 | zero=>
  intro listed a w _ hc hw hr hy H
  refine⟨fun h=>(by rw [h]at hr;cases hr),fun j hj=> ?_⟩
  by_cases hji:j=i
  ·subst hji;exact hy.wpOp hi (hat listed w hc hw) ⟨fun h=>hw (by rwa [getD_set_ne true (Ne.symm hne)]at h),H⟩
  ·have:=ready_mono hj hji
   rw [H.1]at this
   cases this
 | succ f ih=>
  intro listed a w hfree hc hw hr hy H
  refine⟨fun h=>(by rw [h]at hr;cases hr),fun j hj=> ?_⟩
  by_cases hji:j=i
  ·subst hji;exact hy.wpOp hi (hat listed w hc hw) ⟨fun h=>hw (by rwa [getD_set_ne true (Ne.symm hne)]at h),H⟩
  ·have h1:=H.2 j (ready_mono hj hji)
   obtain⟨hjun,oj,hoj,hall⟩:=mem_ready.1 hj
   have hun:=(mem_ready.1 hr).1
   have hnot:∀e∈oj.after,Region.binds md e=true->e.on≠i:=fun e he hb heq=>by
    have h1:=hall e he hb
    rw [heq]at h1
    rw [getD_both hun]at h1
    cases h1
   have h2:=wpOp_putIf hoj (hfree j oj hoj hji hjun hnot) (fun cs b=>hsel i oi cs b hi) (fun cs b=>hsel j oj cs b hoj) hQ hy h1
   have hfree':∀k ok,ops[k]? =some ok->k≠i->(listed.setIfInBounds j true).getD k true=false->
     (∀e∈ok.after,Region.binds md e=true->e.on≠i)->oi.apart ops ok=true:=fun k ok hk hki hun hno=>by
    refine hfree k ok hk hki ?_ hno
    by_cases hjk:j=k
    ·subst hjk;exact hjun
    ·rw [getD_set_ne true hjk]at hun;exact hun
   have hc':(∀w,S w)∨(listed.setIfInBounds j true).getD c true=false:=by
    rcases hS with h|⟨_,h⟩
    ·exact .inl h
    rcases hc with h'|h'
    ·exact .inl h'
    refine .inr ?_
    have hjc:j≠c:=fun e=>by
     subst e
     obtain⟨o',ho',e',he',hb',hon⟩:=Region.waitsFor_spec h
     have:o'=oj:=Option.some.inj (ho'.symm.trans hoj)
     subst this
     exact hnot e' he' hb' hon
    rw [getD_set_ne true hjc];exact h'
   refine wpOp_mono (fun a' w' h3=> ?_) h2
   have hw':(listed.setIfInBounds j true).getD c true=false->w'=w0:=fun h=>h3.2.1 (by rw [Array.setIfInBounds_comm _ _ (Ne.symm hji),getD_set_ne true (Ne.symm hne)];exact h)
   exact⟨hw',ih (listed.setIfInBounds j true) a' w' hfree' hc' hw' (ready_mono hr (Ne.symm hji)) h3.1 (by rw [Array.setIfInBounds_comm _ _ hji];exact h3.2.2)⟩
theorem JA{i:Nat}{oi:Oper}{v:Value}{f:Nat}{listed:Array Bool}{a:Act}{w:World}(hi:ops[i]? =some oi)
  (hs:Region.noSelect ops=true) (hf:Region.free md ops listed i=true) (hr:(Region.ready md ops listed).contains i=true) (hne:decide (c≠i)=true)
  (hQ:∀b a w,Q (.panic b) (a.put oi.dst v) w->Q (.panic b) a w) (hw:listed.getD c true=false->w=w0) (hy:Yields P ops oi v a)
  (h:dx P md ops Q c w0 f (listed.setIfInBounds i true) (a.put oi.dst v) w):dx P md ops Q c w0 (f+1) listed a w:=
 FM (S:=fun _=>True) hi (Region.noSelect_spec hs) hQ (of_decide_eq_true hne) (.inl fun _=>trivial) f listed a w (Region.free_spec hi hf) (.inl fun _=>trivial) hw (by simpa using hr) hy.yieldsIf h
theorem Tc{i:Nat}{oi:Oper}{v:Value}{f:Nat}{listed:Array Bool}{a:Act}(hi:ops[i]? =some oi)
  (hs:Region.noSelect ops=true) (hf:Region.free md ops listed i=true) (hr:(Region.ready md ops listed).contains i=true) (hne:(decide (c≠i)&&Region.waitsFor md ops c i&& !listed.getD c true)=true)
  (hQ:∀b a w,Q (.panic b) (a.put oi.dst v) w->Q (.panic b) a w) (hwd:Region.wanted oi (yielded ops a.tmps)=true) (hy:(execOp a.eval oi).run P w0= .ok (.value v) w0)
  (h:dx P md ops Q c w0 f (listed.setIfInBounds i true) (a.put oi.dst v) w0):dx P md ops Q c w0 (f+1) listed a w0:=by
 simp only [Bool.and_eq_true,Bool.not_eq_true',decide_eq_true_eq]at hne
 exact FM (S:=fun x=>x=w0) hi (Region.noSelect_spec hs) hQ hne.1.1 (.inr ⟨rfl,hne.1.2⟩) f listed a w0 (Region.free_spec hi hf) (.inr hne.2) (fun _=>rfl) (by simpa using hr) (.inl ⟨hwd,by rintro x rfl;exact hy⟩) h
theorem up(i:Nat){oi:Oper}{v:Value}{f:Nat}{listed:Array Bool}{a:Act}{w:World}(hi:ops[i]? =some oi)(hy:∀w',(execOp a.eval oi).run P w'= .ok (.value v) w')
 (h:dx P md ops Q c w0 f (listed.setIfInBounds i true) (a.put oi.dst v) w) (hs:Region.noSelect ops=true:=by kernel_rfl) (hf:Region.free md ops listed i=true:=by kernel_rfl) (hr:(Region.ready md ops listed).contains i=true:=by kernel_rfl) (hne:decide (c≠i)=true:=by kernel_rfl)
 (hQ:∀b a w,Q (.panic b) (a.put oi.dst v) w->Q (.panic b) a w:=by exact fun _ _ _ h=>h) (hw:listed.getD c true=false->w=w0:=by exact fun _=>rfl) (hg:Region.wanted oi (yielded ops a.tmps)=true:=by rfl):dx P md ops Q c w0 (f+1) listed a w:=
 JA hi hs hf hr hne hQ hw (.inl ⟨hg,hy⟩) h
theorem uq(i:Nat){oi:Oper}{v:Value}{f:Nat}{listed:Array Bool}{a:Act}{w:World}(hi:ops[i]? =some oi)(hy:∀w',(execOp a.eval oi).run P w'= .ok (.value v) w')
 (h:dx P md ops Q c w0 f (listed.setIfInBounds i true) (a.put oi.dst v) w) (hs:Region.noSelect ops=true:=by kernel_rfl) (hf:Region.free md ops listed i=true:=by kernel_rfl) (hr:(Region.ready md ops listed).contains i=true:=by kernel_rfl) (hne:decide (c≠i)=true:=by kernel_rfl)
 (hQ:∀b a w,Q (.panic b) (a.put oi.dst v) w->Q (.panic b) a w:=by exact fun _ _ _ h=>h) (hw:listed.getD c true=false->w=w0:=by exact fun h=>by cases h) (hg:Region.wanted oi (yielded ops a.tmps)=true:=by rfl):dx P md ops Q c w0 (f+1) listed a w:=
 JA hi hs hf hr hne hQ hw (.inl ⟨hg,hy⟩) h
theorem ur(i:Nat){oi:Oper}{v:Value}{f:Nat}{listed:Array Bool}{a:Act}(hi:ops[i]? =some oi)(hy:(execOp a.eval oi).run P w0= .ok (.value v) w0)
 (h:dx P md ops Q c w0 f (listed.setIfInBounds i true) (a.put oi.dst v) w0) (hs:Region.noSelect ops=true:=by kernel_rfl) (hf:Region.free md ops listed i=true:=by kernel_rfl) (hr:(Region.ready md ops listed).contains i=true:=by kernel_rfl) (hne:(decide (c≠i)&&Region.waitsFor md ops c i&& !listed.getD c true)=true:=by kernel_rfl)
 (hQ:∀b a w,Q (.panic b) (a.put oi.dst v) w->Q (.panic b) a w:=by exact fun _ _ _ h=>h) (hwd:Region.wanted oi (yielded ops a.tmps)=true:=by rfl):dx P md ops Q c w0 (f+1) listed a w0:=
 Tc hi hs hf hr hne hQ hwd hy h
theorem bG{k:Nat}{o:Oper}{f:Nat}{listed:Array Bool}{a:Act}{w:World}(ho:ops[k]? =some o)(hr:decide (Region.ready md ops listed= [k])=true)(hk:(listed.setIfInBounds k true).getD c true=true)
  (h:∀K':Act->World->Prop,Shut (∀a w,dx P md ops Q c w0 f (listed.setIfInBounds k true) a w->K' a w)->if Region.wanted o (yielded ops a.tmps)=true then Oper.wp P o a w K' Q else K' (a.put o.dst undef) w):
  dx P md ops Q c w0 (f+1) listed a w:=by
 have hr':=of_decide_eq_true hr
 refine⟨fun h0=>(by rw [hr']at h0;cases h0),fun i hi=> ?_⟩
 rw [hr']at hi
 obtain rfl:i=k:=by simpa using hi
 exact wpOp_step ho (fun K' hK=>h K' (fun a w hA=>hK a w ⟨fun h1=>(by rw [hk]at h1;cases h1),hA⟩))
theorem iQ{listed:Array Bool}{a:Act}{w:World}(hr:Region.ready md ops listed= [])(h:Q .normal a w):∀f,dx P md ops Q c w0 f listed a w
 |0=>⟨hr,h⟩
 |_+1=>⟨fun _=>h,by rw [hr];simp⟩
theorem fE{id:Nat}{a:Act}{w:World}(c:Nat)(hm:P.follows .mixedOrders=true)
  (h:dx P .any ops Q c w.drew ops.size (Array.replicate ops.size false) a w.drew):(Code.region id ops true).wp P Q a w:=
 wp_region_any hm (Cw _ _ _ _ h)
end
end Go.Proofs.YtljbnicolhhicaaGreatDoor
