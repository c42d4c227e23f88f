import Derived.Test.YthpipedifekmpaaGreatDoorJLA
import Derived.LoopTactic
import Derived.Test.YthpipedifekmpaaGreatDoorJBB
import Derived.StillTail
import Derived.Deep.Quiet
import Derived.Deep.RegionHeld
set_option maxHeartbeats 8000000
set_option maxRecDepth 100000
set_option linter.unusedVariables false
namespace Go.Proofs.YthpipedifekmpaaGreatDoor
section
open Go.ChangeShapes Go.WideShapes Go.ChangeAt Go.RowKit
end
section
open Go.RowKit
section
variable {P:Program} {ops:Array Oper} {md:Region.Mode} {C:World->Prop}
end
end
section
section
variable {P:Program} {ops:Array Oper} {Q:Exit->Act->World->Prop} {md:Region.Mode} {c:Nat} {w0:World}
def anyUntil(P:Program)(md:Region.Mode)(ops:Array Oper)(Q:Exit->Act->World->Prop)(c:Nat)(w0:World):Nat->Array Bool->Act->World->Prop
 |0,listed,a,w=>Region.ready md ops listed= []/\Q .normal a w
 |f+1,listed,a,w=>(Region.ready md ops listed= []->Q .normal a w)/\∀i∈Region.ready md ops listed,wpOp P ops Q i (fun a' w'=>((listed.setIfInBounds i true).getD c true=false->w'=w0)/\anyUntil P md ops Q c w0 f (listed.setIfInBounds i true) a' w') a w
theorem any_of_until:∀ (f:Nat) (listed:Array Bool) (a:Act) (w:World),anyUntil P md ops Q c w0 f listed a w->wpAny P md ops Q f listed a w
 |0,_,_,_,h=>h
 |f+1,_,_,_,h=>⟨h.1,fun i hi=>wpOp_mono (fun a' w' h'=>any_of_until f _ a' w' h'.2) (h.2 i hi)⟩
theorem until_first{S:World->Prop}{i:Nat}{oi:Oper}{v:Value}(hi:ops[i]? =some oi)(hsel:∀ (j:Nat) (o:Oper) cs b,ops[j]? =some o->o.op≠ .select cs b)
  (hQ:∀b a w,Q (.panic b) (a.put oi.dst v) w->Q (.panic b) a w) (hne:c≠i) (hS:(∀w,S w)∨(S w0/\Region.waitsFor md ops c i=true)):
  ∀ (f:Nat) (listed:Array Bool) (a:Act) (w:World),
   (∀j oj,ops[j]? =some oj->j≠i->listed.getD j true=false->(∀e∈oj.after,Region.binds md e=true->e.on≠i)->oi.apart ops oj=true)->
   ((∀w,S w)∨listed.getD c true=false)->(listed.getD c true=false->w=w0)->
   i∈Region.ready md ops listed->YieldsIf P ops S oi v a->
   anyUntil P md ops Q c w0 f (listed.setIfInBounds i true) (a.put oi.dst v) w->anyUntil P md ops Q c w0 (f+1) listed a w:=by
 have hat:∀ (listed:Array Bool) (w:World),((∀w,S w)∨listed.getD c true=false)->(listed.getD c true=false->w=w0)->S w:=by
  intro listed w h1 h2
  rcases h1 with h|h
  ·exact h w
  ·rw [h2 h]
   rcases hS with h3|h3
   ·exact h3 _
   ·exact h3.1
 intro f
 induction f with
 | zero=>
  intro listed a w _ hc hw hr hy H
  refine⟨fun h=>(by rw [h]at hr;cases hr),fun j hj=> ?_⟩
  by_cases hji:j=i
  ·subst hji;exact hy.wpOp hi (hat listed w hc hw) ⟨fun h=>hw (by rwa [getD_set_ne true (Ne.symm hne)]at h),H⟩
  ·have:=ready_mono hj hji
   rw [H.1]at this
   cases this
 | succ f ih=>
  intro listed a w hfree hc hw hr hy H
  refine⟨fun h=>(by rw [h]at hr;cases hr),fun j hj=> ?_⟩
  by_cases hji:j=i
  ·subst hji;exact hy.wpOp hi (hat listed w hc hw) ⟨fun h=>hw (by rwa [getD_set_ne true (Ne.symm hne)]at h),H⟩
  ·have h1:=H.2 j (ready_mono hj hji)
   obtain⟨hjun,oj,hoj,hall⟩:=mem_ready.1 hj
   have hun:=(mem_ready.1 hr).1
   have hnot:∀e∈oj.after,Region.binds md e=true->e.on≠i:=fun e he hb heq=>by
    have h1:=hall e he hb
    rw [heq]at h1
    rw [getD_both hun]at h1
    cases h1
   have h2:=wpOp_putIf hoj (hfree j oj hoj hji hjun hnot) (fun cs b=>hsel i oi cs b hi) (fun cs b=>hsel j oj cs b hoj) hQ hy h1
   have hfree':∀k ok,ops[k]? =some ok->k≠i->(listed.setIfInBounds j true).getD k true=false->
     (∀e∈ok.after,Region.binds md e=true->e.on≠i)->oi.apart ops ok=true:=fun k ok hk hki hun hno=>by
    refine hfree k ok hk hki ?_ hno
    by_cases hjk:j=k
    ·subst hjk;exact hjun
    ·rw [getD_set_ne true hjk]at hun;exact hun
   have hc':(∀w,S w)∨(listed.setIfInBounds j true).getD c true=false:=by
    rcases hS with h|⟨_,h⟩
    ·exact .inl h
    rcases hc with h'|h'
    ·exact .inl h'
    refine .inr ?_
    have hjc:j≠c:=fun e=>by
     subst e
     obtain⟨o',ho',e',he',hb',hon⟩:=Region.waitsFor_spec h
     have:o'=oj:=Option.some.inj (ho'.symm.trans hoj)
     subst this
     exact hnot e' he' hb' hon
    rw [getD_set_ne true hjc];exact h'
   refine wpOp_mono (fun a' w' h3=> ?_) h2
   have hw':(listed.setIfInBounds j true).getD c true=false->w'=w0:=fun h=>h3.2.1 (by rw [Array.setIfInBounds_comm _ _ (Ne.symm hji),getD_set_ne true (Ne.symm hne)];exact h)
   exact⟨hw',ih (listed.setIfInBounds j true) a' w' hfree' hc' hw' (ready_mono hr (Ne.symm hji)) h3.1 (by rw [Array.setIfInBounds_comm _ _ hji];exact h3.2.2)⟩
theorem until_pure{i:Nat}{oi:Oper}{v:Value}{f:Nat}{listed:Array Bool}{a:Act}{w:World}(hi:ops[i]? =some oi)
  (hs:Region.noSelect ops=true) (hf:Region.free md ops listed i=true) (hr:(Region.ready md ops listed).contains i=true) (hne:decide (c≠i)=true)
  (hQ:∀b a w,Q (.panic b) (a.put oi.dst v) w->Q (.panic b) a w) (hw:listed.getD c true=false->w=w0) (hy:Yields P ops oi v a)
  (h:anyUntil P md ops Q c w0 f (listed.setIfInBounds i true) (a.put oi.dst v) w):anyUntil P md ops Q c w0 (f+1) listed a w:=
 until_first (S:=fun _=>True) hi (Region.noSelect_spec hs) hQ (of_decide_eq_true hne) (.inl fun _=>trivial) f listed a w (Region.free_spec hi hf) (.inl fun _=>trivial) hw (by simpa using hr) hy.yieldsIf h
theorem until_read{i:Nat}{oi:Oper}{v:Value}{f:Nat}{listed:Array Bool}{a:Act}(hi:ops[i]? =some oi)
  (hs:Region.noSelect ops=true) (hf:Region.free md ops listed i=true) (hr:(Region.ready md ops listed).contains i=true) (hne:(decide (c≠i)&&Region.waitsFor md ops c i&& !listed.getD c true)=true)
  (hQ:∀b a w,Q (.panic b) (a.put oi.dst v) w->Q (.panic b) a w) (hwd:Region.wanted oi (yielded ops a.tmps)=true) (hy:(execOp a.eval oi).run P w0= .ok (.value v) w0)
  (h:anyUntil P md ops Q c w0 f (listed.setIfInBounds i true) (a.put oi.dst v) w0):anyUntil P md ops Q c w0 (f+1) listed a w0:=by
 simp only [Bool.and_eq_true,Bool.not_eq_true',decide_eq_true_eq]at hne
 exact until_first (S:=fun x=>x=w0) hi (Region.noSelect_spec hs) hQ hne.1.1 (.inr ⟨rfl,hne.1.2⟩) f listed a w0 (Region.free_spec hi hf) (.inr hne.2) (fun _=>rfl) (by simpa using hr) (.inl ⟨hwd,by rintro x rfl;exact hy⟩) h
theorem up(i:Nat){oi:Oper}{v:Value}{f:Nat}{listed:Array Bool}{a:Act}{w:World}(hi:ops[i]? =some oi)(hy:∀w',(execOp a.eval oi).run P w'= .ok (.value v) w')
 (h:anyUntil P md ops Q c w0 f (listed.setIfInBounds i true) (a.put oi.dst v) w) (hs:Region.noSelect ops=true:=by kernel_rfl) (hf:Region.free md ops listed i=true:=by kernel_rfl) (hr:(Region.ready md ops listed).contains i=true:=by kernel_rfl) (hne:decide (c≠i)=true:=by kernel_rfl)
 (hQ:∀b a w,Q (.panic b) (a.put oi.dst v) w->Q (.panic b) a w:=by exact fun _ _ _ h=>h) (hw:listed.getD c true=false->w=w0:=by exact fun _=>rfl) (hg:Region.wanted oi (yielded ops a.tmps)=true:=by rfl):anyUntil P md ops Q c w0 (f+1) listed a w:=
 until_pure hi hs hf hr hne hQ hw (.inl ⟨hg,hy⟩) h
theorem uq(i:Nat){oi:Oper}{v:Value}{f:Nat}{listed:Array Bool}{a:Act}{w:World}(hi:ops[i]? =some oi)(hy:∀w',(execOp a.eval oi).run P w'= .ok (.value v) w')
 (h:anyUntil P md ops Q c w0 f (listed.setIfInBounds i true) (a.put oi.dst v) w) (hs:Region.noSelect ops=true:=by kernel_rfl) (hf:Region.free md ops listed i=true:=by kernel_rfl) (hr:(Region.ready md ops listed).contains i=true:=by kernel_rfl) (hne:decide (c≠i)=true:=by kernel_rfl)
 (hQ:∀b a w,Q (.panic b) (a.put oi.dst v) w->Q (.panic b) a w:=by exact fun _ _ _ h=>h) (hw:listed.getD c true=false->w=w0:=by exact fun h=>by cases h) (hg:Region.wanted oi (yielded ops a.tmps)=true:=by rfl):anyUntil P md ops Q c w0 (f+1) listed a w:=
 until_pure hi hs hf hr hne hQ hw (.inl ⟨hg,hy⟩) h
theorem ur(i:Nat){oi:Oper}{v:Value}{f:Nat}{listed:Array Bool}{a:Act}(hi:ops[i]? =some oi)(hy:(execOp a.eval oi).run P w0= .ok (.value v) w0)
 (h:anyUntil P md ops Q c w0 f (listed.setIfInBounds i true) (a.put oi.dst v) w0) (hs:Region.noSelect ops=true:=by kernel_rfl) (hf:Region.free md ops listed i=true:=by kernel_rfl) (hr:(Region.ready md ops listed).contains i=true:=by kernel_rfl) (hne:(decide (c≠i)&&Region.waitsFor md ops c i&& !listed.getD c true)=true:=by kernel_rfl)
 (hQ:∀b a w,Q (.panic b) (a.put oi.dst v) w->Q (.panic b) a w:=by exact fun _ _ _ h=>h) (hwd:Region.wanted oi (yielded ops a.tmps)=true:=by rfl):anyUntil P md ops Q c w0 (f+1) listed a w0:=
 until_read hi hs hf hr hne hQ hwd hy h
theorem until_one{k:Nat}{o:Oper}{f:Nat}{listed:Array Bool}{a:Act}{w:World}(ho:ops[k]? =some o)(hr:decide (Region.ready md ops listed= [k])=true)(hk:(listed.setIfInBounds k true).getD c true=true)
  (h:∀K':Act->World->Prop,Shut (∀a w,anyUntil P md ops Q c w0 f (listed.setIfInBounds k true) a w->K' a w)->if Region.wanted o (yielded ops a.tmps)=true then Oper.wp P o a w K' Q else K' (a.put o.dst undef) w):
  anyUntil P md ops Q c w0 (f+1) listed a w:=by
 have hr':=of_decide_eq_true hr
 refine⟨fun h0=>(by rw [hr']at h0;cases h0),fun i hi=> ?_⟩
 rw [hr']at hi
 obtain rfl:i=k:=by simpa using hi
 exact wpOp_step ho (fun K' hK=>h K' (fun a w hA=>hK a w ⟨fun h1=>(by rw [hk]at h1;cases h1),hA⟩))
theorem until_done{listed:Array Bool}{a:Act}{w:World}(hr:Region.ready md ops listed= [])(h:Q .normal a w):∀f,anyUntil P md ops Q c w0 f listed a w
 |0=>⟨hr,h⟩
 |_+1=>⟨fun _=>h,by rw [hr];simp⟩
theorem wp_region_until{id:Nat}{a:Act}{w:World}(c:Nat)(hm:P.follows .mixedOrders=true)
  (h:anyUntil P .any ops Q c w.drew ops.size (Array.replicate ops.size false) a w.drew):(Code.region id ops true).wp P Q a w:=
 wp_region_any hm (any_of_until _ _ _ _ h)
end
end
end Go.Proofs.YthpipedifekmpaaGreatDoor
