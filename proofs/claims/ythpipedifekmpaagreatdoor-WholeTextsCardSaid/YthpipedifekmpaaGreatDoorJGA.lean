import Derived.Conc.Beside
import Derived.Below
import Derived.Laws.Sem
import GoSem.Dispatch
import Derived.Conc.Own4
import Derived.Conc.Listed
import Derived.Conc.LoneCalls
set_option maxHeartbeats 8000000
set_option maxRecDepth 100000
set_option linter.unusedSectionVars false
set_option linter.unusedSimpArgs false
set_option linter.unusedVariables false
namespace Go.Sq
section
open Go
abbrev sw(P:Program)(F:Array Func):Program:=⟨P.toTables,F⟩
structure Lk where
 f:Nat->Prop
 k:Code->Prop
 t:TypeId->Prop
inductive Av(Z:Nat->Prop)(L:Lk):Value->Prop
 |bool (b:Bool):Av Z L (.bool b)
 |int (k:IntKind) (n:Int):Av Z L (.int k n)
 |string (s:ByteArray):Av Z L (.string s)
 |ptr0:Av Z L (.pointer none)
 |ptr {a:Addr}:¬ Z a.block->Av Z L (.pointer (some a))
 |slice0 (l c:Nat):Av Z L (.slice none l c)
 |slice {a:Addr} (l c:Nat):¬ Z a.block->Av Z L (.slice (some a) l c)
 |map0:Av Z L (.map none)
 |map {r:Nat}:¬ Z r->Av Z L (.map (some r))
 |chan0:Av Z L (.chan none)
 |chan {r:Nat}:¬ Z r->Av Z L (.chan (some r))
 |func {f:FuncId} {xs ys:Array Value}:L.f f->(∀v∈xs,Av Z L v)->(∀v∈ys,Av Z L v)->Av Z L (.func (.func f) xs ys)
 |yield {l:Nat}:¬ Z l->Av Z L (.func (.yield l) #[] #[])
 |nilFunc:Av Z L .nilFunc
 |nilIface:Av Z L .nilIface
 |iface {t:TypeId} {v:Value}:Av Z L v->Av Z L (.iface t v)
 |agg {cs:Array Value}:(∀v∈cs,Av Z L v)->Av Z L (.agg cs)
 |tuple {cs:Array Value}:(∀v∈cs,Av Z L v)->Av Z L (.tuple cs)
inductive AvO(Z:Nat->Prop)(L:Lk):Obj->Prop
 |cells {c:Array Value} {t:TypeId} {f:Nat×Nat}:(∀v∈c,Av Z L v)->AvO Z L (.cells c t f)
 |map {es:Array MapEntry} {k:Nat}:(∀e∈es,Av Z L e.key/\Av Z L e.val)->AvO Z L (.map es k)
 |number {a:Addr} {b:Bool}:¬ Z a.block->AvO Z L (.number a b)
 |loop {r:Loop}:r.params.size≠1->L.f r.fn->(∀v∈r.tmps,Av Z L v)->L.k r.assign->L.k r.body->(∀c,r.pending=some c->L.k c)->¬ Z r.defers->AvO Z L (.loop r)
 |deferred:AvO Z L (.deferred (some []))
 |deferred0:AvO Z L (.deferred none)
 |iter (s:ByteArray) (n:Nat):AvO Z L (.stringIter s n)
 |view {a:Addr} {t:TypeId}:¬ Z a.block->L.t t->AvO Z L (.view a t)
structure AvW(Z:Nat->Prop)(L:Lk)(w:World):Prop where
 obj:∀b o,¬ Z b->w.heap[b]? =some o->AvO Z L o
 low:∀b,Z b->b<w.heap.size
inductive HaltOk:Halt->Prop
 |panic (v:Value):HaltOk (.panic v)
 |stuck (s:String):HaltOk (.stuck s)
 |noEntry (s:String):HaltOk (.unsupported (.noEntry s))
 |addr:HaltOk (.unsupported .addressObserved)
 |unsf (s:String):HaltOk (.unsupported (.unsafePointer s))
 |limit (s:String):HaltOk (.unsupported (.resourceLimit s))
def MkOk(m:Mark):Prop:=m= .noRoom∨∃f,m= .extern f
inductive Hyg(P P':Program)(Z:Nat->Prop)(L:Lk){α:Type}(Q:α->Prop):Sem α->Prop
 |pure {a:α}:Q a->Hyg P P' Z L Q (.pure a)
 |load {a:Addr} {k:Value->Sem α}:¬ Z a.block->(∀v,Av Z L v->Hyg P P' Z L Q (k v))->Hyg P P' Z L Q (.load .plain a k)
 |store {a:Addr} {v:Value} {k:Sem α}:¬ Z a.block->Av Z L v->Hyg P P' Z L Q k->Hyg P P' Z L Q (.store .plain a v k)
 |new {o:Obj} {k:Nat->Sem α}:AvO Z L o->(∀r,¬ Z r->Hyg P P' Z L Q (k r))->Hyg P P' Z L Q (.new o k)
 |shape {r:Nat} {k:Option (TypeId×Nat)->Sem α}:¬ Z r->(∀s,Hyg P P' Z L Q (k s))->Hyg P P' Z L Q (.shape r k)
 |frozen {a:Addr} {k:Bool->Sem α}:¬ Z a.block->(∀b,Hyg P P' Z L Q (k b))->Hyg P P' Z L Q (.frozen a k)
 |freeze {a:Addr} {n:Nat} {k:Sem α}:¬ Z a.block->Hyg P P' Z L Q k->Hyg P P' Z L Q (.freeze a n k)
 |getObj {r:Nat} {k:Obj->Sem α}:¬ Z r->(∀o,AvO Z L o->Hyg P P' Z L Q (k o))->Hyg P P' Z L Q (.getObj r k)
 |setObj {r:Nat} {o:Obj} {k:Sem α}:¬ Z r->AvO Z L o->Hyg P P' Z L Q k->Hyg P P' Z L Q (.setObj r o k)
 |choose {q:Question} {k:Nat->Sem α}:(∀n,Hyg P P' Z L Q (k n))->Hyg P P' Z L Q (.choose q k)
 |program {k:Program->Sem α}:k P'=k P->Hyg P P' Z L Q (k P)->Hyg P P' Z L Q (.program k)
 |noRoom {m:Mark} {k:Sem α}:MkOk m->Hyg P P' Z L Q k->Hyg P P' Z L Q (.mark m k)
 |env {k:SysRet->Sem α}:(∀r,Hyg P P' Z L Q (k r))->(∀r w a w',(k r).run P' w≠ .ok a w')->Hyg P P' Z L Q (.sys .env k)
 |halt {h:Halt}:HaltOk h->Hyg P P' Z L Q (.halt h)
section
variable {P P':Program} {Z:Nat->Prop} {L:Lk} {α β:Type} {Q:α->Prop} {R:β->Prop}
theorem Hyg.mono{Q':α->Prop}{s:Sem α}(h:Hyg P P' Z L Q s)(hq:∀a,Q a->Q' a):Hyg P P' Z L Q' s:=by
 induction h with
 |pure h=>exact .pure (hq _ h)
 |load h _ ih=>exact .load h ih
 |store h hv _ ih=>exact .store h hv ih
 |new h _ ih=>exact .new h ih
 |shape h _ ih=>exact .shape h ih
 |frozen h _ ih=>exact .frozen h ih
 |freeze h _ ih=>exact .freeze h ih
 |getObj h _ ih=>exact .getObj h ih
 |setObj h ho _ ih=>exact .setObj h ho ih
 |choose _ ih=>exact .choose ih
 |program h _ ih=>exact .program h ih
 |noRoom hm _ ih=>exact .noRoom hm ih
 |env _ h2 ih=>exact .env ih h2
 |halt h=>exact .halt h
theorem Hyg.bind{s:Sem α}{f:α->Sem β}(h:Hyg P P' Z L Q s)(hf:∀a,Q a->Hyg P P' Z L R (f a)):Hyg P P' Z L R (s>>=f):=by
 show Hyg P P' Z L R (Sem.bind s f)
 induction h with
 |pure h=>exact hf _ h
 |load h _ ih=>exact .load h ih
 |store h hv _ ih=>exact .store h hv ih
 |new h _ ih=>exact .new h ih
 |shape h _ ih=>exact .shape h ih
 |frozen h _ ih=>exact .frozen h ih
 |freeze h _ ih=>exact .freeze h ih
 |getObj h _ ih=>exact .getObj h ih
 |setObj h ho _ ih=>exact .setObj h ho ih
 |choose _ ih=>exact .choose ih
 | @program k e _ ih=>exact .program (show(k P').bind f=(k P).bind f by rw [e]) ih
 |noRoom hm _ ih=>exact .noRoom hm ih
 | @env k _ h2 ih=>
  refine .env ih fun r w b w' e=> ?_
  have e':=(Sem.run_bind' P' (k r) f w).symm.trans e
  cases hk:(k r).run P' w with
  |ok a w1=>exact h2 r w a w1 hk
  |halt h w1=>rw [hk]at e';cases e'
 |halt h=>exact .halt h
end
theorem perf_env(os:Os):Kernel.perform .env os= .done (.strings os.env,os):=by rfl
theorem sys_env(w:World):w.sys .env=(.strings w.os.env,w):=by
 unfold World.sys
 rw [perf_env]
 rfl
structure Rel(Z:Nat->Prop)(w v:World):Prop where
 size:w.heap.size=v.heap.size
 tape:w.tape=v.tape
 drawn:w.drawn=v.drawn
 os:w.os=v.os
 output:w.output=v.output
 same:∀b,¬ Z b->w.heap[b]? =v.heap[b]?
def EvGood(Z:Nat->Prop)(n:Nat)(e:Event):Prop:=
 (∃a wr,e=⟨.cell a,wr,false⟩/\a.block<n/\¬ Z a.block)∨(∃r wr,e=⟨.obj r,wr,false⟩/\r<n/\¬ Z r)∨∃m,MkOk m/\e=⟨.mark m,false,true⟩
theorem EvGood.mono{Z:Nat->Prop}{n m:Nat}{e:Event}(h:EvGood Z n e)(hn:n<=m):EvGood Z m e:=by
 rcases h with ⟨a,wr,rfl,h1,h2⟩|⟨a,wr,rfl,h1,h2⟩|⟨m,hm,rfl⟩
 ·exact .inl ⟨a,wr,rfl,by omega,h2⟩
 ·exact .inr (.inl ⟨a,wr,rfl,by omega,h2⟩)
 ·exact .inr (.inr ⟨m,hm,rfl⟩)
theorem cell_rel{Z:Nat->Prop}{w v:World}(h:Rel Z w v){a:Addr}(ha:¬ Z a.block):w.cell? a=v.cell? a:=by
 unfold World.cell?
 rw [h.same _ ha]
theorem frozen_rel{Z:Nat->Prop}{w v:World}(h:Rel Z w v){a:Addr}(ha:¬ Z a.block):w.frozen? a=v.frozen? a:=by
 unfold World.frozen?
 rw [h.same _ ha]
structure Out{α:Type}(Z:Nat->Prop)(L:Lk)(Q:α->Prop)(P:Program)(s:Sem α)(w:World)(es:Array Event)(a:α)(v':World):Prop where
 val:Q a
 run:∃w' new,s.runT P w es=(.ok a w',es++new)/\Rel Z w' v'/\(∀e∈new,EvGood Z w'.heap.size e)/\w.heap.size<=w'.heap.size/\(∀b,Z b->w'.heap[b]? =w.heap[b]?)
 av:AvW Z L v'
theorem size_setCell'(w:World)(a:Addr)(x:Value):(w.setCell a x).heap.size=w.heap.size:=by simp [World.setCell]
theorem heap_setCell_ne(w:World)(a:Addr)(x:Value){b:Nat}(h:b≠a.block):(w.setCell a x).heap[b]? =w.heap[b]? :=by
 simp [World.setCell,Array.getElem?_modify,Ne.symm h]
theorem heap_setCell_eq(w:World)(a:Addr)(x:Value):(w.setCell a x).heap[a.block]? =(w.heap[a.block]?).map fun| .cells c elem frozen=> .cells (if a.spot.isSome then c else c.setIfInBounds a.off x) elem frozen|o=>o:=by
 simp only [World.setCell,Array.getElem?_modify,if_true]
 congr 1
theorem push_app{α:Type}(es new:Array α)(e:α):es.push e++new=es++(#[e]++new):=by
 apply Array.toList_inj.1
 simp
theorem size_freeze(w:World)(a:Addr)(n:Nat):(w.freeze a n).heap.size=w.heap.size:=by
 unfold World.freeze;split <;> simp
theorem heap_freeze_ne(w:World)(a:Addr)(n:Nat){b:Nat}(h:b≠a.block):(w.freeze a n).heap[b]? =w.heap[b]? :=by
 unfold World.freeze
 split
 ·rfl
 ·simp [Array.getElem?_modify,Ne.symm h]
theorem Rel.setCell{Z:Nat->Prop}{w v:World}(h:Rel Z w v)(a:Addr)(x:Value)(ha:¬ Z a.block):Rel Z (w.setCell a x) (v.setCell a x):=by
 refine⟨by rw [size_setCell',size_setCell',h.size],h.tape,h.drawn,h.os,h.output,fun b hb=> ?_⟩
 by_cases e:b=a.block
 ·subst e
  rw [heap_setCell_eq,heap_setCell_eq,h.same _ ha]
 ·rw [heap_setCell_ne _ _ _ e,heap_setCell_ne _ _ _ e,h.same _ hb]
theorem Rel.freeze{Z:Nat->Prop}{w v:World}(h:Rel Z w v)(a:Addr)(n:Nat)(ha:¬ Z a.block):Rel Z (w.freeze a n) (v.freeze a n):=by
 refine⟨by rw [size_freeze,size_freeze,h.size], ?_, ?_, ?_, ?_,fun b hb=> ?_⟩
 ·unfold World.freeze;split <;> exact h.tape
 ·unfold World.freeze;split <;> exact h.drawn
 ·unfold World.freeze;split <;> exact h.os
 ·unfold World.freeze;split <;> exact h.output
 ·by_cases e:b=a.block
  ·subst e
   unfold World.freeze
   split
   ·exact h.same _ ha
   ·simp only [Array.getElem?_modify,if_true];rw [h.same _ ha]
  ·rw [heap_freeze_ne _ _ _ e,heap_freeze_ne _ _ _ e,h.same _ hb]
theorem Rel.push{Z:Nat->Prop}{w v:World}(h:Rel Z w v)(o:Obj):Rel Z {w with heap:=w.heap.push o} {v with heap:=v.heap.push o}:=by
 refine⟨by simp [h.size],h.tape,h.drawn,h.os,h.output,fun b hb=> ?_⟩
 simp only [Array.getElem?_push,h.size]
 split
 ·rfl
 ·exact h.same _ hb
theorem Rel.setObj{Z:Nat->Prop}{w v:World}(h:Rel Z w v)(r:Nat)(o:Obj):Rel Z {w with heap:=w.heap.setIfInBounds r o} {v with heap:=v.heap.setIfInBounds r o}:=by
 refine⟨by simp [h.size],h.tape,h.drawn,h.os,h.output,fun b hb=> ?_⟩
 by_cases e:r=b
 ·subst e
  simp only [Array.getElem?_setIfInBounds_self,h.size]
 ·rw [Array.getElem?_setIfInBounds_ne e,Array.getElem?_setIfInBounds_ne e,h.same _ hb]
theorem Rel.draw{Z:Nat->Prop}{w v:World}(h:Rel Z w v):Rel Z {w with drawn:=w.drawn+1} {v with drawn:=v.drawn+1}:=
 ⟨h.size,h.tape,by simp [h.drawn],h.os,h.output,h.same⟩
section
variable {Z:Nat->Prop} {L:Lk} {v:World}
theorem AvW.cell(h:AvW Z L v){a:Addr}{x:Value}(ha:¬ Z a.block)(hx:v.cell? a=some x):Av Z L x:=by
 unfold World.cell? at hx
 split at hx
 ·next c t f e=>
  split at hx
  ·cases hx
  ·have:=h.obj _ _ ha e
   cases this with
   |cells hc=>exact hc _ (Array.mem_of_getElem? hx)
 ·cases hx
theorem AvW.setCell(h:AvW Z L v)(a:Addr){x:Value}(hx:Av Z L x):AvW Z L (v.setCell a x):=by
 refine⟨fun b o hb e=> ?_,fun b hb=>by rw [size_setCell'];exact h.low b hb⟩
 by_cases eb:b=a.block
 ·subst eb
  rw [heap_setCell_eq]at e
  obtain⟨o',ho',rfl⟩:=Option.map_eq_some_iff.1 e
  have:=h.obj _ _ hb ho'
  cases this with
  | cells hc=>
   refine .cells fun y hy=> ?_
   split at hy
   ·exact hc y hy
   ·rcases Array.mem_or_eq_of_mem_setIfInBounds hy with m|m
    ·exact hc y m
    ·exact m▸hx
  |map hm=>exact .map hm
  |number hm=>exact .number hm
  |loop a0 a1 a2 a3 a4 a5 a6=>exact .loop a0 a1 a2 a3 a4 a5 a6
  |deferred=>exact .deferred
  |deferred0=>exact .deferred0
  |iter s n=>exact .iter s n
  |view hm ht=>exact .view hm ht
 ·rw [heap_setCell_ne _ _ _ eb]at e
  exact h.obj b o hb e
theorem AvW.freeze(h:AvW Z L v)(a:Addr)(n:Nat):AvW Z L (v.freeze a n):=by
 refine⟨fun b o hb e=> ?_,fun b hb=>by rw [size_freeze];exact h.low b hb⟩
 unfold World.freeze at e
 split at e
 ·exact h.obj b o hb e
 ·simp only [Array.getElem?_modify]at e
  split at e
  ·obtain⟨o',ho',rfl⟩:=Option.map_eq_some_iff.1 e
   have:=h.obj _ _ hb ho'
   cases this with
   |cells hc=>exact .cells hc
   |map hm=>exact .map hm
   |number hm=>exact .number hm
   |loop a0 a1 a2 a3 a4 a5 a6=>exact .loop a0 a1 a2 a3 a4 a5 a6
   |deferred=>exact .deferred
   |deferred0=>exact .deferred0
   |iter s n=>exact .iter s n
   |view hm ht=>exact .view hm ht
  ·exact h.obj b o hb e
theorem AvW.push(h:AvW Z L v){o:Obj}(ho:AvO Z L o):AvW Z L {v with heap:=v.heap.push o}:=by
 refine⟨fun b o' hb e=> ?_,fun b hb=>by simp only [Array.size_push];have:=h.low b hb;omega⟩
 simp only [Array.getElem?_push]at e
 split at e
 ·cases e;exact ho
 ·exact h.obj b o' hb e
theorem AvW.setObj(h:AvW Z L v)(r:Nat){o:Obj}(ho:AvO Z L o):AvW Z L {v with heap:=v.heap.setIfInBounds r o}:=by
 refine⟨fun b o' hb e=> ?_,fun b hb=>by simp only [Array.size_setIfInBounds];exact h.low b hb⟩
 by_cases eb:r=b
 ·subst eb
  simp only [Array.getElem?_setIfInBounds_self]at e
  split at e
  ·cases e;exact ho
  ·cases e
 ·rw [Array.getElem?_setIfInBounds_ne eb]at e
  exact h.obj b o' hb e
theorem AvW.draw(h:AvW Z L v)(d:Nat):AvW Z L {v with drawn:=d}:=⟨h.obj,h.low⟩
end
theorem lt_of_heap{w:World}{b:Nat}{o:Obj}(h:w.heap[b]? =some o):b<w.heap.size:=(Array.getElem?_eq_some_iff.1 h).1
theorem lt_of_cell{w:World}{a:Addr}{x:Value}(h:w.cell? a=some x):a.block<w.heap.size:=by
 unfold World.cell? at h
 split at h
 ·next e=>exact lt_of_heap e
 ·cases h
def getC(p:Program)(w:World)(a:Addr):Except Halt (Value×List Addr):=match w.cell? a with
 |some v=> .ok (v,[a])
 |none=>w.farLoad p a false
def putC(p:Program)(w:World)(a:Addr)(x:Value):Except Halt (World×List Addr):=match w.cell? a with
 |some _=>if w.frozen? a then .error (.unsupported (.unsafePointer "a write to bytes that a string shares"))else .ok (w.setCell a x,[a])
 |none=>w.farStore p a x false
theorem run_load{α:Type}(p:Program)(a:Addr)(k:Value->Sem α)(w:World):Sem.run p (.load .plain a k) w=match getC p w a with
  | .ok (v,_)=>(k v).run p w
  | .error h=> .halt h w:=by
 simp only [Sem.run,getC]
 cases w.cell? a <;> rfl
theorem runT_load{α:Type}(p:Program)(a:Addr)(k:Value->Sem α)(w:World)(es:Array Event):Sem.runT p (.load .plain a k) w es=match getC p w a with
  | .ok (v,t)=>(k v).runT p w (es++t.toArray.map (⟨.cell ·,false,false⟩))
  | .error h=>(.halt h w,es):=by
 simp only [Sem.runT,getC]
 cases w.cell? a with
 |some v=>simp;rfl
 |none=>rfl
theorem run_store{α:Type}(p:Program)(a:Addr){x:Value}(hne:(∀c,x≠ .agg c)/\∀c,x≠ .tuple c)(k:Sem α)(w:World):Sem.run p (.store .plain a x k) w=match putC p w a x with
  | .ok (w',_)=>k.run p w'
  | .error h=> .halt h w:=by
 have e:Sem.run p (.store .plain a x k) w=(match w.cell? a with
  |some _=>if w.frozen? a then Result.halt (.unsupported (.unsafePointer "a write to bytes that a string shares")) w else k.run p (w.setCell a x)
  |none=>match w.farStore p a x (Mode.plain==Mode.atomic)with
   | .ok (w,_)=>k.run p w
   | .error h=> .halt h w):=by
  cases x <;> first|rfl|exact absurd rfl (hne.1 _)|exact absurd rfl (hne.2 _)
 rw [e,putC]
 cases w.cell? a with
 |some v=>dsimp only;split <;> rfl
 |none=>rfl
theorem runT_store{α:Type}(p:Program)(a:Addr){x:Value}(hne:(∀c,x≠ .agg c)/\∀c,x≠ .tuple c)(k:Sem α)(w:World)(es:Array Event):Sem.runT p (.store .plain a x k) w es=match putC p w a x with
  | .ok (w',t)=>k.runT p w' (es++t.toArray.map (⟨.cell ·,true,false⟩))
  | .error h=>(.halt h w,es):=by
 have e:Sem.runT p (.store .plain a x k) w es=(match w.cell? a with
  |some _=>if w.frozen? a then(.halt (.unsupported (.unsafePointer "a write to bytes that a string shares")) w,es)else k.runT p (w.setCell a x) (es.push ⟨.cell a,true,false⟩)
  |none=>match w.farStore p a x false with
   | .ok (w,touched)=>k.runT p w (es++touched.toArray.map (⟨.cell ·,true,false⟩))
   | .error h=>(.halt h w,es)):=by
  cases x <;> first|rfl|exact absurd rfl (hne.1 _)|exact absurd rfl (hne.2 _)
 rw [e,putC]
 cases w.cell? a with
 |some v=>dsimp only;split <;> simp
 |none=>rfl
theorem depth_sw{P:Program}{F:Array Func}:(sw P F).depth=P.depth:=rfl
section
variable (P:Program) (F:Array Func)
theorem underlying_sw(t:TypeId):(sw P F).underlying t=P.underlying t:=rfl
theorem cellsOf_sw(t:TypeId):(sw P F).cellsOf t=P.cellsOf t:=rfl
theorem bytesOf_sw(t:TypeId):(sw P F).bytesOf t=P.bytesOf t:=rfl
theorem byteOfCell_sw:∀ (d:Nat) (t:TypeId) (o:Nat),byteOfCell (sw P F) d t o=byteOfCell P d t o
 |0,_,_=>by unfold byteOfCell;rfl
 |d+1,t,o=>by
  unfold byteOfCell
  simp only [underlying_sw,cellsOf_sw,bytesOf_sw,byteOfCell_sw d]
  rfl
theorem cellHolding_sw:∀ (d:Nat) (t:TypeId) (o:Nat),cellHolding (sw P F) d t o=cellHolding P d t o
 |0,_,_=>by unfold cellHolding;rfl
 |d+1,t,o=>by
  unfold cellHolding
  simp only [underlying_sw,cellsOf_sw,bytesOf_sw,cellHolding_sw d]
  rfl
theorem plainCell_sw:∀ (d:Nat) (t:TypeId) (o:Nat),plainCell (sw P F) d t o=plainCell P d t o
 |0,_,_=>by unfold plainCell;rfl
 |d+1,t,o=>by
  unfold plainCell
  simp only [underlying_sw,cellsOf_sw,plainCell_sw d]
  rfl
theorem tight_sw:∀ (d:Nat) (t:TypeId),tight (sw P F) d t=tight P d t
 |0,_=>by unfold tight;rfl
 |d+1,t=>by
  unfold tight
  simp only [underlying_sw,bytesOf_sw,tight_sw d]
theorem seenCells_sw(c:Array Value)(e:TypeId):∀ (f x stop:Nat),seenCells (sw P F) c e f x stop=seenCells P c e f x stop
 |0,_,_=>by unfold seenCells;rfl
 |f+1,x,stop=>by
  unfold seenCells
  simp only [cellsOf_sw,bytesOf_sw,cellHolding_sw,depth_sw,seenCells_sw c e f]
theorem seen_rel{w v:World}{s:Addr}(h:w.heap[s.block]? =v.heap[s.block]?)(u:TypeId)(k:Addr)(b:Bool):w.seen P s u k b=v.seen (sw P F) s u k b:=by
 unfold World.seen
 simp only [h,plainCell_sw,byteOfCell_sw,seenCells_sw,depth_sw,cellsOf_sw,bytesOf_sw]
 rfl
end
theorem seen_ok{p:Program}{w:World}{s:Addr}{u:TypeId}{k:Addr}{b:Bool}{c:Array Value}{e:TypeId}{fz:Nat×Nat}{first:Nat}{like:Value}{r:List (Nat×Nat×List UInt8)}(h:w.seen p s u k b= .ok (c,e,fz,first,like,r)):w.heap[s.block]? =some (.cells c e fz)/\plainCell p p.depth u k.off=some like:=by
 revert h
 simp only [World.seen,bind,Except.bind,pure,Except.pure,throw,throwThe,MonadExceptOf.throw]
 intro h
 repeat' split at h
 all_goals first
  |(cases h;done)
  |(simp only [Except.ok.injEq,Prod.mk.injEq]at h;obtain⟨rfl,rfl,rfl,_,rfl,_⟩:=h;exact⟨by assumption,by assumption⟩)
def plainV:Value->Prop
 | .bool _| .int _ _=>True
 |_=>False
def IntT(P:Program)(u:TypeId):Prop:=∀off x,plainCell P P.depth u off=some x->plainV x
theorem ofBytes_plain{x y:Value}{bs:List UInt8}(h:Value.ofBytes x bs=some y)(hx:plainV x):plainV y:=by
 unfold Value.ofBytes at h
 repeat' split at h
 all_goals first
  |(cases h;done)
  |(cases h;trivial)
  |exact hx.elim
theorem ofBytes_av{Z:Nat->Prop}{L:Lk}{x y:Value}{bs:List UInt8}(h:Value.ofBytes x bs=some y)(hx:Av Z L x):Av Z L y:=by
 unfold Value.ofBytes at h
 repeat' split at h
 all_goals first
  |(cases h;done)
  |(cases h;exact .bool _)
  |(cases h;exact .int _ _)
  |cases hx
theorem viewLoad_rel{P:Program}{F:Array Func}{w v:World}{s:Addr}(h:w.heap[s.block]? =v.heap[s.block]?)(u:TypeId)(k:Addr)(b:Bool):w.viewLoad P s u k b=v.viewLoad (sw P F) s u k b:=by
 unfold World.viewLoad
 rw [seen_rel P F h]
theorem viewLoad_ok{p:Program}{w:World}{s:Addr}{u:TypeId}{k:Addr}{b:Bool}{x:Value}{t:List Addr}(hT:IntT p u)(h:w.viewLoad p s u k b= .ok (x,t)):plainV x/\∀a∈t,a.block=s.block/\s.block<w.heap.size:=by
 unfold World.viewLoad at h
 cases e:w.seen p s u k b with
 |error _=>rw [e]at h;cases h
 | ok r=>
  obtain⟨c,e',fz,first,like,cells⟩:=r
  obtain⟨hs,hp⟩:=seen_ok e
  rw [e]at h
  simp only [bind,Except.bind,pure,Except.pure,throw,throwThe,MonadExceptOf.throw]at h
  split at h
  ·cases h
   refine⟨ofBytes_plain (by assumption) (hT _ _ hp),fun a ha=> ?_⟩
   obtain⟨y,_,rfl⟩:=List.mem_map.1 ha
   exact⟨rfl,(Array.getElem?_eq_some_iff.1 hs).1⟩
  ·cases h
theorem foldlM_inv{α β ε:Type}(f:β->α->Except ε β)(I:β->Prop)(hf:∀b a b',I b->f b a= .ok b'->I b'):∀ (l:List α) (b b':β),I b->l.foldlM f b= .ok b'->I b'
 | [],b,b',h,e=>by rw [List.foldlM_nil]at e;cases e;exact h
 |a :: l,b,b',h,e=>by
  rw [List.foldlM_cons]at e
  cases e1:f b a with
  |error _=>rw [e1]at e;cases e
  |ok b1=>rw [e1]at e;exact foldlM_inv f I hf l b1 b' (hf _ _ _ h e1) e
theorem viewStore_ok {p:Program} {w w':World} {s:Addr} {u:TypeId} {k:Addr} {x:Value} {b:Bool} {t:List Addr} (h:w.viewStore p s u k x b= .ok (w',t)):
  ∃c e fz c',w.heap[s.block]? =some (.cells c e fz)/\w'={w with heap:=w.heap.setIfInBounds s.block (.cells c' e fz)}/\(∀Z L,(∀v∈c,Av Z L v)->∀v∈c',Av Z L v)/\(∀a∈t,a.block=s.block)/\
   ∀ (P:Program) (F:Array Func) (v:World),p=sw P F->v.heap[s.block]? =w.heap[s.block]? ->v.viewStore P s u k x b= .ok ({v with heap:=v.heap.setIfInBounds s.block (.cells c' e fz)},t):=by
 unfold World.viewStore at h
 simp only [bind,Except.bind,pure,Except.pure,throw,throwThe,MonadExceptOf.throw]at h
 split at h
 ·cases h
 ·next htg =>
  cases e0:w.seen p s u k b with
  |error _=>rw [e0]at h;cases h
  | ok r=>
   obtain⟨c,e,fz,first,like,cells⟩:=r
   have hs:=(seen_ok e0).1
   rw [e0]at h
   dsimp only at h
   cases hb:x.bytes? with
   |none=>rw [hb]at h;cases h
   | some bytes=>
    rw [hb]at h
    dsimp only at h
    split at h
    ·cases h
    ·next hsz=>
     split at h
     ·cases h
     ·next c' hf=>
      simp only [Except.ok.injEq,Prod.mk.injEq]at h
      obtain⟨rfl,rfl⟩:=h
      refine⟨c,e,fz,c',hs,rfl,fun Z L hc=> ?_,fun a ha=> ?_,fun P F v hp hv=> ?_⟩
      ·refine foldlM_inv _ (fun c'=>∀v∈c',Av Z L v) (fun cs y cs' hI hy=> ?_) _ _ _ hc hf
       repeat' split at hy
       all_goals first
        |(cases hy;done)
        | (cases hy
           intro v hv
           rcases Array.mem_or_eq_of_mem_setIfInBounds hv with m|m
           · exact hI v m
           · exact m▸ofBytes_av (by assumption) (hI _ (Array.mem_of_getElem? (by assumption))))
      ·obtain⟨y,_,rfl⟩:=List.mem_map.1 ha
       rfl
      ·subst hp
       unfold World.viewStore
       rw [seen_rel P F hv,e0]
       simp only [tight_sw,depth_sw]at htg
       simp only [bind,Except.bind,pure,Except.pure,throw,throwThe,MonadExceptOf.throw,if_neg htg,hb,if_neg hsz]
       rw [hf]
section
variable {Z:Nat->Prop} {L:Lk}
theorem av_plain{x:Value}(h:plainV x):Av Z L x:=by
 cases x with
 |bool b=>exact .bool b
 |int k n=>exact .int k n
 |_=>exact h.elim
theorem get_ok{v:World}{p:Program}(hT:∀u,L.t u->IntT p u)(hobj:∀b o,¬ Z b->v.heap[b]? =some o->AvO Z L o){a:Addr}{x:Value}{t:List Addr}(ha:¬ Z a.block)(e:getC p v a= .ok (x,t)):Av Z L x/\∀b∈t,¬ Z b.block/\b.block<v.heap.size:=by
 unfold getC at e
 split at e
 ·next y hc=>
  cases e
  refine⟨?_,fun b hb=> ?_⟩
  ·unfold World.cell? at hc
   split at hc
   ·next c t f e=>
    split at hc
    ·cases hc
    ·have:=hobj _ _ ha e
     cases this with
     |cells hcs=>exact hcs _ (Array.mem_of_getElem? hc)
   ·cases hc
  ·simp only [List.mem_singleton]at hb
   subst hb
   exact⟨ha,lt_of_cell hc⟩
 ·unfold World.farLoad at e
  split at e
  ·next s u hh=>
   have ho:=hobj _ _ ha hh
   cases ho with
   | view hz ht=>
    split at e
    ·next r hv=>
     cases e
     obtain⟨h1,h2⟩:=viewLoad_ok (hT _ ht) hv
     exact⟨av_plain h1,fun b hb=>by rw [(h2 b hb).1];exact⟨hz,(h2 b hb).2⟩⟩
    ·cases e
  ·cases e
theorem get_rel{P:Program}{F:Array Func}{w v:World}(hr:Rel Z w v)(hobj:∀b o,¬ Z b->v.heap[b]? =some o->AvO Z L o){a:Addr}(ha:¬ Z a.block):getC P w a=getC (sw P F) v a:=by
 unfold getC
 rw [cell_rel hr ha]
 cases v.cell? a with
 |some y=>rfl
 | none=>
  unfold World.farLoad World.noCell
  dsimp only
  rw [hr.same _ ha]
  cases hh:v.heap[a.block]? with
  |none=>rfl
  | some o=>
   cases o with
   |view s u=>
    have ho:=hobj _ _ ha hh
    cases ho with
    |view hz=>dsimp only;rw [viewLoad_rel (F:=F) (hr.same _ hz)]
   |_=>rfl
theorem get_err{v:World}(hobj:∀b o,¬ Z b->v.heap[b]? =some o->AvO Z L o){p:Program}{a:Addr}{h:Halt}(ha:¬ Z a.block)(e:getC p v a= .error h):HaltOk h:=by
 unfold getC at e
 split at e
 ·cases e
 ·unfold World.farLoad at e
  split at e
  ·split at e
   ·cases e
   ·cases e;exact .unsf _
  ·cases e
   unfold World.noCell
   split
   ·next hh=>have:=hobj _ _ ha hh;cases this
   ·exact .unsf _
   ·exact .stuck _
theorem put_ok{v v':World}(ha:AvW Z L v){p:Program}{a:Addr}{x:Value}{t:List Addr}(hz:¬ Z a.block)(hx:Av Z L x)(e:putC p v a x= .ok (v',t)):
  AvW Z L v'/\v'.heap.size=v.heap.size/\(∀b∈t,¬ Z b.block/\b.block<v.heap.size)/\v'.tape=v.tape/\v'.drawn=v.drawn:=by
 unfold putC at e
 split at e
 ·next y hc=>
  split at e
  ·cases e
  ·cases e
   refine⟨ha.setCell a hx,size_setCell' _ _ _,fun b hb=> ?_,rfl,rfl⟩
   simp only [List.mem_singleton]at hb
   subst hb
   exact⟨hz,lt_of_cell hc⟩
 ·unfold World.farStore at e
  split at e
  ·next s u hh=>
   have ho:=ha.obj _ _ hz hh
   cases ho with
   | view hz2=>
    split at e
    ·next r hv=>
     obtain⟨v2,t2⟩:=r
     cases e
     obtain⟨c,e',fz,c',h1,rfl,h3,h4,_⟩:=viewStore_ok hv
     have hc:=ha.obj _ _ hz2 h1
     cases hc with
     |cells hc=>
     exact⟨ha.setObj _ (.cells (h3 Z L hc)),by simp,fun b hb=>by rw [h4 b hb];exact⟨hz2,lt_of_heap h1⟩,rfl,rfl⟩
    ·cases e
  ·cases e
theorem put_rel{P:Program}{F:Array Func}{w v v':World}(hr:Rel Z w v)(ha:AvW Z L v){a:Addr}{x:Value}{t:List Addr}(hz:¬ Z a.block)(e:putC (sw P F) v a x= .ok (v',t)):
  ∃w',putC P w a x= .ok (w',t)/\Rel Z w' v'/\w'.heap.size=w.heap.size/\∀b,Z b->w'.heap[b]? =w.heap[b]? :=by
 unfold putC at e⊢
 rw [cell_rel hr hz,frozen_rel hr hz]
 split at e
 ·split at e
  ·cases e
  ·next hf=>
   cases e
   rw [if_neg hf]
   exact⟨_,rfl,hr.setCell a x hz,size_setCell' _ _ _,fun b hb=>heap_setCell_ne _ _ _ (fun e=>hz (e▸hb))⟩
 ·unfold World.farStore at e⊢
  rw [hr.same _ hz]
  split at e
  ·next s u hh=>
   have ho:=ha.obj _ _ hz hh
   cases ho with
   | view hz2=>
    split at e
    ·next r hv=>
     obtain⟨v2,t2⟩:=r
     cases e
     obtain⟨c,e',fz,c',h1,rfl,h3,h4,h5⟩:=viewStore_ok hv
     rw [h5 P F w rfl (hr.same _ hz2)]
     exact⟨_,rfl,hr.setObj _ _,by simp,fun b hb=>by simp only [Array.getElem?_setIfInBounds_ne (show s.block≠b from fun e=>hz2 (e▸hb))]⟩
    ·cases e
  ·cases e
theorem put_err{v:World}(ha:AvW Z L v){p:Program}{a:Addr}{x:Value}{h:Halt}(hz:¬ Z a.block)(e:putC p v a x= .error h):HaltOk h:=by
 unfold putC at e
 split at e
 ·split at e
  ·cases e;exact .unsf _
  ·cases e
 ·unfold World.farStore at e
  split at e
  ·split at e
   ·cases e
   ·cases e;exact .unsf _
  ·cases e
   unfold World.noCell
   split
   ·next hh=>have:=ha.obj _ _ hz hh;cases this
   ·exact .unsf _
   ·exact .stuck _
end
theorem intT_sw{P:Program}(F:Array Func){u:TypeId}(h:IntT P u):IntT (sw P F) u:=fun off x e=>h off x (by rwa [plainCell_sw,depth_sw]at e)
theorem Hyg.sim{P:Program}{F:Array Func}{Z:Nat->Prop}{L:Lk}(hT:∀u,L.t u->IntT P u){α:Type}{Q:α->Prop}{s:Sem α}(h:Hyg P (sw P F) Z L Q s):
  ∀{w v:World} (es:Array Event) (a:α) (v':World),Rel Z w v->AvW Z L v->s.run (sw P F) v= .ok a v'->Out Z L Q P s w es a v':=by
 induction h with
 |pure hq=>
  intro w v es a v' hr ha e
  simp only [Sem.run,Result.ok.injEq]at e
  obtain⟨rfl,rfl⟩:=e
  exact⟨hq,⟨w,#[],by simp [Sem.runT],hr,by simp,Nat.le_refl _,fun _ _=>rfl⟩,ha⟩
 | @load a k hz _ ih=>
  intro w v es x v' hr ha e
  rw [run_load]at e
  cases hg:getC (sw P F) v a with
  |error h=>rw [hg]at e;cases e
  | ok r=>
   obtain⟨y,t⟩:=r
   rw [hg]at e
   obtain⟨q1,q2⟩:=get_ok (fun u hu=>intT_sw F (hT u hu)) ha.obj hz hg
   have hw:getC P w a= .ok (y,t):=(get_rel hr ha.obj hz).trans hg
   obtain⟨o1,⟨w',new,o2,o3,o4,o5,o6⟩,o7⟩:=ih y q1 (es++t.toArray.map (⟨.cell ·,false,false⟩)) x v' hr ha e
   refine⟨o1,⟨w',t.toArray.map (⟨.cell ·,false,false⟩)++new, ?_,o3,fun e he=> ?_,o5,o6⟩,o7⟩
   ·rw [runT_load,hw]
    exact o2.trans (by rw [Array.append_assoc])
   ·rcases Array.mem_append.1 he with m|m
    ·obtain⟨b,hb,rfl⟩:=Array.mem_map.1 m
     obtain⟨z1,z2⟩:=q2 b (by simpa using hb)
     exact .inl ⟨b,false,rfl,Nat.lt_of_lt_of_le (by rw [hr.size];exact z2) o5,z1⟩
    ·exact o4 e m
 | @store a x k hz hx _ ih=>
  intro w v es y v' hr ha e
  have hne:(∀c,x≠ .agg c)/\(∀c,x≠ .tuple c):=by
   constructor <;> · rintro c rfl;simp [Sem.run]at e
  rw [run_store _ _ hne]at e
  cases hg:putC (sw P F) v a x with
  |error h=>rw [hg]at e;cases e
  | ok r=>
   obtain⟨v1,t⟩:=r
   rw [hg]at e
   obtain⟨q1,q2,q3,_⟩:=put_ok ha hz hx hg
   obtain⟨w1,p1,p2,p3,p4⟩:=put_rel (F:=F) hr ha hz hg
   obtain⟨o1,⟨w',new,o2,o3,o4,o5,o6⟩,o7⟩:=ih (es++t.toArray.map (⟨.cell ·,true,false⟩)) y v' p2 q1 e
   rw [p3]at o5
   refine⟨o1,⟨w',t.toArray.map (⟨.cell ·,true,false⟩)++new, ?_,o3,fun e he=> ?_,o5,fun b hb=>by rw [o6 b hb,p4 b hb]⟩,o7⟩
   ·rw [runT_store _ _ hne,p1]
    exact o2.trans (by rw [Array.append_assoc])
   ·rcases Array.mem_append.1 he with m|m
    ·obtain⟨b,hb,rfl⟩:=Array.mem_map.1 m
     obtain⟨z1,z2⟩:=q3 b (by simpa using hb)
     exact .inl ⟨b,true,rfl,Nat.lt_of_lt_of_le (by rw [hr.size];exact z2) o5,z1⟩
    ·exact o4 e m
 | @new o k ho _ ih=>
  intro w v es x v' hr ha e
  have hn:¬ Z v.heap.size:=fun hz=>absurd (ha.low _ hz) (Nat.lt_irrefl _)
  obtain⟨o1,⟨w',new,o2,o3,o4,o5,o6⟩,o7⟩:=ih v.heap.size hn es x v' (hr.push o) (ha.push ho) (by simpa [Sem.run]using e)
  simp only [Array.size_push]at o5
  refine⟨o1,⟨w',new,by simp only [Sem.runT];rw [hr.size];exact o2,o3,o4,by omega,fun b hb=> ?_⟩,o7⟩
  rw [o6 b hb]
  have:=ha.low b hb
  simp only [Array.getElem?_push,hr.size]
  rw [if_neg (by omega)]
 | @shape r k hz _ ih=>
  intro w v es x v' hr ha e
  obtain⟨o1,⟨w',new,o2,o3⟩,o7⟩:=ih (v.shape? r) es x v' hr ha (by simpa [Sem.run]using e)
  have:w.shape? r=v.shape? r:=by unfold World.shape?;rw [hr.same _ hz]
  exact⟨o1,⟨w',new,by simp only [Sem.runT];rw [this];exact o2,o3⟩,o7⟩
 | @frozen a k hz _ ih=>
  intro w v es x v' hr ha e
  obtain⟨o1,⟨w',new,o2,o3⟩,o7⟩:=ih (v.frozen? a) es x v' hr ha (by simpa [Sem.run]using e)
  exact⟨o1,⟨w',new,by simp only [Sem.runT];rw [frozen_rel hr hz];exact o2,o3⟩,o7⟩
 | @freeze a n k hz _ ih=>
  intro w v es x v' hr ha e
  obtain⟨o1,⟨w',new,o2,o3,o4,o5,o6⟩,o7⟩:=ih es x v' (hr.freeze a n hz) (ha.freeze a n) (by simpa [Sem.run]using e)
  rw [size_freeze]at o5
  exact⟨o1,⟨w',new,by simp only [Sem.runT];exact o2,o3,o4,o5,fun b hb=>by rw [o6 b hb,heap_freeze_ne _ _ _ (fun e=>hz (e▸hb))]⟩,o7⟩
 | @getObj r k hz _ ih=>
  intro w v es x v' hr ha e
  simp only [Sem.run]at e
  cases hc:v.heap[r]? with
  |none=>rw [hc]at e;cases e
  | some o=>
   have ho:=ha.obj _ _ hz hc
   rw [hc]at e
   have key:∀ (hncells:∀c t f,o≠ .cells c t f) (hch:o.isChan=false),(k o).run (sw P F) v= .ok x v'->Out Z L Q P (.getObj r k) w es x v':=by
    intro hn hch e
    obtain⟨o1,⟨w',new,o2,o3,o4,o5,o6⟩,o7⟩:=ih _ ho (es.push ⟨.obj r,false,o.isChan⟩) x v' hr ha e
    have hw:w.heap[r]? =some o:=(hr.same _ hz).trans hc
    refine⟨o1,⟨w',#[⟨.obj r,false,o.isChan⟩]++new, ?_,o3,fun e he=> ?_,o5,o6⟩,o7⟩
    ·have:Sem.runT P (.getObj r k) w es=(k o).runT P w (es.push ⟨.obj r,false,o.isChan⟩):=by
      simp only [Sem.runT,hw] <;> (cases o <;> first|rfl|exact absurd rfl (hn _ _ _))
     rw [this,o2,push_app]
    ·rcases Array.mem_append.1 he with m|m
     ·simp only [List.mem_toArray,List.mem_singleton]at m
      subst m
      exact .inr (.inl ⟨r,false,by rw [hch],Nat.lt_of_lt_of_le (lt_of_heap hw) o5,hz⟩)
     ·exact o4 e m
   cases ho with
   |cells=>cases e
   |map hm=>exact key (by intros;simp) rfl e
   |number hm=>exact key (by intros;simp) rfl e
   |loop=>exact key (by intros;simp) rfl e
   |deferred=>exact key (by intros;simp) rfl e
   |deferred0=>exact key (by intros;simp) rfl e
   |iter s n=>exact key (by intros;simp) rfl e
   |view=>exact key (by intros;simp) rfl e
 | @setObj r o k hz ho _ ih=>
  intro w v es x v' hr ha e
  simp only [Sem.run]at e
  cases hc:v.heap[r]? with
  |none=>rw [hc]at e;cases e
  | some o'=>
   have ho':=ha.obj _ _ hz hc
   rw [hc]at e
   have hch:o.isChan=false:=by cases ho <;> rfl
   have key:∀ (hncells:∀c t f,o'≠ .cells c t f),k.run (sw P F) {v with heap:=v.heap.setIfInBounds r o}= .ok x v'->Out Z L Q P (.setObj r o k) w es x v':=by
    intro hn e
    obtain⟨o1,⟨w',new,o2,o3,o4,o5,o6⟩,o7⟩:=ih (es.push ⟨.obj r,true,o.isChan⟩) x v' (hr.setObj r o) (ha.setObj r ho) e
    have hw:w.heap[r]? =some o':=(hr.same _ hz).trans hc
    simp only [Array.size_setIfInBounds]at o5
    refine⟨o1,⟨w',#[⟨.obj r,true,o.isChan⟩]++new, ?_,o3,fun e he=> ?_,o5,fun b hb=> ?_⟩,o7⟩
    ·have:Sem.runT P (.setObj r o k) w es=k.runT P {w with heap:=w.heap.setIfInBounds r o} (es.push ⟨.obj r,true,o.isChan⟩):=by
      simp only [Sem.runT,hw] <;> (cases o' <;> first|rfl|exact absurd rfl (hn _ _ _))
     rw [this,o2,push_app]
    ·rcases Array.mem_append.1 he with m|m
     ·simp only [List.mem_toArray,List.mem_singleton]at m
      subst m
      exact .inr (.inl ⟨r,true,by rw [hch],Nat.lt_of_lt_of_le (lt_of_heap hw) o5,hz⟩)
     ·exact o4 e m
    ·rw [o6 b hb]
     simp only [Array.getElem?_setIfInBounds_ne (show r≠b from fun e=>hz (e▸hb))]
   cases ho' with
   |cells=>cases e
   |map hm=>exact key (by intros;simp) e
   |number hm=>exact key (by intros;simp) e
   |loop=>exact key (by intros;simp) e
   |deferred=>exact key (by intros;simp) e
   |deferred0=>exact key (by intros;simp) e
   |iter s n=>exact key (by intros;simp) e
   |view=>exact key (by intros;simp) e
 | @choose q k _ ih=>
  intro w v es x v' hr ha e
  simp only [Sem.run]at e
  split at e
  ·next hq=>
   obtain⟨o1,⟨w',new,o2,o3⟩,o7⟩:=ih _ es x v' hr ha e
   exact⟨o1,⟨w',new,by simp only [Sem.runT,hq,if_true];exact o2,o3⟩,o7⟩
  ·next hq=>
   obtain⟨o1,⟨w',new,o2,o3⟩,o7⟩:=ih _ es x v' hr.draw (ha.draw _) e
   exact⟨o1,⟨w',new,by
    have hq':q.forced=false:=by simpa using hq
    simp only [Sem.runT,hq',Bool.false_eq_true,if_false]
    rw [hr.tape,hr.drawn]
    have e1:({w with drawn:=v.drawn+1,tape:=v.tape}:World)={w with drawn:=w.drawn+1}:=by rw [←hr.tape,←hr.drawn]
    exact(congrArg (fun u=>(k (q.cut (v.tape v.drawn q))).runT P u es) e1).trans o2,o3⟩,o7⟩
 | @program k hk _ ih=>
  intro w v es x v' hr ha e
  simp only [Sem.run]at e
  rw [hk]at e
  obtain⟨o1,⟨w',new,o2,o3⟩,o7⟩:=ih es x v' hr ha e
  exact⟨o1,⟨w',new,by simp only [Sem.runT];exact o2,o3⟩,o7⟩
 | @noRoom mk k hmk _ ih=>
  intro w v es x v' hr ha e
  obtain⟨o1,⟨w',new,o2,o3,o4,o5⟩,o7⟩:=ih (es.push ⟨.mark mk,false,true⟩) x v' hr ha (by simpa [Sem.run]using e)
  refine⟨o1,⟨w',#[⟨.mark mk,false,true⟩]++new, ?_,o3,fun e he=> ?_,o5⟩,o7⟩
  ·simp only [Sem.runT]
   rw [o2,push_app]
  ·rcases Array.mem_append.1 he with m|m
   ·simp only [List.mem_toArray,List.mem_singleton]at m
    exact .inr (.inr ⟨mk,hmk,m⟩)
   ·exact o4 e m
 |env _ h2 _=>
  intro w v es x v' hr ha e
  simp only [Sem.run]at e
  exact(h2 _ _ _ _ e).elim
 |halt _=>
  intro w v es x v' hr ha e
  simp [Sem.run]at e
theorem Hyg.halts{P:Program}{F:Array Func}{Z:Nat->Prop}{L:Lk}(hT:∀u,L.t u->IntT P u){α:Type}{Q:α->Prop}{s:Sem α}(h:Hyg P (sw P F) Z L Q s):
  ∀{v:World} (x:Halt) (v':World),AvW Z L v->s.run (sw P F) v= .halt x v'->HaltOk x:=by
 induction h with
 |pure hq=>intro v x v' ha e;simp [Sem.run]at e
 | @load a k hz _ ih=>
  intro v x v' ha e
  rw [run_load]at e
  cases hg:getC (sw P F) v a with
  |error h=>rw [hg]at e;cases e;exact get_err ha.obj hz hg
  |ok r=>rw [hg]at e;exact ih _ (get_ok (fun u hu=>intT_sw F (hT u hu)) ha.obj hz hg).1 x v' ha e
 | @store a y k hz hy _ ih=>
  intro v x v' ha e
  by_cases hne:(∀c:Array Value,y≠ .agg c)/\(∀c:Array Value,y≠ .tuple c)
  ·rw [run_store _ _ hne]at e
   cases hg:putC (sw P F) v a y with
   |error h=>rw [hg]at e;cases e;exact put_err ha hz hg
   |ok r=>rw [hg]at e;exact ih x v' (put_ok ha hz hy hg).1 e
  ·cases y with
   |agg=>simp only [Sem.run,Result.halt.injEq]at e;rw [←e.1];exact .stuck _
   |tuple=>simp only [Sem.run,Result.halt.injEq]at e;rw [←e.1];exact .stuck _
   |_=>exact absurd ⟨fun _=>by simp,fun _=>by simp⟩ hne
 | @new o k ho _ ih=>
  intro v x v' ha e
  have hn:¬ Z v.heap.size:=fun hz=>absurd (ha.low _ hz) (Nat.lt_irrefl _)
  exact ih v.heap.size hn x v' (ha.push ho) (by simpa [Sem.run]using e)
 |shape hz _ ih=>intro v x v' ha e;exact ih _ x v' ha (by simpa [Sem.run]using e)
 |frozen hz _ ih=>intro v x v' ha e;exact ih _ x v' ha (by simpa [Sem.run]using e)
 | @freeze a n k hz _ ih=>intro v x v' ha e;exact ih x v' (ha.freeze a n) (by simpa [Sem.run]using e)
 | @getObj r k hz _ ih=>
  intro v x v' ha e
  simp only [Sem.run]at e
  split at e
  ·cases e;exact .stuck _
  ·next o hn hc=>exact ih _ (ha.obj _ _ hz hc) x v' ha e
  ·cases e;exact .stuck _
 | @setObj r o k hz ho _ ih=>
  intro v x v' ha e
  simp only [Sem.run]at e
  split at e
  ·cases e;exact .stuck _
  ·exact ih x v' (ha.setObj r ho) e
  ·cases e;exact .stuck _
 | @choose q k _ ih=>
  intro v x v' ha e
  simp only [Sem.run]at e
  split at e
  ·exact ih _ x v' ha e
  ·exact ih _ x v' (ha.draw _) e
 | @program k hk _ ih=>
  intro v x v' ha e
  simp only [Sem.run]at e
  rw [hk]at e
  exact ih x v' ha e
 |noRoom _ _ ih=>intro v x v' ha e;exact ih x v' ha (by simpa [Sem.run]using e)
 |env _ _ ih=>intro v x v' ha e;exact ih _ x v' ha (by simpa only [Sem.run,sys_env]using e)
 |halt hh=>intro v x v' ha e;simp only [Sem.run,Result.halt.injEq]at e;rw [←e.1];exact hh
theorem Hyg.haltAv{P:Program}{F:Array Func}{Z:Nat->Prop}{L:Lk}(hT:∀u,L.t u->IntT P u){α:Type}{Q:α->Prop}{s:Sem α}(h:Hyg P (sw P F) Z L Q s):
  ∀{v:World} (x:Halt) (v':World),AvW Z L v->s.run (sw P F) v= .halt x v'->AvW Z L v':=by
 induction h with
 |pure hq=>intro v x v' ha e;simp [Sem.run]at e
 | @load a k hz _ ih=>
  intro v x v' ha e
  rw [run_load]at e
  cases hg:getC (sw P F) v a with
  |error h=>rw [hg]at e;cases e;exact ha
  |ok r=>rw [hg]at e;exact ih _ (get_ok (fun u hu=>intT_sw F (hT u hu)) ha.obj hz hg).1 x v' ha e
 | @store a y k hz hy _ ih=>
  intro v x v' ha e
  by_cases hne:(∀c:Array Value,y≠ .agg c)/\(∀c:Array Value,y≠ .tuple c)
  ·rw [run_store _ _ hne]at e
   cases hg:putC (sw P F) v a y with
   |error h=>rw [hg]at e;cases e;exact ha
   |ok r=>rw [hg]at e;exact ih x v' (put_ok ha hz hy hg).1 e
  ·cases y with
   |agg=>simp only [Sem.run,Result.halt.injEq]at e;rw [←e.2];exact ha
   |tuple=>simp only [Sem.run,Result.halt.injEq]at e;rw [←e.2];exact ha
   |_=>exact absurd ⟨fun _=>by simp,fun _=>by simp⟩ hne
 | @new o k ho _ ih=>
  intro v x v' ha e
  have hn:¬ Z v.heap.size:=fun hz=>absurd (ha.low _ hz) (Nat.lt_irrefl _)
  exact ih v.heap.size hn x v' (ha.push ho) (by simpa [Sem.run]using e)
 |shape hz _ ih=>intro v x v' ha e;exact ih _ x v' ha (by simpa [Sem.run]using e)
 |frozen hz _ ih=>intro v x v' ha e;exact ih _ x v' ha (by simpa [Sem.run]using e)
 | @freeze a n k hz _ ih=>intro v x v' ha e;exact ih x v' (ha.freeze a n) (by simpa [Sem.run]using e)
 | @getObj r k hz _ ih=>
  intro v x v' ha e
  simp only [Sem.run]at e
  split at e
  ·cases e;exact ha
  ·next o hn hc=>exact ih _ (ha.obj _ _ hz hc) x v' ha e
  ·cases e;exact ha
 | @setObj r o k hz ho _ ih=>
  intro v x v' ha e
  simp only [Sem.run]at e
  split at e
  ·cases e;exact ha
  ·exact ih x v' (ha.setObj r ho) e
  ·cases e;exact ha
 | @choose q k _ ih=>
  intro v x v' ha e
  simp only [Sem.run]at e
  split at e
  ·exact ih _ x v' ha e
  ·exact ih _ x v' (ha.draw _) e
 | @program k hk _ ih=>
  intro v x v' ha e
  simp only [Sem.run]at e
  rw [hk]at e
  exact ih x v' ha e
 |noRoom _ _ ih=>intro v x v' ha e;exact ih x v' ha (by simpa [Sem.run]using e)
 |env _ _ ih=>intro v x v' ha e;exact ih _ x v' ha (by simpa only [Sem.run,sys_env]using e)
 |halt hh=>intro v x v' ha e;simp only [Sem.run,Result.halt.injEq]at e;rw [←e.2];exact ha
end
section
open Go
section
variable {P:Program} {F:Array Func} {Z:Nat->Prop} {L:Lk} {α β:Type} {Q:α->Prop} {R:β->Prop}
theorem hyg_stuck(s:String):Hyg P (sw P F) Z L Q (stuck s):= .halt (.stuck s)
theorem hyg_noEntry(s:String):Hyg P (sw P F) Z L Q (unsupported (.noEntry s)):= .halt (.noEntry s)
theorem hyg_addr:Hyg P (sw P F) Z L Q (unsupported .addressObserved):= .halt .addr
theorem hyg_unsf(s:String):Hyg P (sw P F) Z L Q (unsupported (.unsafePointer s)):= .halt (.unsf s)
theorem hyg_limit(s:String):Hyg P (sw P F) Z L Q (unsupported (.resourceLimit s)):= .halt (.limit s)
theorem hyg_panic(v:Value):Hyg P (sw P F) Z L Q (goPanic v):= .halt (.panic v)
theorem hyg_prog{f:Program->Sem β}(e:f (sw P F)=f P)(h:Hyg P (sw P F) Z L R (f P)):Hyg P (sw P F) Z L R (program>>=f):= .program e h
theorem hyg_choose(q:Question):Hyg P (sw P F) Z L (fun _=>True) (choose q):= .choose fun _=> .pure trivial
theorem hyg_ite{c:Prop}[Decidable c]{s t:Sem α}(h:c->Hyg P (sw P F) Z L Q s)(h':¬ c->Hyg P (sw P F) Z L Q t):Hyg P (sw P F) Z L Q (if c then s else t):=by
 by_cases hc:c
 ·rw [if_pos hc];exact h hc
 ·rw [if_neg hc];exact h' hc
theorem hyg_typeInfo(t:TypeId):Hyg P (sw P F) Z L (fun i=>P.info? t=some i) (typeInfo t):=by
 unfold typeInfo
 refine hyg_prog rfl ?_
 split
 ·exact .pure (by assumption)
 ·exact hyg_stuck _
theorem hyg_underlying(t:TypeId):Hyg P (sw P F) Z L (fun d=>P.underlying t=some d) (underlying t):=by
 unfold underlying
 refine hyg_prog rfl ?_
 split
 ·exact .pure (by assumption)
 ·exact hyg_stuck _
theorem hyg_sizeOf(t:TypeId):Hyg P (sw P F) Z L (fun _=>True) (sizeOf t):=by
 unfold sizeOf
 exact Hyg.bind (hyg_typeInfo t) fun _ _=> .pure trivial
theorem hyg_isAgg(t:TypeId):Hyg P (sw P F) Z L (fun _=>True) (isAgg t):=by
 unfold isAgg
 refine Hyg.bind (hyg_underlying t) fun d _=> ?_
 split <;> exact .pure trivial
theorem add_block(a:Addr)(n:Nat):(a.add n).block=a.block:=by unfold Addr.add;split <;> rfl
theorem Av.cells{v:Value}(h:Av Z L v):∀c∈v.cells,Av Z L c:=by
 cases h with
 |agg h=>exact h
 |_=>intro c hc;simp only [Value.cells,List.mem_toArray,List.mem_singleton]at hc;subst hc;constructor <;> assumption
theorem hyg_load{a:Addr}(ha:¬ Z a.block):Hyg P (sw P F) Z L (Av Z L) (load a):= .load ha fun _ hv=> .pure hv
theorem hyg_loadCellsFrom{a:Addr}(ha:¬ Z a.block):∀ (n i:Nat) (acc:Array Value),(∀v∈acc,Av Z L v)->Hyg P (sw P F) Z L (fun cs=>∀v∈cs,Av Z L v) (loadCellsFrom a i n acc)
 |0,_,_,h=> .pure h
 |n+1,i,acc,h=>by
  unfold loadCellsFrom
  refine Hyg.bind (hyg_load (by rw [add_block];exact ha)) fun v hv=> ?_
  refine hyg_loadCellsFrom ha n (i+1) _ fun c hc=> ?_
  rcases Array.mem_push.1 hc with m|m
  ·exact h c m
  ·exact m▸hv
theorem hyg_loadCells{a:Addr}(ha:¬ Z a.block)(n:Nat):Hyg P (sw P F) Z L (fun cs=>∀v∈cs,Av Z L v) (loadCells a n):=hyg_loadCellsFrom ha n 0 #[] (by simp)
theorem hyg_storeCells{a:Addr}(ha:¬ Z a.block):∀ (vs:List Value) (i:Nat),(∀v∈vs,Av Z L v)->Hyg P (sw P F) Z L (fun _=>True) (storeCells a vs i)
 | [],_,_=>by unfold storeCells;exact .pure trivial
 |v :: vs,i,h=>by
  unfold storeCells
  refine .store (by rw [add_block];exact ha) (h v (by simp)) ?_
  exact hyg_storeCells ha vs (i+1) fun c hc=>h c (by simp [hc])
theorem hyg_loadVar(t:TypeId){a:Addr}(ha:¬ Z a.block):Hyg P (sw P F) Z L (Av Z L) (loadVar t a):=by
 unfold loadVar
 refine Hyg.bind (hyg_isAgg t) fun b _=> ?_
 split
 ·refine Hyg.bind (hyg_sizeOf t) fun n _=> ?_
  exact Hyg.bind (hyg_loadCells ha n) fun cs hcs=> .pure (.agg hcs)
 ·exact hyg_load ha
theorem hyg_storeVar(t:TypeId){a:Addr}(ha:¬ Z a.block){v:Value}(hv:Av Z L v):Hyg P (sw P F) Z L (fun _=>True) (storeVar t a v):=by
 unfold storeVar
 refine Hyg.bind (hyg_sizeOf t) fun n _=> ?_
 split
 ·exact hyg_stuck _
 ·exact hyg_storeCells ha _ _ fun c hc=>hv.cells c (by simpa using hc)
theorem hyg_newRow(t:TypeId){cs:Array Value}(h:∀v∈cs,Av Z L v):Hyg P (sw P F) Z L (fun a=>¬ Z a.block) (newRow t cs):=by
 unfold newRow newObj
 exact .new (.cells h) fun r hr=> .pure hr
theorem hyg_newVar(t:TypeId){v:Value}(h:Av Z L v):Hyg P (sw P F) Z L (fun a=>¬ Z a.block) (newVar t v):=hyg_newRow t h.cells
theorem hyg_elemOf(t:TypeId):Hyg P (sw P F) Z L (fun _=>True) (elemOf t):=by
 unfold elemOf
 refine Hyg.bind (hyg_underlying t) fun d _=> ?_
 split
 ·exact .pure trivial
 ·exact hyg_stuck _
theorem mem_extract{cs:Array Value}{i j:Nat}{v:Value}(h:v∈cs.extract i j):v∈cs:=by
 obtain⟨k,hk,rfl⟩:=Array.mem_iff_getElem.1 h
 rw [Array.getElem_extract]
 exact Array.getElem_mem _
theorem hyg_part(t:TypeId){cs:Array Value}(h:∀v∈cs,Av Z L v)(off:Nat):Hyg P (sw P F) Z L (Av Z L) (part t cs off):=by
 unfold part
 refine Hyg.bind (hyg_isAgg t) fun b _=> ?_
 split
 ·exact Hyg.bind (hyg_sizeOf t) fun n _=> .pure (.agg fun v hv=>h v (mem_extract hv))
 ·split
  ·next e=>exact .pure (h _ (Array.mem_of_getElem? e))
  ·exact hyg_stuck _
theorem av_handle(t:TypeId)(hZ:¬ Z P.globals.size):Av Z L (typeHandle P t):= .ptr hZ
theorem hyg_runtimePanic(e:RuntimeError)(hZ:¬ Z P.globals.size):Hyg P (sw P F) Z L Q (runtimePanic e):=by
 unfold runtimePanic
 refine hyg_prog rfl ?_
 cases e with
 |bounds x y s c=>exact hyg_panic _
 |error m=>exact hyg_panic _
 |plain m=>exact hyg_panic _
 |nilDeref=>exact hyg_panic _
 | typeAssertion i c a m=>
  refine Hyg.bind (hyg_elemOf _) fun t _=> ?_
  refine Hyg.bind (hyg_newVar t (.agg fun v hv=> ?_)) fun r _=>hyg_panic _
  simp only [List.mem_toArray,List.mem_cons,List.not_mem_nil,or_false]at hv
  rcases hv with rfl|rfl|rfl|rfl
  ·split
   ·exact av_handle _ hZ
   ·exact .ptr0
  ·split
   ·exact av_handle _ hZ
   ·exact .ptr0
  ·exact av_handle _ hZ
  ·exact .string _
 |panicNil=>
  refine Hyg.bind (hyg_elemOf _) fun t _=> ?_
  exact Hyg.bind (hyg_newVar t (.agg fun v hv=>by simp at hv)) fun r _=>hyg_panic _
 |unhashable t=>exact hyg_panic _
theorem hyg_asIntOf(v:Value):Hyg P (sw P F) Z L (fun _=>True) (asIntOf v):=by
 unfold asIntOf
 split
 ·exact .pure trivial
 ·exact hyg_addr
 ·exact hyg_stuck _
theorem hyg_asInt(v:Value):Hyg P (sw P F) Z L (fun _=>True) (asInt v):=by
 unfold asInt
 exact Hyg.bind (hyg_asIntOf v) fun _ _=> .pure trivial
theorem hyg_asBool(v:Value):Hyg P (sw P F) Z L (fun _=>True) (asBool v):=by
 unfold asBool
 split
 ·exact .pure trivial
 ·exact hyg_stuck _
theorem hyg_asAgg{v:Value}(h:Av Z L v):Hyg P (sw P F) Z L (fun cs=>∀c∈cs,Av Z L c) (asAgg v):=by
 unfold asAgg
 split
 ·cases h with|agg h=>exact .pure h
 ·exact hyg_stuck _
theorem hyg_sureAddr{v:Value}(h:Av Z L v):Hyg P (sw P F) Z L (fun a=>¬ Z a.block) (Instr.sureAddr v):=by
 unfold Instr.sureAddr
 split
 ·cases h with|ptr h=>exact .pure h
 ·exact hyg_stuck _
theorem hyg_asAddr{v:Value}(h:Av Z L v)(hZ:¬ Z P.globals.size):Hyg P (sw P F) Z L (fun a=>¬ Z a.block) (asAddr v):=by
 unfold asAddr
 split
 ·cases h with|ptr h=>exact .pure h
 ·exact hyg_runtimePanic _ hZ
 ·exact hyg_stuck _
theorem hyg_viewAt{r:Nat}(hr:¬ Z r):Hyg P (sw P F) Z L (fun o=>∀x,o=some x->¬ Z x.1.block) (viewAt r):=by
 unfold viewAt
 refine .shape hr fun s=> ?_
 show Hyg P (sw P F) Z L _ (if s.isSome=true then _ else _)
 split
 ·exact .pure (by rintro x ⟨⟩)
 ·refine .getObj hr fun o ho=> ?_
  cases ho with
  |view h _=>exact .pure (by rintro x ⟨⟩;exact h)
  |_=>exact .pure (by rintro x ⟨⟩)
theorem hyg_numberAt{r:Nat}(hr:¬ Z r):Hyg P (sw P F) Z L (fun o=>∀x,o=some x->¬ Z x.1.block) (numberAt r):=by
 unfold numberAt
 refine .shape hr fun s=> ?_
 show Hyg P (sw P F) Z L _ (if s.isSome=true then _ else _)
 split
 ·exact .pure (by rintro x ⟨⟩)
 ·refine .getObj hr fun o ho=> ?_
  cases ho with
  |cells=>exact .pure (by rintro x ⟨⟩)
  |map=>exact .pure (by rintro x ⟨⟩)
  |number h=>exact .pure (by rintro x ⟨⟩;exact h)
  |loop=>exact .pure (by rintro x ⟨⟩)
  |deferred=>exact .pure (by rintro x ⟨⟩)
  |deferred0=>exact .pure (by rintro x ⟨⟩)
  |iter s n=>exact .pure (by rintro x ⟨⟩)
  |view=>exact .pure (by rintro x ⟨⟩)
theorem hyg_behindNumber{n:Addr}(hn:¬ Z n.block):Hyg P (sw P F) Z L (fun x=>¬ Z x.1.block) (behindNumber n):=by
 unfold behindNumber
 refine Hyg.bind (hyg_numberAt hn) fun o ho=> .pure ?_
 cases o with
 |none=>exact hn
 |some x=>exact ho x rfl
theorem hyg_asNumber{a:Addr}(ha:¬ Z a.block)(l:Bool):Hyg P (sw P F) Z L (Av Z L) (asNumber a l):=by
 unfold asNumber newObj
 exact .new (.number ha) fun r hr=> .pure (.ptr hr)
theorem hyg_noView{a:Addr}(ha:¬ Z a.block):Hyg P (sw P F) Z L (fun _=>True) (noView a):=by
 unfold noView
 exact Hyg.bind (hyg_viewAt ha) fun o _=>hyg_ite (fun _=>hyg_unsf _) fun _=> .pure trivial
theorem hyg_shape{r:Nat}(hr:¬ Z r):Hyg P (sw P F) Z L (fun _=>True) (shape r):= .shape hr fun _=> .pure trivial
theorem hyg_frozen{a:Addr}(ha:¬ Z a.block):Hyg P (sw P F) Z L (fun _=>True) (frozen a):= .frozen ha fun _=> .pure trivial
theorem hyg_byteOf{a:Addr}(ha:¬ Z a.block):Hyg P (sw P F) Z L (fun _=>True) (byteOf a):=by
 unfold byteOf
 cases a.spot with
 |some s=>exact .pure trivial
 | none=>
  refine hyg_prog ?_ ?_
  ·simp only [cellsOf_sw,byteOfCell_sw,bytesOf_sw,depth_sw]
  refine Hyg.bind (hyg_noView ha) fun _ _=> ?_
  refine Hyg.bind (hyg_shape ha) fun s _=> ?_
  split
  ·dsimp only
   split
   ·exact .pure trivial
   ·split
    ·exact .pure trivial
    ·exact hyg_stuck _
  ·exact hyg_stuck _
theorem hyg_partAt{a:Addr}(ha:¬ Z a.block)(c b:Nat):Hyg P (sw P F) Z L (fun a=>¬ Z a.block) (partAt a c b):=by
 unfold partAt
 refine Hyg.bind (hyg_byteOf ha) fun _ _=> ?_
 refine Hyg.bind (hyg_byteOf (a:={block:=a.block,off:=a.off+c}) ha) fun _ _=> .pure ?_
 split <;> exact ha
theorem hyg_fieldPlace{a:Addr}(ha:¬ Z a.block)(f:Field):Hyg P (sw P F) Z L (fun a=>¬ Z a.block) (fieldPlace a f):=by
 unfold fieldPlace
 refine Hyg.bind (hyg_sizeOf _) fun n _=> ?_
 split
 ·exact hyg_partAt ha _ _
 ·exact .pure (by rw [add_block];exact ha)
end
end
section
open Go
def avS:Value->Bool
 | .bool _| .int _ _| .string _| .pointer none| .slice none _ _| .map none| .chan none| .nilFunc| .nilIface=>true
 |_=>false
def avB:Value->Bool
 | .agg cs=>cs.all avS
 | .tuple cs=>cs.all avS
 |v=>avS v
theorem av_of_avS{Z:Nat->Prop}{L:Lk}{v:Value}(h:avS v=true):Av Z L v:=by
 cases v with
 |bool b=>exact .bool b
 |int k n=>exact .int k n
 |string s=>exact .string s
 |pointer a=>cases a with|none=>exact .ptr0|some a=>simp [avS]at h
 |slice a l c=>cases a with|none=>exact .slice0 l c|some a=>simp [avS]at h
 |map r=>cases r with|none=>exact .map0|some a=>simp [avS]at h
 |chan r=>cases r with|none=>exact .chan0|some a=>simp [avS]at h
 |nilFunc=>exact .nilFunc
 |nilIface=>exact .nilIface
 |_=>simp [avS]at h
theorem av_of_avB{Z:Nat->Prop}{L:Lk}{v:Value}(h:avB v=true):Av Z L v:=by
 cases v with
 |agg cs=>exact .agg fun c hc=>av_of_avS (Array.all_eq_true_iff_forall_mem.1 h c hc)
 |tuple cs=>exact .tuple fun c hc=>av_of_avS (Array.all_eq_true_iff_forall_mem.1 h c hc)
 |_=>exact av_of_avS h
def zOk(P:Program)(t:TypeId):Bool:=match P.info? t with
 |some i=>match i.zero with
  |some v=>avB v
  |none=>true
 |none=>true
section
variable {P:Program} {F:Array Func} {Z:Nat->Prop} {L:Lk} {α β:Type} {Q:α->Prop} {R:β->Prop}
theorem hyg_zero{t:TypeId}(h:zOk P t=true):Hyg P (sw P F) Z L (Av Z L) (zeroValue t):=by
 unfold zeroValue
 refine Hyg.bind (hyg_typeInfo t) fun i hi=> ?_
 split
 ·next v e=>
  refine .pure (av_of_avB ?_)
  unfold zOk at h
  rw [hi]at h
  simpa [e]using h
 ·exact hyg_limit _
def bareErr:RuntimeError->Bool
 | .bounds .. | .error _| .plain _| .nilDeref=>true
 |_=>false
theorem hyg_rp{e:RuntimeError}(h:bareErr e=true):Hyg P (sw P F) Z L Q (runtimePanic e):=by
 unfold runtimePanic
 refine hyg_prog rfl ?_
 cases e <;> first|exact hyg_panic _|simp [bareErr]at h
theorem hyg_bp(k:IntKind)(x y:Int)(c:BoundsCode):Hyg P (sw P F) Z L Q (boundsPanic k x y c):=by
 unfold boundsPanic
 dsimp only
 split
 ·refine Hyg.bind (Q:=fun _=>True) ?_ fun _ _=>hyg_rp rfl
  exact Hyg.bind (hyg_choose _) fun _ _=> .pure trivial
 ·exact Hyg.bind (Q:=fun _=>True) (.pure trivial) fun _ _=>hyg_rp rfl
theorem hyg_forIn_list{γ σ:Type}(xs:List γ)(f:γ->σ->Sem (ForInStep σ))(h:∀x∈xs,∀s,Hyg P (sw P F) Z L (fun _=>True) (f x s)):
  ∀init:σ,Hyg P (sw P F) Z L (fun _=>True) (forIn xs init f):=by
 induction xs with
 |nil=>intro init;exact .pure trivial
 |cons x xs ih=>
  intro init
  rw [List.forIn_cons]
  refine Hyg.bind (h x (by simp) init) fun r _=> ?_
  split
  ·exact .pure trivial
  ·exact ih (fun y hy=>h y (by simp [hy])) _
theorem hyg_forIn_array{γ σ:Type}(xs:Array γ)(f:γ->σ->Sem (ForInStep σ))(h:∀x∈xs,∀s,Hyg P (sw P F) Z L (fun _=>True) (f x s))(init:σ):
  Hyg P (sw P F) Z L (fun _=>True) (forIn xs init f):=by
 rw [←Array.forIn_toList]
 exact hyg_forIn_list _ _ (fun x hx=>h x (by simpa using hx)) _
theorem hyg_forIn_range{σ:Type}(r:Std.Legacy.Range)(f:Nat->σ->Sem (ForInStep σ))(h:∀x s,Hyg P (sw P F) Z L (fun _=>True) (f x s))(init:σ):
  Hyg P (sw P F) Z L (fun _=>True) (forIn r init f):=by
 rw [Std.Legacy.Range.forIn_eq_forIn_range']
 exact hyg_forIn_list _ _ (fun x _=>h x) _
theorem hyg_stringish{a:Addr}(ha:¬ Z a.block):Hyg P (sw P F) Z L (fun _=>True) (stringish a):=by
 unfold stringish
 refine Hyg.bind (hyg_frozen ha) fun b _=> ?_
 cases b with
 |true=>exact .pure trivial
 |false=>
  refine Hyg.bind (hyg_shape ha) fun s _=> ?_
  split
  ·next t n=>exact hyg_frozen (a:={block:=a.block,off:=n}) ha
  ·exact .pure trivial
theorem hyg_mayBeOne{a b:Addr}(ha:¬ Z a.block)(hb:¬ Z b.block):Hyg P (sw P F) Z L (fun _=>True) (mayBeOne a b):=by
 unfold mayBeOne
 refine Hyg.bind (Q:=fun _=>True) ?_ fun _ _=> ?_
 ·exact hyg_stringish ha
 refine Hyg.bind (Q:=fun _=>True) (hyg_stringish hb) fun _ _=> ?_
 dsimp only
 refine Hyg.bind (Q:=fun _=>True) (Hyg.bind (hyg_shape ha) fun _ _=> .pure trivial) fun _ _=> ?_
 exact Hyg.bind (Q:=fun _=>True) (Hyg.bind (hyg_shape hb) fun _ _=> .pure trivial) fun _ _=> .pure trivial
theorem hyg_sameAddr{a b:Addr}(ha:¬ Z a.block)(hb:¬ Z b.block):Hyg P (sw P F) Z L (fun _=>True) (sameAddr a b):=by
 unfold sameAddr
 split
 ·exact .pure trivial
 refine Hyg.bind (hyg_frozen ha) fun x _=> ?_
 refine Hyg.bind (hyg_frozen hb) fun y _=> ?_
 split
 ·exact hyg_addr
 refine Hyg.bind (hyg_noView ha) fun _ _=> ?_
 refine Hyg.bind (hyg_noView hb) fun _ _=> ?_
 refine Hyg.bind (hyg_mayBeOne ha hb) fun x _=> ?_
 split
 ·exact Hyg.bind (hyg_choose _) fun _ _=> .pure trivial
 ·exact .pure trivial
end
end
section
open Go
section
variable {P:Program} {F:Array Func} {Z:Nat->Prop} {L:Lk} {α β:Type} {Q:α->Prop} {R:β->Prop}
theorem under_sw(t:TypeId):(sw P F).underlyingId t=P.underlyingId t:=rfl
theorem alike_sw:∀ (n:Nat) (t u:TypeId),(sw P F).alikeButTags n t u=P.alikeButTags n t u
 |0,_,_=>by unfold Program.alikeButTags;rfl
 |n+1,t,u=>by
  unfold Program.alikeButTags
  simp only [alike_sw n]
theorem stoodInAs_sw(t:TypeId):(sw P F).stoodInAs t=P.stoodInAs t:=by
 unfold Program.stoodInAs
 simp only [alike_sw,under_sw,depth_sw]
 rfl
theorem stoodInHeld_sw(t:TypeId):(sw P F).stoodInHeld t=P.stoodInHeld t:=by
 unfold Program.stoodInHeld
 rw [stoodInAs_sw]
theorem eqGuardType_sw:∀ (n:Nat) (t:TypeId),(sw P F).eqGuardType n t=P.eqGuardType n t
 |0,_=>by unfold Program.eqGuardType;rfl
 |n+1,t=>by
  unfold Program.eqGuardType
  simp only [eqGuardType_sw n]
  rfl
def eqT(P:Program):Nat->TypeId->Bool
 |0,_=>false
 |n+1,t=>match P.underlying t with
  |some .bool|some (.int _)|some .string|some (.slice _)|some (.pointer _)=>true
  |some (.struct fs)=>fs.all fun f=>f.name== "_" ||eqT P n f.type
  |some (.array _ e)=>eqT P n e
  |_=>false
theorem hyg_equalIn:∀ (d n:Nat) (t:TypeId) (x y:Value),eqT P n t=true->Av Z L x->Av Z L y->Hyg P (sw P F) Z L (fun _=>True) (Op.equalIn d t x y)
 |0,_,_,_,_,_,_,_=>by unfold Op.equalIn;exact hyg_limit _
 |d+1,0,_,_,_,h,_,_=>by simp [eqT]at h
 | d +1,n+1,t,x,y,h,hx,hy=>by
  unfold Op.equalIn
  unfold eqT at h
  refine Hyg.bind (hyg_underlying t) fun u hu=> ?_
  rw [hu]at h
  split
  all_goals first
   |exact .pure trivial
   |exact hyg_addr
   |exact hyg_stuck _
   |(simp at h;done)
   |(split <;> first|exact .pure trivial|exact hyg_stuck _)
   |skip
  ·cases hx with|ptr hx=>cases hy with|ptr hy=>
   refine Hyg.bind (hyg_behindNumber hx) fun p hp=> ?_
   refine Hyg.bind (hyg_behindNumber hy) fun q hq=> ?_
   dsimp only
   refine hyg_prog rfl ?_
   split
   ·refine Hyg.bind (hyg_byteOf hp) fun _ _=> ?_
    exact Hyg.bind (hyg_byteOf hq) fun _ _=> .pure trivial
   ·refine Hyg.bind (hyg_typeInfo t) fun i _=> ?_
    split
    ·split
     ·exact .pure trivial
     ·exact hyg_addr
    ·exact hyg_addr
  ·cases hx with|ptr hx=>cases hy with|ptr hy=>
   refine Hyg.bind (hyg_sizeOf _) fun k _=> ?_
   refine hyg_ite (fun _=>hyg_sameAddr hx hy) fun _=>hyg_ite (fun _=> .pure trivial) fun _=> ?_
   exact Hyg.bind (hyg_choose _) fun _ _=> .pure trivial
  ·next fs xs ys=>
   cases hx with|agg hx=>cases hy with|agg hy=>
   refine hyg_prog (by rw [stoodInHeld_sw]) ?_
   split
   ·exact hyg_noEntry _
   refine Hyg.bind (Q:=fun _=>True) ?_ fun r _=> ?_
   ·refine hyg_forIn_array _ _ (fun f hf s=> ?_) _
    split
    ·next hn=>
     have hf':eqT P n f.type=true:=by
      have:=Array.all_eq_true_iff_forall_mem.1 h f hf
      simp only [Bool.or_eq_true,beq_iff_eq]at this
      exact this.resolve_left hn
     refine Hyg.bind (hyg_part _ hx _) fun a ha=> ?_
     refine Hyg.bind (hyg_part _ hy _) fun b hb=> ?_
     refine Hyg.bind (hyg_equalIn d n f.type a b hf' ha hb) fun e _=> ?_
     split <;> exact .pure trivial
    ·exact .pure trivial
   ·dsimp only
    split <;> exact .pure trivial
  ·next len e xs ys=>
   cases hx with|agg hx=>cases hy with|agg hy=>
   refine Hyg.bind (hyg_sizeOf _) fun k _=> ?_
   refine Hyg.bind (Q:=fun _=>True) ?_ fun r _=> ?_
   ·refine hyg_forIn_range _ _ (fun i s=> ?_) _
    refine Hyg.bind (hyg_part _ hx _) fun a ha=> ?_
    refine Hyg.bind (hyg_part _ hy _) fun b hb=> ?_
    refine Hyg.bind (hyg_equalIn d n e a b h ha hb) fun e _=> ?_
    split <;> exact .pure trivial
   ·dsimp only
    split <;> exact .pure trivial
theorem hyg_eqGuardIn:∀ (d:Nat) (t:TypeId) (x y:Value),Av Z L x->Av Z L y->Hyg P (sw P F) Z L (fun _=>True) (Op.eqGuardIn d t x y)
 |0,_,_,_,_,_=>by unfold Op.eqGuardIn;exact hyg_limit _
 | d +1,t,x,y,hx,hy=>by
  unfold Op.eqGuardIn
  refine Hyg.bind (hyg_underlying t) fun u hu=> ?_
  split
  ·exact .pure trivial
  ·next fs xs ys=>
   cases hx with|agg hx=>cases hy with|agg hy=>
   refine Hyg.bind (Q:=fun _=>True) ?_ fun r _=> ?_
   ·refine hyg_forIn_array _ _ (fun f hf s=> ?_) _
    split
    ·refine Hyg.bind (hyg_part _ hx _) fun a ha=> ?_
     refine Hyg.bind (hyg_part _ hy _) fun b hb=> ?_
     refine Hyg.bind (hyg_eqGuardIn d f.type a b ha hb) fun e _=> ?_
     split <;> exact .pure trivial
    ·exact .pure trivial
   ·dsimp only
    split <;> exact .pure trivial
  ·next len e xs ys=>
   cases hx with|agg hx=>cases hy with|agg hy=>
   refine Hyg.bind (hyg_sizeOf _) fun k _=> ?_
   refine Hyg.bind (Q:=fun _=>True) ?_ fun r _=> ?_
   ·refine hyg_forIn_range _ _ (fun i s=> ?_) _
    refine Hyg.bind (hyg_part _ hx _) fun a ha=> ?_
    refine Hyg.bind (hyg_part _ hy _) fun b hb=> ?_
    refine Hyg.bind (hyg_eqGuardIn d e a b ha hb) fun e _=> ?_
    split <;> exact .pure trivial
   ·dsimp only
    split <;> exact .pure trivial
  ·exact .pure trivial
theorem hyg_eqGuard(op:BinOp)(t:TypeId)(x y:Operand){a b:Value}(ha:Av Z L a)(hb:Av Z L b):Hyg P (sw P F) Z L (fun _=>True) (eqGuard op t x y a b):=by
 have key:Hyg P (sw P F) Z L (fun _=>True) (match a,b with
  | .nilIface,.nilIface=>
   if((match x with| .const _=>true|_=>false)||(match y with| .const _=>true|_=>false))=true then(pure ():Sem Unit)
   else do
    let r←Op.eqGuardIn Op.maxDepth t a b
    if r=true then unsupported (.noEntry "binop/eql: two nil values of an interface type with methods, neither of them the literal nil")else pure ()
  | .agg _,.agg _=>do
   let p←program
   let p'←program
   if(!p.eqGuardType p'.depth t)=true then pure ()
   else do
    let r←Op.eqGuardIn Op.maxDepth t a b
    if r=true then unsupported (.noEntry "binop/eql: two nil values of an interface type with methods, in a part of a struct or an array")else pure ()
  |_,_=>pure ()):=by
  split
  ·refine hyg_ite (fun _=> .pure trivial) fun _=> ?_
   refine Hyg.bind (hyg_eqGuardIn _ _ _ _ ha hb) fun e _=> ?_
   split
   ·exact hyg_noEntry _
   ·exact .pure trivial
  ·refine hyg_prog (by simp only [eqGuardType_sw]) ?_
   refine hyg_prog (by simp only [depth_sw];rfl) ?_
   split
   ·exact .pure trivial
   ·refine Hyg.bind (hyg_eqGuardIn _ _ _ _ ha hb) fun e _=> ?_
    split
    ·exact hyg_noEntry _
    ·exact .pure trivial
  ·exact .pure trivial
 unfold eqGuard
 cases op <;> first|exact .pure trivial|exact key
theorem hyg_intArith(op:BinOp)(k:IntKind)(x y:Int):Hyg P (sw P F) Z L (Av Z L) (Op.intArith op k x y):=by
 unfold Op.intArith;split <;> first|exact .pure (.int _ _)|exact hyg_stuck _
theorem hyg_intDiv(op:BinOp)(k:IntKind)(x y:Int):Hyg P (sw P F) Z L (Av Z L) (Op.intDiv op k x y):=by
 unfold Op.intDiv
 split
 ·exact hyg_rp rfl
 ·split <;> first|exact .pure (.int _ _)|exact hyg_stuck _
theorem hyg_intBits(op:BinOp)(k:IntKind)(x y:Int):Hyg P (sw P F) Z L (Av Z L) (Op.intBits op k x y):=by
 unfold Op.intBits;dsimp only;split <;> first|exact .pure (.int _ _)|exact hyg_stuck _
theorem hyg_intCmp(op:BinOp)(x y:Int):Hyg P (sw P F) Z L (Av Z L) (Op.intCmp op x y):=by
 unfold Op.intCmp;split <;> first|exact .pure (.bool _)|exact hyg_stuck _
theorem hyg_shift(op:BinOp)(k:IntKind)(x:Int)(yk:IntKind)(y:Int):Hyg P (sw P F) Z L (Av Z L) (Op.shift op k x yk y):=by
 unfold Op.shift
 split
 ·exact hyg_rp rfl
 ·dsimp only;split <;> first|exact .pure (.int _ _)|exact hyg_stuck _
theorem hyg_stringOp(op:BinOp)(x y:ByteArray):Hyg P (sw P F) Z L (Av Z L) (Op.stringOp op x y):=by
 unfold Op.stringOp
 dsimp only
 split <;> first|exact .pure (.bool _)|exact hyg_stuck _|(split <;> first|exact hyg_limit _|exact .pure (.string _))
theorem hyg_unary(op:UnOp){x:Value}(hx:Av Z L x):Hyg P (sw P F) Z L (Av Z L) (Op.unary op x):=by
 unfold Op.unary
 split <;> first|exact hyg_intArith _ _ _ _|exact hyg_intBits _ _ _ _|exact .pure (.bool _)|exact hyg_addr|exact hyg_stuck _|(cases hx;done)
theorem hyg_twoPlaces{a b:Addr}(ha:¬ Z a.block)(hb:¬ Z b.block):Hyg P (sw P F) Z L (fun _=>True) (Op.twoPlaces a b):=by
 unfold Op.twoPlaces
 refine hyg_prog rfl ?_
 split
 ·exact hyg_addr
 ·refine Hyg.bind (hyg_byteOf ha) fun _ _=> ?_
  exact Hyg.bind (hyg_byteOf hb) fun _ _=> .pure trivial
theorem hyg_addrSub(k:IntKind){a b:Addr}(ha:¬ Z a.block)(hb:¬ Z b.block):Hyg P (sw P F) Z L (Av Z L) (Op.addrSub k a b):=by
 unfold Op.addrSub
 exact Hyg.bind (hyg_twoPlaces ha hb) fun _ _=> .pure (.int _ _)
theorem hyg_addrCmp(op:BinOp){a b:Addr}(ha:¬ Z a.block)(hb:¬ Z b.block):Hyg P (sw P F) Z L (Av Z L) (Op.addrCmp op a b):=by
 unfold Op.addrCmp
 refine Hyg.bind (hyg_twoPlaces ha hb) fun _ _=> ?_
 dsimp only
 split <;> first|exact .pure (.bool _)|exact hyg_addr
theorem hyg_addrMod(k:IntKind){a:Addr}(ha:¬ Z a.block)(n:Int):Hyg P (sw P F) Z L (Av Z L) (Op.addrMod k a n):=by
 unfold Op.addrMod
 refine Hyg.bind (hyg_shape ha) fun s _=> ?_
 split
 ·refine Hyg.bind (hyg_typeInfo _) fun i _=> ?_
  dsimp only
  split
  ·exact hyg_addr
  ·exact Hyg.bind (hyg_byteOf ha) fun _ _=> .pure (.int _ _)
 ·exact hyg_addr
theorem cellOfByte_sw:∀ (d:Nat) (t:TypeId) (b:Nat),cellOfByte (sw P F) d t b=cellOfByte P d t b
 |0,_,_=>by unfold cellOfByte;rfl
 |d+1,t,b=>by
  unfold cellOfByte
  simp only [cellOfByte_sw d]
  rfl
theorem cellAtBytes_sw(d:Nat)(e:TypeId)(c o:Nat)(b:Int):cellAtBytes (sw P F) d e c o b=cellAtBytes P d e c o b:=by
 unfold cellAtBytes
 simp only [cellOfByte_sw,byteOfCell_sw]
 rfl
theorem hyg_unsafeAdd(ats:Array TypeId)(t:TypeId){x y:Value}(hx:Av Z L x):Hyg P (sw P F) Z L (Av Z L) (Builtin.unsafeAdd_ ats t #[x,y]):=by
 unfold Builtin.unsafeAdd_
 cases x with
 | pointer p=>
  refine Hyg.bind (hyg_asInt _) fun n _=> ?_
  dsimp only
  refine hyg_ite (fun _=> ?_) fun _=> ?_
  ·cases p with
   |some a=>
    cases hx with|ptr h=>
    refine Hyg.bind (hyg_viewAt h) fun o ho=> ?_
    exact hyg_ite (fun _=>Hyg.bind (Q:=fun _:Unit=>True) (hyg_unsf _) fun _ _=> .pure (.ptr h)) fun _=> .pure (.ptr h)
   |none=>exact hyg_unsf _
  refine hyg_ite (fun _=>hyg_unsf _) fun _=> ?_
  cases p with
  | some a=>
   cases hx with|ptr h=>
   refine Hyg.bind (hyg_shape h) fun s _=> ?_
   split
   ·refine hyg_prog (by simp only [cellAtBytes_sw];rfl) ?_
    split
    ·exact .pure (.ptr h)
    ·exact hyg_unsf _
   ·exact hyg_unsf _
  |none=>exact hyg_unsf _
 |_=>exact hyg_stuck _
theorem hyg_movedNumber(t:TypeId){x y:Value}(hx:Av Z L x):Hyg P (sw P F) Z L (Av Z L) (movedNumber t x y):=by
 unfold movedNumber
 refine Hyg.bind (hyg_underlying t) fun u _=> ?_
 refine hyg_ite (fun _=>hyg_unsf _) fun _=> ?_
 split
 ·next n=>
  cases hx with|ptr h=>
  refine Hyg.bind (hyg_behindNumber h) fun p hp=> ?_
  dsimp only
  refine Hyg.bind (hyg_unsafeAdd _ _ (.ptr hp)) fun v hv=> ?_
  split
  ·cases hv with|ptr hv=>exact hyg_asNumber hv _
  ·exact .pure hv
 ·exact hyg_unsafeAdd _ _ hx
theorem hyg_movedPointer(t:TypeId){x y:Value}(hx:Av Z L x):Hyg P (sw P F) Z L (Av Z L) (movedPointer t x y):=by
 unfold movedPointer
 split
 ·next a=>
  cases hx with|ptr h=>
  refine Hyg.bind (hyg_numberAt h) fun o _=> ?_
  refine hyg_ite (fun _=>hyg_addr) fun _=> ?_
  exact hyg_unsafeAdd _ _ (.ptr h)
 ·exact hyg_unsafeAdd _ _ hx
theorem hyg_binOp(op:BinOp)(t:TypeId){x y:Value}(hx:Av Z L x)(hy:Av Z L y)(he:(op= .eql∨op= .neq)->∃n,eqT P n t=true):Hyg P (sw P F) Z L (Av Z L) (binOp op t x y):=by
 unfold binOp
 split
 all_goals first
  |exact hyg_shift _ _ _ _ _
  |exact hyg_stringOp _ _ _
  |exact hyg_addr
  |exact hyg_stuck _
  |(cases hx;done)
  |skip
 ·refine hyg_ite (fun _=>hyg_stuck _) fun _=> ?_
  split <;> first|exact hyg_intArith _ _ _ _|exact hyg_intDiv _ _ _ _|exact hyg_intBits _ _ _ _|exact hyg_intCmp _ _ _
 ·obtain⟨n,hn⟩:=he (.inl rfl)
  exact Hyg.bind (hyg_equalIn _ n _ _ _ hn hx hy) fun b _=> .pure (.bool _)
 ·obtain⟨n,hn⟩:=he (.inr rfl)
  exact Hyg.bind (hyg_equalIn _ n _ _ _ hn hx hy) fun b _=> .pure (.bool _)
 ·exact Hyg.bind (hyg_underlying _) fun u _=>hyg_ite (fun _=>hyg_movedPointer _ hx) fun _=>hyg_movedNumber _ hx
 ·exact hyg_movedNumber _ hy
 ·exact hyg_movedNumber _ hx
 ·cases hx with|ptr hx=>cases hy with|ptr hy=>
  exact Hyg.bind (hyg_behindNumber hx) fun p hp=>Hyg.bind (hyg_behindNumber hy) fun q hq=>hyg_addrSub _ hp hq
 iterate 4
  ·cases hx with|ptr hx=>cases hy with|ptr hy=>
   exact Hyg.bind (hyg_behindNumber hx) fun p hp=>Hyg.bind (hyg_behindNumber hy) fun q hq=>hyg_addrCmp _ hp hq
 ·cases hx with|ptr hx=>exact Hyg.bind (hyg_behindNumber hx) fun p hp=>hyg_addrMod _ hp _
 ·cases hx with|ptr hx=>exact Hyg.bind (hyg_behindNumber hx) fun p hp=>hyg_addrMod _ hp _
 ·cases hy with|ptr hy=>exact Hyg.bind (hyg_behindNumber hy) fun p hp=>hyg_addrMod _ hp _
end
end
section
open Go
section
variable {P:Program} {F:Array Func} {Z:Nat->Prop} {L:Lk} {α β:Type} {Q:α->Prop} {R:β->Prop}
theorem hyg_mapM_list{γ δ:Type}(f:γ->Sem δ)(h:∀x,Hyg P (sw P F) Z L (fun _=>True) (f x)):∀xs:List γ,Hyg P (sw P F) Z L (fun _=>True) (xs.mapM f)
 | []=>by rw [List.mapM_nil];exact .pure trivial
 |x :: xs=>by
  rw [List.mapM_cons]
  exact Hyg.bind (h x) fun _ _=>Hyg.bind (hyg_mapM_list f h xs) fun _ _=> .pure trivial
theorem hyg_mapM{γ δ:Type}(f:γ->Sem δ)(h:∀x,Hyg P (sw P F) Z L (fun _=>True) (f x))(xs:Array γ):Hyg P (sw P F) Z L (fun _=>True) (xs.mapM f):=by
 rw [Array.mapM_eq_mapM_toList]
 rw [map_eq_pure_bind]
 exact Hyg.bind (hyg_mapM_list f h _) fun _ _=> .pure trivial
theorem av_default:Av Z L default:= .bool _
theorem av_get(cs:Array Value)(h:∀v∈cs,Av Z L v)(i:Nat):Av Z L cs[i]! :=by
 rw [getElem!_def]
 split
 ·next e=>exact h _ (Array.mem_of_getElem? e)
 ·exact av_default
theorem av_range(cs:Array Value)(h:∀v∈cs,Av Z L v)(n:Nat):∀v∈(Array.range n).map (cs[· % cs.size]!),Av Z L v:=by
 intro v hv
 obtain⟨i,_,rfl⟩:=Array.mem_map.1 hv
 exact av_get cs h _
theorem av_zeroCells(cs:Array Value)(h:∀v∈cs,Av Z L v)(n:Nat):∀v∈Builtin.zeroCells cs n,Av Z L v:=by
 intro v hv
 unfold Builtin.zeroCells at hv
 obtain⟨i,_,rfl⟩:=Array.mem_map.1 hv
 exact av_get cs h _
theorem av_app{a b:Array Value}(ha:∀v∈a,Av Z L v)(hb:∀v∈b,Av Z L v):∀v∈a++b,Av Z L v:=fun v hv=>(Array.mem_append.1 hv).elim (ha v) (hb v)
theorem av_setFold(off:Nat):∀ (l:List (Value×Nat)) (cs:Array Value),(∀x∈l,Av Z L x.1)->(∀v∈cs,Av Z L v)->∀v∈l.foldl (fun cs (c,j)=>cs.setIfInBounds (off+j) c) cs,Av Z L v
 | [],_,_,h=>h
 |x :: l,cs,hl,h=>by
  rw [List.foldl_cons]
  refine av_setFold off l _ (fun y hy=>hl y (by simp [hy])) fun v hv=> ?_
  rcases Array.mem_or_eq_of_mem_setIfInBounds hv with m|m
  ·exact h v m
  ·exact m▸hl x (by simp)
theorem av_fill(place:Nat->Option (Nat×Nat)):∀ (parts:List (Nat×Value)) (cs r:Array Value),(∀x∈parts,Av Z L x.2)->(∀v∈cs,Av Z L v)->Instr.fill place cs parts=some r->∀v∈r,Av Z L v
 | [],cs,r,_,h,e=>by unfold Instr.fill at e;cases e;exact h
 | (i,x) :: parts,cs,r,hp,h,e=>by
  unfold Instr.fill at e
  split at e
  ·cases e
  ·split at e
   ·cases e
   ·refine av_fill place parts _ r (fun y hy=>hp y (by simp [hy])) ?_ e
    rw [←Array.foldl_toList]
    refine av_setFold _ _ _ (fun y hy=> ?_) h
    have hx:=hp (i,x) (by simp)
    have:y.1∈x.cells:=by
     have hy':y∈x.cells.zipIdx:=Array.mem_toList_iff.1 hy
     obtain⟨k,hk,rfl⟩:=Array.mem_iff_getElem.1 hy'
     simp only [Array.getElem_zipIdx]
     exact Array.getElem_mem _
    exact hx.cells _ this
theorem hyg_alloc{t:TypeId}(hz:zOk P t=true):Hyg P (sw P F) Z L (Av Z L) (Instr.alloc t true (.tuple #[])):=by
 unfold Instr.alloc
 refine Hyg.bind (hyg_zero hz) fun z hz=> ?_
 exact Hyg.bind (hyg_newVar _ hz) fun a ha=> .pure (.ptr ha)
theorem hyg_box(t:TypeId){v:Value}(hv:Av Z L v):Hyg P (sw P F) Z L (Av Z L) (Instr.box t v):=by
 unfold Instr.box
 exact Hyg.bind (hyg_newVar _ hv) fun a ha=> .pure (.ptr ha)
theorem hyg_build{t:TypeId}(hz:zOk P t=true){parts:Array (Nat×Value)}(hp:∀x∈parts,Av Z L x.2):Hyg P (sw P F) Z L (Av Z L) (Instr.build t parts):=by
 unfold Instr.build
 refine Hyg.bind (hyg_zero hz) fun z hz=> ?_
 dsimp only
 refine Hyg.bind (hyg_underlying _) fun u _=> ?_
 split
 ·refine Hyg.bind (hyg_mapM _ (fun f=>Hyg.bind (hyg_sizeOf _) fun _ _=> .pure trivial) _) fun pl _=> ?_
  split
  ·next e=>exact .pure (.agg (av_fill _ _ _ _ (fun x hx=>hp x (by simpa using hx)) hz.cells e))
  ·exact hyg_stuck _
 ·refine Hyg.bind (hyg_sizeOf _) fun n _=> ?_
  split
  ·next e=>exact .pure (.agg (av_fill _ _ _ _ (fun x hx=>hp x (by simpa using hx)) hz.cells e))
  ·exact hyg_stuck _
 ·exact hyg_stuck _
def zElem(P:Program)(t:TypeId):Bool:=match P.underlying t with
 |some (.slice e)=>zOk P e
 |_=>true
theorem hyg_buildSlice{t:TypeId}(hz:zElem P t=true)(n:Nat){parts:Array (Nat×Value)}(hp:∀x∈parts,Av Z L x.2):Hyg P (sw P F) Z L (Av Z L) (Instr.buildSlice t n parts):=by
 unfold Instr.buildSlice
 refine Hyg.bind (hyg_underlying _) fun u hu=> ?_
 split
 ·next e=>
  have hze:zOk P e=true:=by unfold zElem at hz;rw [hu]at hz;exact hz
  refine Hyg.bind (hyg_sizeOf _) fun k _=> ?_
  dsimp only
  refine hyg_ite (fun _=>hyg_limit _) fun _=> ?_
  have fin:∀z:Array Value,(∀v∈z,Av Z L v)->Hyg P (sw P F) Z L (Av Z L) (match
     Instr.fill (fun i=>some (i*k,k)) (Array.map (fun x=>z[x % z.size]!) (Array.range (n*k)))
      parts.toList with
    |some cells=>do
     let a←newRow e cells
     pure (Value.slice (some a) n n)
    |_=>stuck "buildSlice: a part of the wrong size"):=by
   intro z hz
   split
   ·next e'=>
    exact Hyg.bind (hyg_newRow _ (av_fill _ _ _ _ (fun x hx=>hp x (by simpa using hx)) (av_range z hz _) e')) fun a ha=> .pure (.slice _ _ ha)
   ·exact hyg_stuck _
  exact hyg_ite (fun _=>fin #[] (by simp)) fun _=>Hyg.bind (hyg_zero hze) fun z hz=>fin _ hz.cells
 ·exact hyg_stuck _
theorem hyg_loadAt(t:TypeId){v:Value}(hv:Av Z L v):Hyg P (sw P F) Z L (Av Z L) (Instr.loadAt t v):=by
 unfold Instr.loadAt
 exact Hyg.bind (hyg_sureAddr hv) fun a ha=>hyg_loadVar t ha
theorem hyg_storeAt(t:TypeId){v x:Value}(hv:Av Z L v)(hx:Av Z L x):Hyg P (sw P F) Z L (fun _=>True) (Instr.storeAt t v x):=by
 unfold Instr.storeAt
 exact Hyg.bind (hyg_sureAddr hv) fun a ha=>hyg_storeVar t ha hx
theorem hyg_fieldAt(s:TypeId){v:Value}(hv:Av Z L v)(f:Nat):Hyg P (sw P F) Z L (Av Z L) (Instr.fieldAt s v f):=by
 unfold Instr.fieldAt
 refine Hyg.bind (hyg_underlying _) fun u _=> ?_
 split
 ·split
  ·refine Hyg.bind (hyg_sureAddr hv) fun a ha=> ?_
   exact Hyg.bind (hyg_fieldPlace ha _) fun b hb=> .pure (.ptr hb)
  ·exact hyg_stuck _
 ·exact hyg_stuck _
theorem hyg_field(s:TypeId){v:Value}(hv:Av Z L v)(f:Nat):Hyg P (sw P F) Z L (Av Z L) (Instr.field s v f):=by
 unfold Instr.field
 refine Hyg.bind (hyg_underlying _) fun u _=> ?_
 split
 ·split
  ·exact Hyg.bind (hyg_asAgg hv) fun cs hcs=>hyg_part _ hcs _
  ·exact hyg_stuck _
 ·exact hyg_stuck _
theorem hyg_indexAt(t:TypeId){x ix:Value}(hx:Av Z L x):Hyg P (sw P F) Z L (Av Z L) (Instr.indexAt t x ix):=by
 unfold Instr.indexAt
 refine Hyg.bind (hyg_asIntOf _) fun ki _=> ?_
 dsimp only
 refine Hyg.bind (hyg_underlying _) fun u _=> ?_
 have key:∀y:Option Addr×Nat×TypeId,(∀a,y.1=some a->¬ Z a.block)->Hyg P (sw P F) Z L (Av Z L) (do
   let d←underlying t
   match y.1 with
    | some a=>
     if 0<=ki.2/\ki.2<(y.2.1:Int)then do
      let n←sizeOf y.2.2
      pure (Value.pointer (some (a.add (ki.2.toNat*n))))
     else
      if(decide (y.2.1<=1)&&match d with|TypeDesc.array _ _=>true|_=>false)=true then
       unsupported (Unsupported.noEntry "op/indexAddr.an index out of range at an array of length 0 or 1 (ledger 616)")
      else boundsPanic ki.1 ki.2 (y.2.1:Int) BoundsCode.index
    |none=>boundsPanic ki.1 ki.2 0 BoundsCode.index):=by
  intro y hy
  refine Hyg.bind (hyg_underlying _) fun u' _=> ?_
  split
  ·next a e=>
   refine hyg_ite (fun _=> ?_) fun _=>hyg_ite (fun _=>hyg_noEntry _) fun _=>hyg_bp _ _ _ _
   exact Hyg.bind (hyg_sizeOf _) fun n _=> .pure (.ptr (by rw [add_block];exact hy a e))
  ·exact hyg_bp _ _ _ _
 split
 ·exact Hyg.bind (hyg_sureAddr hx) fun a ha=>key (some a,_,_) (by rintro b ⟨⟩;exact ha)
 ·next elem base len cap _=>exact key (base,len,elem) (by rintro a rfl;cases hx with|slice _ _ h=>exact h)
 ·exact hyg_stuck _
theorem hyg_index(t:TypeId){x ix:Value}(hx:Av Z L x):Hyg P (sw P F) Z L (Av Z L) (Instr.index t x ix):=by
 unfold Instr.index
 refine Hyg.bind (hyg_asIntOf _) fun ki _=> ?_
 dsimp only
 refine Hyg.bind (hyg_underlying _) fun u _=> ?_
 split
 ·cases hx with|agg hx=>
  exact hyg_ite (fun _=>Hyg.bind (hyg_sizeOf _) fun n _=>hyg_part _ hx _) fun _=>hyg_bp _ _ _ _
 ·split
  ·exact .pure (.int _ _)
  ·exact hyg_bp _ _ _ _
 ·exact hyg_stuck _
theorem hyg_extract{v:Value}(hv:Av Z L v)(i:Nat):Hyg P (sw P F) Z L (Av Z L) (Instr.extract v i):=by
 unfold Instr.extract
 split
 ·cases hv with|tuple hv=>
  split
  ·next e=>exact .pure (hv _ (Array.mem_of_getElem? e))
  ·exact hyg_stuck _
 ·exact hyg_stuck _
theorem hyg_sliceBound(x:Value)(y:Nat)(c:BoundsCode):Hyg P (sw P F) Z L (fun _=>True) (Instr.sliceBound x y c):=by
 unfold Instr.sliceBound
 refine Hyg.bind (hyg_asIntOf _) fun ki _=> ?_
 exact hyg_ite (fun _=> .pure trivial) fun _=>hyg_bp _ _ _ _
theorem hyg_sliceBounds(s:Bool)(l c:Nat)(lo hi mx:Option Value):Hyg P (sw P F) Z L (fun _=>True) (Instr.sliceBounds s l c lo hi mx):=by
 unfold Instr.sliceBounds
 have k1:∀ (m h:Nat),Hyg P (sw P F) Z L (fun _=>True) (match(generalizing:=false) lo with
    |some v=>do
     let l←Instr.sliceBound v h (if mx.isSome=true then BoundsCode.slice3C else BoundsCode.sliceB)
     pure (l,h,m)
    |none=>do
     let l←pure 0
     pure (l,h,m)):=by
  intro m h
  split
  ·exact Hyg.bind (hyg_sliceBound _ _ _) fun _ _=> .pure trivial
  ·exact .pure trivial
 have k2:∀m:Nat,Hyg P (sw P F) Z L (fun _=>True) (match(generalizing:=false) hi,mx with
   | some v,some _=>do
    let h←Instr.sliceBound v m BoundsCode.slice3B
    (match(generalizing:=false) lo with
    |some v=>do
     let l←Instr.sliceBound v h (if mx.isSome=true then BoundsCode.slice3C else BoundsCode.sliceB)
     pure (l,h,m)
    |none=>do
     let l←pure 0
     pure (l,h,m))
   | some v,none=>do
    let h←Instr.sliceBound v m (if s=true then BoundsCode.sliceAcap else BoundsCode.sliceAlen)
    (match(generalizing:=false) lo with
    |some v=>do
     let l←Instr.sliceBound v h (if mx.isSome=true then BoundsCode.slice3C else BoundsCode.sliceB)
     pure (l,h,m)
    |none=>do
     let l←pure 0
     pure (l,h,m))
   | none,none=>do
    let h←pure l
    (match(generalizing:=false) lo with
    |some v=>do
     let l←Instr.sliceBound v h (if mx.isSome=true then BoundsCode.slice3C else BoundsCode.sliceB)
     pure (l,h,m)
    |none=>do
     let l←pure 0
     pure (l,h,m))
   |none,some _=>stuck "Slice: max without high"):=by
  intro m
  split
  ·exact Hyg.bind (hyg_sliceBound _ _ _) fun h _=>k1 m h
  ·exact Hyg.bind (hyg_sliceBound _ _ _) fun h _=>k1 m h
  ·exact k1 m l
  ·exact hyg_stuck _
 cases mx with
 |some v=>
  refine Hyg.bind (hyg_sliceBound _ _ _) fun m _=> ?_
  cases hi with
  |some h=>exact Hyg.bind (hyg_sliceBound _ _ _) fun h _=>k1 m h
  |none=>exact hyg_stuck _
 |none=>
  show Hyg P (sw P F) Z L _ (match hi,(none:Option Value)with|some v,some _=>_|some v,none=>_|none,none=>_|none,some _=>_)
  cases hi with
  |some h=>exact Hyg.bind (hyg_sliceBound _ _ _) fun h _=>k1 c h
  |none=>exact k1 c l
theorem hyg_slice(t:TypeId){x:Value}(hx:Av Z L x)(lo hi mx:Option Value):Hyg P (sw P F) Z L (Av Z L) (Instr.slice t x lo hi mx):=by
 unfold Instr.slice
 refine Hyg.bind (hyg_underlying _) fun u _=> ?_
 split
 ·dsimp only
  refine hyg_ite (fun _=>hyg_stuck _) fun _=> ?_
  exact Hyg.bind (hyg_sliceBounds _ _ _ _ _ _) fun y _=> .pure (.string _)
 ·refine Hyg.bind (hyg_sliceBounds _ _ _ _ _ _) fun y _=> ?_
  dsimp only
  refine Hyg.bind (hyg_sizeOf _) fun n _=> ?_
  cases hx with
  |slice0=>exact .pure (by split <;> exact .slice0 _ _)
  |slice _ _ h=>
   refine .pure ?_
   split
   ·exact .slice _ _ h
   ·exact .slice _ _ (by rw [add_block];exact h)
 ·refine Hyg.bind (Q:=fun a=>¬ Z a.block) ?_ fun a ha=> ?_
  ·unfold asAddr
   split
   ·cases hx with|ptr h=>exact .pure h
   ·exact hyg_rp rfl
   ·exact hyg_stuck _
  refine Hyg.bind (hyg_underlying _) fun u _=> ?_
  split
  ·refine Hyg.bind (hyg_sliceBounds _ _ _ _ _ _) fun y _=> ?_
   dsimp only
   refine Hyg.bind (hyg_sizeOf _) fun n _=> .pure (.slice _ _ ?_)
   split
   ·exact ha
   ·rw [add_block];exact ha
  ·exact hyg_stuck _
 ·exact hyg_stuck _
theorem hyg_sliceAt(t:TypeId){x:Value}(hx:Av Z L x)(lo hi mx:Option Value):Hyg P (sw P F) Z L (Av Z L) (Instr.sliceAt t x lo hi mx):=by
 unfold Instr.sliceAt
 refine Hyg.bind (hyg_underlying _) fun u _=> ?_
 split
 ·refine Hyg.bind (hyg_sureAddr hx) fun a ha=> ?_
  refine Hyg.bind (hyg_sliceBounds _ _ _ _ _ _) fun y _=> ?_
  dsimp only
  refine Hyg.bind (hyg_sizeOf _) fun n _=> .pure (.slice _ _ ?_)
  split
  ·exact ha
  ·rw [add_block];exact ha
 ·exact hyg_slice t hx _ _ _
theorem hyg_holdsCells{a:Addr}(ha:¬ Z a.block)(n:Nat):Hyg P (sw P F) Z L (fun _=>True) (Builtin.holdsCells a n):=by
 unfold Builtin.holdsCells
 refine Hyg.bind (hyg_shape ha) fun s _=> ?_
 split <;> exact .pure trivial
theorem hyg_lenOf(v:Value):Hyg P (sw P F) Z L (fun _=>True) (Builtin.lenOf v):=by
 unfold Builtin.lenOf
 split <;> first|exact .pure trivial|exact hyg_stuck _
theorem hyg_firstCells(s n:Nat){v:Value}(hv:Av Z L v):Hyg P (sw P F) Z L (fun cs=>∀c∈cs,Av Z L c) (Builtin.firstCells s n v):=by
 unfold Builtin.firstCells
 split
 ·cases hv with|slice _ _ h=>exact hyg_loadCells h _
 ·exact .pure (by simp)
 ·refine .pure fun c hc=> ?_
  obtain⟨b,_,rfl⟩:=Array.mem_map.1 hc
  exact .int _ _
 ·exact hyg_stuck _
theorem hyg_askRoom(n:Nat):Hyg P (sw P F) Z L (fun _=>True) (askRoom n):=by
 unfold askRoom
 exact hyg_ite (fun _=> .noRoom (.inl rfl) (.pure trivial)) fun _=> .pure trivial
end
end
section
open Go
section
variable {P:Program} {F:Array Func} {Z:Nat->Prop} {L:Lk} {α β:Type} {Q:α->Prop} {R:β->Prop}
theorem hyg_rpBind{e:RuntimeError}(h:bareErr e=true)(f:α->Sem β):Hyg P (sw P F) Z L R (runtimePanic e>>=f):=
 Hyg.bind (Q:=fun _=>False) (hyg_rp h) fun _ h=>h.elim
theorem hyg_mayShare(s l n:Nat){b:Option Addr}(hb:∀a,b=some a->¬ Z a.block){x:Value}(hx:Av Z L x):Hyg P (sw P F) Z L (fun _=>True) (Builtin.mayShare s l n b x):=by
 unfold Builtin.mayShare
 extract_lets jp
 have key:∀there:Bool,Hyg P (sw P F) Z L (fun _=>True) (jp there):=by
  intro there
  simp -zeta only [jp]
  refine hyg_ite (fun _=> .pure trivial) fun _=> ?_
  split
  ·cases hx with|slice _ _ h=>exact Hyg.bind (hyg_holdsCells h _) fun _ _=> .pure trivial
  ·exact .pure trivial
 clear_value jp
 cases b with
 |none=>exact key true
 |some a=>
  have ha:=hb a rfl
  refine Hyg.bind (hyg_holdsCells ha _) fun _ _=> ?_
  exact Hyg.bind (hyg_frozen (by rw [add_block];exact ha)) fun _ _=>key _
theorem hyg_append (ats:Array TypeId) (t:TypeId) (args:Array Value) (h:∀v∈args,Av Z L v) (hz:∀sT,ats[0]? =some sT->zElem P sT=true):
  Hyg P (sw P F) Z L (Av Z L) (Builtin.append_ ats t args):=by
 unfold Builtin.append_
 split
 ·next o sType s x e0=>
  simp only [Prod.mk.injEq]at e0
  obtain⟨e1,e2,e3⟩:=e0
  have hs:Av Z L s:=h s (Array.mem_of_getElem? e2)
  have hx:Av Z L x:=h x (Array.mem_of_getElem? e3)
  refine Hyg.bind (hyg_underlying _) fun u hu=> ?_
  split
  ·next elem=>
   have hze:zOk P elem=true:=by
    have:=hz sType e1
    unfold zElem at this
    rw [hu]at this
    exact this
   split
   ·next base sLen sCap=>
    have hb:∀a,base=some a->¬ Z a.block:=by rintro a rfl;cases hs with|slice _ _ h=>exact h
    refine Hyg.bind (hyg_sizeOf _) fun size _=> ?_
    have happ:∀ (zeros:Bool) (n:Nat),Hyg P (sw P F) Z L (fun cs=>∀c∈cs,Av Z L c) (if(!zeros)=true then Builtin.firstCells size n x
      else if n*size=0 then pure #[]else zeroValue elem>>=fun z=>pure (Builtin.zeroCells z.cells n)):=by
     intro zeros n
     refine hyg_ite (fun _=>hyg_firstCells _ _ hx) fun _=>hyg_ite (fun _=> .pure (by simp)) fun _=> ?_
     exact Hyg.bind (hyg_zero hze) fun z hz=> .pure (av_zeroCells _ hz.cells _)
    have grow:∀ (zeros:Bool) (n:Nat),Hyg P (sw P F) Z L (Av Z L) (choose (Question.appendCap (sLen+n) sCap elem)>>=fun newCap=>typeInfo elem>>=fun i=>askRoom (newCap*i.bytes)>>=fun _=>Builtin.firstCells size sLen (Value.slice base sLen sCap)>>=fun old=>
      (if(!zeros)=true then Builtin.firstCells size n x
       else if n*size=0 then pure #[]else zeroValue elem>>=fun z=>pure (Builtin.zeroCells z.cells n))>>=fun new=>zeroValue elem>>=fun z=>newRow elem (old++new++Builtin.zeroCells z.cells (newCap-(sLen+n)))>>=fun a=>pure (Value.slice (some a) (sLen+n) newCap)):=by
     intro zeros n
     refine Hyg.bind (hyg_choose _) fun c _=> ?_
     refine Hyg.bind (hyg_typeInfo _) fun i _=> ?_
     refine Hyg.bind (hyg_askRoom _) fun _ _=> ?_
     refine Hyg.bind (hyg_firstCells _ _ hs) fun old hold=> ?_
     refine Hyg.bind (happ zeros n) fun new hnew=> ?_
     refine Hyg.bind (hyg_zero hze) fun z hz=> ?_
     exact Hyg.bind (hyg_newRow _ (av_app (av_app hold hnew) (av_zeroCells _ hz.cells _))) fun a ha=> .pure (.slice _ _ ha)
    have grow1:∀ (zeros:Bool) (n:Nat),Hyg P (sw P F) Z L (Av Z L) (typeInfo elem>>=fun i=>if Builtin.nextslicecap (sLen+n) sCap*i.bytes>2 ^ 48 then
      ((if zeros=true then runtimePanic (RuntimeError.error "growslice: len out of range")
       else Builtin.mayShare size sLen n base x>>=fun m=>if(!m)=true then mark Mark.noRoom>>=fun _=>unsupported (Unsupported.resourceLimit "append: a slice or a string whose bytes no memory bears")else unsupported (Unsupported.resourceLimit "append: a slice or a string whose bytes no memory bears"))>>=fun(_:Unit)=>
       (choose (Question.appendCap (sLen+n) sCap elem)>>=fun newCap=>typeInfo elem>>=fun i=>askRoom (newCap*i.bytes)>>=fun _=>Builtin.firstCells size sLen (Value.slice base sLen sCap)>>=fun old=>
        (if(!zeros)=true then Builtin.firstCells size n x
         else if n*size=0 then pure #[]else zeroValue elem>>=fun z=>pure (Builtin.zeroCells z.cells n))>>=fun new=>zeroValue elem>>=fun z=>newRow elem (old++new++Builtin.zeroCells z.cells (newCap-(sLen+n)))>>=fun a=>pure (Value.slice (some a) (sLen+n) newCap)))
      else(choose (Question.appendCap (sLen+n) sCap elem)>>=fun newCap=>typeInfo elem>>=fun i=>askRoom (newCap*i.bytes)>>=fun _=>Builtin.firstCells size sLen (Value.slice base sLen sCap)>>=fun old=>
       (if(!zeros)=true then Builtin.firstCells size n x
        else if n*size=0 then pure #[]else zeroValue elem>>=fun z=>pure (Builtin.zeroCells z.cells n))>>=fun new=>zeroValue elem>>=fun z=>newRow elem (old++new++Builtin.zeroCells z.cells (newCap-(sLen+n)))>>=fun a=>pure (Value.slice (some a) (sLen+n) newCap))):=by
     intro zeros n
     refine Hyg.bind (hyg_typeInfo _) fun i _=>hyg_ite (fun _=> ?_) fun _=>grow zeros n
     refine Hyg.bind (Q:=fun _=>True) ?_ fun _ _=>grow zeros n
     refine hyg_ite (fun _=>hyg_rp rfl) fun _=> ?_
     refine Hyg.bind (hyg_mayShare _ _ _ hb hx) fun m _=> ?_
     exact hyg_ite (fun _=> .noRoom (.inl rfl) (hyg_limit _)) fun _=>hyg_limit _
    have tail:∀ (zeros:Bool) (n:Nat),Hyg P (sw P F) Z L (Av Z L) (if sLen+n<=sCap then(if(!zeros)=true then Builtin.firstCells size n x
      else if n*size=0 then pure #[]else zeroValue elem>>=fun z=>pure (Builtin.zeroCells z.cells n))>>=fun new=>(match(generalizing:=false) base with
      |some a=>storeCells (a.add (sLen*size)) new.toList>>=fun _=>pure (Value.slice base (sLen+n) sCap)
      |_=>pure (Value.slice base (sLen+n) sCap))
      else typeInfo elem>>=fun i=>if((sLen+n:Nat):Int)>IntKind.i64.max/\(zeros=true∨i.bytes=0)then runtimePanic (RuntimeError.error "growslice: len out of range")>>=fun(_:Unit)=>
       (typeInfo elem>>=fun i=>if Builtin.nextslicecap (sLen+n) sCap*i.bytes>2 ^ 48 then
        ((if zeros=true then runtimePanic (RuntimeError.error "growslice: len out of range")
         else Builtin.mayShare size sLen n base x>>=fun m=>if(!m)=true then mark Mark.noRoom>>=fun _=>unsupported (Unsupported.resourceLimit "append: a slice or a string whose bytes no memory bears")else unsupported (Unsupported.resourceLimit "append: a slice or a string whose bytes no memory bears"))>>=fun(_:Unit)=>
         (choose (Question.appendCap (sLen+n) sCap elem)>>=fun newCap=>typeInfo elem>>=fun i=>askRoom (newCap*i.bytes)>>=fun _=>Builtin.firstCells size sLen (Value.slice base sLen sCap)>>=fun old=>
          (if(!zeros)=true then Builtin.firstCells size n x
           else if n*size=0 then pure #[]else zeroValue elem>>=fun z=>pure (Builtin.zeroCells z.cells n))>>=fun new=>zeroValue elem>>=fun z=>newRow elem (old++new++Builtin.zeroCells z.cells (newCap-(sLen+n)))>>=fun a=>pure (Value.slice (some a) (sLen+n) newCap)))
        else(choose (Question.appendCap (sLen+n) sCap elem)>>=fun newCap=>typeInfo elem>>=fun i=>askRoom (newCap*i.bytes)>>=fun _=>Builtin.firstCells size sLen (Value.slice base sLen sCap)>>=fun old=>
         (if(!zeros)=true then Builtin.firstCells size n x
          else if n*size=0 then pure #[]else zeroValue elem>>=fun z=>pure (Builtin.zeroCells z.cells n))>>=fun new=>zeroValue elem>>=fun z=>newRow elem (old++new++Builtin.zeroCells z.cells (newCap-(sLen+n)))>>=fun a=>pure (Value.slice (some a) (sLen+n) newCap)))
       else(typeInfo elem>>=fun i=>if Builtin.nextslicecap (sLen+n) sCap*i.bytes>2 ^ 48 then
        ((if zeros=true then runtimePanic (RuntimeError.error "growslice: len out of range")
         else Builtin.mayShare size sLen n base x>>=fun m=>if(!m)=true then mark Mark.noRoom>>=fun _=>unsupported (Unsupported.resourceLimit "append: a slice or a string whose bytes no memory bears")else unsupported (Unsupported.resourceLimit "append: a slice or a string whose bytes no memory bears"))>>=fun(_:Unit)=>
         (choose (Question.appendCap (sLen+n) sCap elem)>>=fun newCap=>typeInfo elem>>=fun i=>askRoom (newCap*i.bytes)>>=fun _=>Builtin.firstCells size sLen (Value.slice base sLen sCap)>>=fun old=>
          (if(!zeros)=true then Builtin.firstCells size n x
           else if n*size=0 then pure #[]else zeroValue elem>>=fun z=>pure (Builtin.zeroCells z.cells n))>>=fun new=>zeroValue elem>>=fun z=>newRow elem (old++new++Builtin.zeroCells z.cells (newCap-(sLen+n)))>>=fun a=>pure (Value.slice (some a) (sLen+n) newCap)))
        else(choose (Question.appendCap (sLen+n) sCap elem)>>=fun newCap=>typeInfo elem>>=fun i=>askRoom (newCap*i.bytes)>>=fun _=>Builtin.firstCells size sLen (Value.slice base sLen sCap)>>=fun old=>
         (if(!zeros)=true then Builtin.firstCells size n x
          else if n*size=0 then pure #[]else zeroValue elem>>=fun z=>pure (Builtin.zeroCells z.cells n))>>=fun new=>zeroValue elem>>=fun z=>newRow elem (old++new++Builtin.zeroCells z.cells (newCap-(sLen+n)))>>=fun a=>pure (Value.slice (some a) (sLen+n) newCap)))):=by
     intro zeros n
     refine hyg_ite (fun _=> ?_) fun _=> ?_
     ·refine Hyg.bind (happ zeros n) fun new hnew=> ?_
      cases base with
      |none=>exact .pure (.slice0 _ _)
      |some a=>
       have ha:=hb a rfl
       exact Hyg.bind (hyg_storeCells (by rw [add_block];exact ha) _ _ fun v hv=>hnew v (by simpa using hv)) fun _ _=> .pure (.slice _ _ ha)
     ·exact Hyg.bind (hyg_typeInfo _) fun i _=>hyg_ite (fun _=>hyg_rpBind rfl _) fun _=>grow1 zeros n
    cases hat:ats[1]? with
    |some xType=>
     refine Hyg.bind (hyg_underlying _) fun u _=> ?_
     refine hyg_ite (fun _=> ?_) fun _=>Hyg.bind (hyg_lenOf _) fun n _=>tail _ n
     refine Hyg.bind (hyg_asInt _) fun l _=> ?_
     refine hyg_ite (fun _=>hyg_rpBind rfl _) fun _=> ?_
     refine Hyg.bind (hyg_typeInfo _) fun i _=> ?_
     exact hyg_ite (fun _=>Hyg.bind (hyg_choose _) fun c _=>hyg_rpBind rfl _) fun _=>tail _ _
    |none=>
     refine Hyg.bind (Q:=fun _=>True) (.pure trivial) fun zeros _=> ?_
     refine hyg_ite (fun _=> ?_) fun _=>Hyg.bind (hyg_lenOf _) fun n _=>tail _ n
     refine Hyg.bind (hyg_asInt _) fun l _=> ?_
     refine hyg_ite (fun _=>hyg_rpBind rfl _) fun _=> ?_
     refine Hyg.bind (hyg_typeInfo _) fun i _=> ?_
     exact hyg_ite (fun _=>Hyg.bind (hyg_choose _) fun c _=>hyg_rpBind rfl _) fun _=>tail _ _
   ·exact hyg_stuck _
  ·exact hyg_stuck _
 ·exact hyg_stuck _
theorem hyg_copy(ats:Array TypeId)(t:TypeId)(args:Array Value)(h:∀v∈args,Av Z L v):Hyg P (sw P F) Z L (Av Z L) (Builtin.copy_ ats t args):=by
 unfold Builtin.copy_
 split
 ·next dT dst src e0=>
  simp only [Prod.mk.injEq]at e0
  obtain⟨e1,e2,e3⟩:=e0
  have hd:Av Z L dst:=h dst (Array.mem_of_getElem? e2)
  have hs:Av Z L src:=h src (Array.mem_of_getElem? e3)
  refine Hyg.bind (hyg_underlying _) fun u hu=> ?_
  split
  ·split
   ·refine Hyg.bind (hyg_lenOf _) fun m _=> ?_
    dsimp only
    refine Hyg.bind (hyg_sizeOf _) fun k _=>Hyg.bind (hyg_firstCells _ _ hs) fun cs hcs=> ?_
    split
    ·cases hd with|slice _ _ ha=>
     exact Hyg.bind (hyg_storeCells ha _ 0 (by simpa using hcs)) fun _ _=> .pure (.int _ _)
    ·exact .pure (.int _ _)
   ·exact hyg_stuck _
  ·exact hyg_stuck _
 ·exact hyg_stuck _
theorem hyg_len(ats:Array TypeId)(t:TypeId)(args:Array Value)(h:∀v∈args,Av Z L v):Hyg P (sw P F) Z L (Av Z L) (Builtin.len_ ats t args):=by
 unfold Builtin.len_
 split
 ·next o ty x e0=>
  simp only [Prod.mk.injEq]at e0
  obtain⟨e1,e2⟩:=e0
  have hx:Av Z L x:=h x (Array.mem_of_getElem? e2)
  refine Hyg.bind (hyg_underlying _) fun u hu=> ?_
  split
  ·exact .pure (.int _ _)
  ·exact .pure (.int _ _)
  ·refine Hyg.bind (hyg_underlying _) fun u _=> ?_
   split
   ·exact .pure (.int _ _)
   ·exact hyg_stuck _
  ·exact .pure (.int _ _)
  ·exact .pure (.int _ _)
  ·exact .pure (.int _ _)
  ·cases hx with|map hr=>
   refine .getObj hr fun o ho=> ?_
   cases ho with
   |cells=>exact hyg_stuck _
   |map=>exact .pure (.int _ _)
   |number=>exact hyg_stuck _
   |loop=>exact hyg_stuck _
   |deferred=>exact hyg_stuck _
   |deferred0=>exact hyg_stuck _
   |iter s n=>exact hyg_stuck _
   |view=>exact hyg_stuck _
  ·cases hx with|chan hr=>
   refine .getObj hr fun o ho=> ?_
   cases ho <;> exact hyg_stuck _
  ·exact hyg_stuck _
 ·exact hyg_stuck _
theorem hyg_cap(ats:Array TypeId)(t:TypeId)(args:Array Value)(h:∀v∈args,Av Z L v):Hyg P (sw P F) Z L (Av Z L) (Builtin.cap_ ats t args):=by
 unfold Builtin.cap_
 split
 ·next o ty x e0=>
  simp only [Prod.mk.injEq]at e0
  obtain⟨e1,e2⟩:=e0
  have hx:Av Z L x:=h x (Array.mem_of_getElem? e2)
  refine Hyg.bind (hyg_underlying _) fun u hu=> ?_
  split
  ·exact .pure (.int _ _)
  ·refine Hyg.bind (hyg_underlying _) fun u _=> ?_
   split
   ·exact .pure (.int _ _)
   ·exact hyg_stuck _
  ·exact .pure (.int _ _)
  ·exact .pure (.int _ _)
  ·cases hx with|chan hr=>
   refine .getObj hr fun o ho=> ?_
   cases ho <;> exact hyg_stuck _
  ·exact hyg_stuck _
 ·exact hyg_stuck _
theorem hyg_makeInterface(t:TypeId){x:Value}(hx:Av Z L x):Hyg P (sw P F) Z L (Av Z L) (Instr.makeInterface t x):=by
 unfold Instr.makeInterface
 refine Hyg.bind (hyg_underlying _) fun u _=> ?_
 split
 ·exact hyg_stuck _
 ·exact .pure (.iface hx)
theorem hyg_panicNil:Hyg P (sw P F) Z L Q (runtimePanic .panicNil):=by
 unfold runtimePanic
 refine hyg_prog rfl ?_
 refine Hyg.bind (hyg_elemOf _) fun t _=> ?_
 exact Hyg.bind (hyg_newVar t (.agg fun v hv=>by simp at hv)) fun r _=>hyg_panic _
theorem dead_bind(p:Program){s:Sem α}{f:α->Sem β}(h:∀a w b w',(f a).run p w≠ .ok b w')(w:World)(b:β)(w':World):(s>>=f).run p w≠ .ok b w':=by
 intro e
 have e':=(Sem.run_bind' p s f w).symm.trans e
 cases hs:s.run p w with
 |ok a w1=>rw [hs]at e';exact h _ _ _ _ e'
 |halt h w1=>rw [hs]at e';cases e'
theorem panicNil_dead(p:Program)(w:World)(a:α)(w':World):(runtimePanic .panicNil).run p w≠ .ok a w':=by
 unfold runtimePanic
 refine dead_bind p (fun q=> ?_) w a w'
 refine dead_bind p fun t=>dead_bind p fun r w a w' e=> ?_
 cases e
theorem hyg_panicOp{x:Value}(hx:Av Z L x):Hyg P (sw P F) Z L (Av Z L) (Instr.panic x):=by
 unfold Instr.panic
 cases hx with
 |iface=>exact .halt (.panic _)
 | nilIface=>
  show Hyg P (sw P F) Z L (Av Z L) (Instr.panicnil>>=fun i=>if(i==1)=true then goPanic .nilIface else runtimePanic .panicNil)
  unfold Instr.panicnil
  refine .env (fun r=> ?_) fun r=>dead_bind _ fun i=> ?_
  ·refine Hyg.bind (Q:=fun _=>True) ?_ fun i _=>hyg_ite (fun _=>hyg_panic _) fun _=>hyg_panicNil
   cases r <;> first|exact hyg_stuck _|exact hyg_prog rfl (.pure trivial)
  ·split
   ·intro w a w' e;cases e
   ·exact panicNil_dead _
 |_=>exact hyg_stuck _
theorem hyg_min2{x y:Value}(hx:Av Z L x)(hy:Av Z L y):Hyg P (sw P F) Z L (Av Z L) (Builtin.min2 x y):=by
 unfold Builtin.min2
 split
 ·exact .pure (.int _ _)
 ·cases hx
 ·exact Hyg.bind (hyg_stringOp _ _ _) fun b _=>Hyg.bind (hyg_asBool _) fun b _=> .pure (.string _)
 ·exact hyg_addr
 ·exact hyg_addr
 ·exact hyg_stuck _
theorem hyg_max2{x y:Value}(hx:Av Z L x)(hy:Av Z L y):Hyg P (sw P F) Z L (Av Z L) (Builtin.max2 x y):=by
 unfold Builtin.max2
 split
 ·exact .pure (.int _ _)
 ·cases hx
 ·exact Hyg.bind (hyg_stringOp _ _ _) fun b _=>Hyg.bind (hyg_asBool _) fun b _=> .pure (.string _)
 ·exact hyg_addr
 ·exact hyg_addr
 ·exact hyg_stuck _
theorem hyg_foldlM(f:Value->Value->Sem Value)(hf:∀x y,Av Z L x->Av Z L y->Hyg P (sw P F) Z L (Av Z L) (f x y)):∀ (l:List Value) (x:Value),Av Z L x->(∀v∈l,Av Z L v)->Hyg P (sw P F) Z L (Av Z L) (l.foldlM f x)
 | [],x,hx,_=>by rw [List.foldlM_nil];exact .pure hx
 |y :: l,x,hx,h=>by
  rw [List.foldlM_cons]
  exact Hyg.bind (hf x y hx (h y (by simp))) fun z hz=>hyg_foldlM f hf l z hz fun v hv=>h v (by simp [hv])
theorem hyg_min(ats:Array TypeId)(t:TypeId)(args:Array Value)(h:∀v∈args,Av Z L v):Hyg P (sw P F) Z L (Av Z L) (Builtin.min_ ats t args):=by
 unfold Builtin.min_
 split
 ·exact hyg_stuck _
 ·next x rest e=>
  have hm:∀v∈x :: rest,Av Z L v:=fun v hv=>h v (by rw [←Array.mem_toList_iff,e];exact hv)
  exact hyg_foldlM _ (fun _ _=>hyg_min2) _ _ (hm x (by simp)) fun v hv=>hm v (by simp [hv])
theorem hyg_max(ats:Array TypeId)(t:TypeId)(args:Array Value)(h:∀v∈args,Av Z L v):Hyg P (sw P F) Z L (Av Z L) (Builtin.max_ ats t args):=by
 unfold Builtin.max_
 split
 ·exact hyg_stuck _
 ·next x rest e=>
  have hm:∀v∈x :: rest,Av Z L v:=fun v hv=>h v (by rw [←Array.mem_toList_iff,e];exact hv)
  exact hyg_foldlM _ (fun _ _=>hyg_max2) _ _ (hm x (by simp)) fun v hv=>hm v (by simp [hv])
def keyInt(P:Program)(t:TypeId):Bool:=match P.underlying t with
 |some (.map k _)=>match P.underlying k with
  |some (.int _)=>true
  |some .string=>true
  |_=>false
 |_=>false
def KeyU(P:Program)(t:TypeId):Prop:=(∃k,P.underlying t=some (.int k))∨P.underlying t=some .string
theorem hyg_checkKey(b:Bool)(n:Nat){t:TypeId}(v:Value)(ht:KeyU P t):Hyg P (sw P F) Z L (fun _=>True) (Instr.checkKey b (n+1) t v):=by
 unfold Instr.checkKey
 refine Hyg.bind (hyg_underlying _) fun u hu=> ?_
 rcases ht with ⟨k,hk⟩|hk
 ·rw [hk]at hu
  cases hu
  exact .pure trivial
 ·rw [hk]at hu
  cases hu
  exact .pure trivial
theorem findNow_mem(d:TypeDesc)(k:Value):∀ (es:List MapEntry) (i j:Nat) (v:Value),Instr.findNow d k es i=some (some (j,v))->∃e∈es,e.val=v
 | [],_,_,_,h=>by simp [Instr.findNow]at h
 | e :: es,i,j,v,h=>by
  unfold Instr.findNow at h
  split at h
  ·simp only [Option.some.injEq,Prod.mk.injEq]at h
   exact⟨e,by simp,h.2⟩
  ·obtain⟨e',he',hv⟩:=findNow_mem d k es _ _ _ h
   exact⟨e',by simp [he'],hv⟩
  ·cases h
theorem hyg_findAsking{t:TypeId}(ht:eqT P 1 t=true){k:Value}(hk:Av Z L k):∀ (es:List MapEntry) (i:Nat),(∀e∈es,Av Z L e.key/\Av Z L e.val)->Hyg P (sw P F) Z L (fun r=>∀j v,r=some (j,v)->Av Z L v) (Instr.findAsking t k es i)
 | [],_,_=>by unfold Instr.findAsking;exact .pure (by rintro j v ⟨⟩)
 |e :: es,i,h=>by
  unfold Instr.findAsking
  refine Hyg.bind (hyg_equalIn _ 1 _ _ _ ht hk (h e (by simp)).1) fun b _=> ?_
  refine hyg_ite (fun _=> .pure ?_) fun _=>hyg_findAsking ht hk es _ fun x hx=>h x (by simp [hx])
  rintro j v e'
  cases e'
  exact(h e (by simp)).2
theorem hyg_findKey{t:TypeId}(ht:KeyU P t){k:Value}(hk:Av Z L k)(es:List MapEntry)(h:∀e∈es,Av Z L e.key/\Av Z L e.val):
  Hyg P (sw P F) Z L (fun r=>∀j v,r=some (j,v)->Av Z L v) (Instr.findKey t k es):=by
 unfold Instr.findKey
 refine Hyg.bind (hyg_underlying _) fun u hu=> ?_
 split
 ·next r e=>
  refine .pure ?_
  rintro j v rfl
  obtain⟨x,hx,rfl⟩:=findNow_mem _ _ _ _ _ _ e
  exact(h x hx).2
 ·refine hyg_findAsking ?_ hk es 0 h
  rcases ht with ⟨k,hk⟩|hk <;> simp [eqT,hk]
theorem hyg_makeMap(t:TypeId)(r:Option Value):Hyg P (sw P F) Z L (Av Z L) (Instr.makeMap t r):=by
 unfold Instr.makeMap
 have fin:Hyg P (sw P F) Z L (Av Z L) (do pure (Value.map (some (←newObj (.map #[] 0))))):=by
  unfold newObj
  exact .new (.map (by simp)) fun r hr=> .pure (.map hr)
 cases r with
 |none=>exact fin
 |some h=>
  refine Hyg.bind (hyg_underlying _) fun u _=> ?_
  split
  ·exact Hyg.bind (hyg_asInt _) fun _ _=>fin
  ·exact hyg_stuck _
theorem hyg_lookup{t:TypeId}(ht:keyInt P t=true)(hz:∀k e,P.underlying t=some (.map k e)->zOk P e=true){x ix:Value}(hx:Av Z L x)(hi:Av Z L ix)(ok:Bool):Hyg P (sw P F) Z L (Av Z L) (Instr.lookup t x ix ok):=by
 unfold Instr.lookup
 refine Hyg.bind (hyg_underlying _) fun u hu=> ?_
 split
 ·next key elem=>
  have hk:KeyU P key:=by
   unfold keyInt at ht
   rw [hu]at ht
   simp only at ht
   split at ht
   ·exact .inl ⟨_,by assumption⟩
   ·exact .inr (by assumption)
   ·cases ht
  have fin:∀es:Array MapEntry,(∀e∈es,Av Z L e.key/\Av Z L e.val)->Hyg P (sw P F) Z L (Av Z L) (Instr.checkKey es.isEmpty 10000 key ix>>=fun _=>Instr.findKey key ix es.toList>>=fun r=>(match r with
    |some (_,v)=>pure (if ok=true then .tuple #[v,.bool true]else v)
    |none=>zeroValue elem>>=fun z=>pure (if ok=true then .tuple #[z,.bool false]else z))):=by
   intro es hes
   have two:∀ (v:Value) (b:Bool),Av Z L v->Av Z L (if ok=true then .tuple #[v,.bool b]else v):=by
    intro v b hv
    split
    ·exact .tuple fun x hx=>by
      simp only [List.mem_toArray,List.mem_cons,List.not_mem_nil,or_false]at hx
      rcases hx with rfl|rfl
      ·exact hv
      ·exact .bool _
    ·exact hv
   refine Hyg.bind (hyg_checkKey _ 9999 _ hk) fun _ _=> ?_
   refine Hyg.bind (hyg_findKey hk hi _ (fun e he=>hes e (by simpa using he))) fun r hr=> ?_
   split
   ·exact .pure (two _ _ (hr _ _ rfl))
   ·exact Hyg.bind (hyg_zero (hz _ _ hu)) fun z hz=> .pure (two _ _ hz)
  cases x with
  | map r=>
   cases r with
   |none=>exact fin #[] (by simp)
   |some r=>
    cases hx with|map hr=>
    refine .getObj hr fun o ho=> ?_
    cases ho with
    |cells=>exact hyg_stuck _
    |map h=>exact fin _ h
    |number=>exact hyg_stuck _
    |loop=>exact hyg_stuck _
    |deferred=>exact hyg_stuck _
    |deferred0=>exact hyg_stuck _
    |iter s n=>exact hyg_stuck _
    |view=>exact hyg_stuck _
  |_=>exact hyg_stuck _
 ·exact hyg_stuck _
theorem hyg_mapUpdate{t:TypeId}(ht:keyInt P t=true){m k v:Value}(hm:Av Z L m)(hk:Av Z L k)(hv:Av Z L v):Hyg P (sw P F) Z L (fun _=>True) (Instr.mapUpdate t m k v):=by
 unfold Instr.mapUpdate
 refine Hyg.bind (hyg_underlying _) fun u hu=> ?_
 split
 ·next key elem=>
  have hkey:KeyU P key:=by
   unfold keyInt at ht
   rw [hu]at ht
   simp only at ht
   split at ht
   ·exact .inl ⟨_,by assumption⟩
   ·exact .inr (by assumption)
   ·cases ht
  split
  ·exact hyg_rp rfl
  ·next r=>
   cases hm with|map hr=>
   refine .getObj hr fun o ho=> ?_
   cases ho with
   |cells=>exact hyg_stuck _
   |number=>exact hyg_stuck _
   |loop=>exact hyg_stuck _
   |deferred=>exact hyg_stuck _
   |deferred0=>exact hyg_stuck _
   |iter s n=>exact hyg_stuck _
   |view=>exact hyg_stuck _
   | @map es clock h=>
    refine Hyg.bind (Q:=fun o=>o= .map es clock) (.pure rfl) fun o ho=> ?_
    subst ho
    refine Hyg.bind (hyg_checkKey _ 9999 _ hkey) fun _ _=> ?_
    refine Hyg.bind (hyg_findKey hkey hk _ (fun e he=>h e (by simpa using he))) fun r' hr'=> ?_
    split
    ·next i w=>
     refine Hyg.bind (Q:=Av Z L) ?_ fun k' hk'=> ?_
     ·unfold Instr.keyThatStays
      refine hyg_ite (fun _=> .pure hk) fun _=> ?_
      refine Hyg.bind (hyg_choose _) fun c _=> .pure ?_
      split
      ·exact hk
      ·cases he:es[i]? with
       |none=>exact hk
       |some e=>exact(h e (Array.mem_of_getElem? he)).1
     ·refine .setObj hr (.map fun e he=> ?_) (.pure trivial)
      obtain⟨j,hj,rfl⟩:=Array.mem_iff_getElem.1 he
      rw [Array.getElem_modify]
      split
      ·exact⟨hk',hv⟩
      ·exact h _ (Array.getElem_mem _)
    ·refine .setObj hr (.map fun e he=> ?_) (.pure trivial)
     rcases Array.mem_push.1 he with m|m
     ·exact h e m
     ·subst m;exact⟨hk,hv⟩
  ·exact hyg_stuck _
 ·exact hyg_stuck _
theorem hyg_intToInt(k:IntKind)(n:Int):Hyg P (sw P F) Z L (Av Z L) (Conv.intToInt k n):= .pure (.int _ _)
def isU8(P:Program)(e:TypeId):Bool:=match P.underlying e with|some (.int .u8)=>true|_=>false
def isStr(P:Program)(t:TypeId):Bool:=match P.underlying t with|some .string=>true|_=>false
theorem hyg_rangeStr{t:TypeId}(h:isStr P t=true)(x:Value):Hyg P (sw P F) Z L (Av Z L) (Instr.range t x):=by
 unfold Instr.range
 have fin:∀it:Obj,AvO Z L it->Hyg P (sw P F) Z L (Av Z L) (do pure (.pointer (some ⟨←newObj it,0,none⟩))):=fun it h=> .new h fun r hr=> .pure (.ptr hr)
 refine Hyg.bind (hyg_underlying _) fun u hu=> ?_
 unfold isStr at h
 rw [hu]at h
 dsimp only
 split
 ·exact fin _ (.iter _ _)
 ·simp at h
 ·simp at h
 ·exact hyg_stuck _
theorem hyg_nextStr{b:Bool}(hb:b=true){x:Value}(hx:Av Z L x)(t:TypeId):Hyg P (sw P F) Z L (Av Z L) (Instr.next x b t):=by
 subst hb
 unfold Instr.next
 split
 ·next r o e=>
  cases hx with
  | ptr hz=>
   refine .getObj hz fun o ho=> ?_
   cases ho with
   | iter s n=>
    show Hyg P (sw P F) Z L (Av Z L) (if n<s.size then _ else _)
    split
    ·refine Hyg.bind (Q:=fun _:Unit=>True) (.setObj hz (.iter _ _) (.pure trivial)) fun _ _=> .pure (.tuple fun v hv=> ?_)
     simp only [List.mem_toArray,List.mem_cons,List.not_mem_nil,or_false]at hv
     rcases hv with rfl|rfl|rfl
     ·exact .bool _
     ·exact .int _ _
     ·exact .int _ _
    ·refine .pure (.tuple fun v hv=> ?_)
     simp only [List.mem_toArray,List.mem_cons,List.not_mem_nil,or_false]at hv
     subst hv
     exact .bool _
   |_=>exact hyg_stuck _
 ·exact hyg_stuck _
def viewT(P:Program):Nat->TypeId->Bool
 |0,_=>false
 |n+1,t=>match P.underlying t with
  |some (.float _)|some (.complex _)=>false
  |some (.struct fs)=>fs.all fun f=>viewT P n f.type
  |some (.array _ e)=>viewT P n e
  |_=>true
theorem plainCell_int:∀ (n d:Nat) (t:TypeId) (off:Nat) (x:Value),viewT P n t=true->plainCell P d t off=some x->plainV x
 |0,_,_,_,_,h,_=>by simp [viewT]at h
 |_,0,_,_,_,_,e=>by simp [plainCell]at e
 | n+1,d+1,t,off,x,h,e=>by
  unfold viewT at h
  unfold plainCell at e
  split at e
  ·next fs hu=>
   rw [hu]at h
   obtain⟨f,hf,hx⟩:=Array.exists_of_findSome?_eq_some e
   split at hx
   ·exact plainCell_int n d _ _ _ (Array.all_eq_true_iff_forall_mem.1 h f hf) hx
   ·cases hx
  ·next m e' hu=>
   rw [hu]at h
   dsimp only at e
   split at e
   ·cases e
   ·exact plainCell_int n d _ _ _ h e
  ·split at e <;> first|(cases e;done)|(cases e;trivial)
  ·split at e <;> first|(cases e;done)|(cases e;trivial)
  ·next hu=>rw [hu]at h;simp at h
  ·next hu=>rw [hu]at h;simp at h
  ·cases e
theorem intT_of{t:TypeId}(h:viewT P 8 t=true):IntT P t:=fun _ _ e=>plainCell_int 8 _ _ _ _ h e
theorem sameLayout_sw:∀ (d:Nat) (t u:TypeId),sameLayout (sw P F) d t u=sameLayout P d t u
 |0,_,_=>by unfold sameLayout;rfl
 |d+1,t,u=>by
  unfold sameLayout
  simp only [under_sw,underlying_sw,stoodInHeld_sw,sameLayout_sw d]
theorem rowAt_sw(fits:TypeId->Bool):∀ (d:Nat) (e:TypeId) (c o n:Nat),rowAt (sw P F) fits d e c o n=rowAt P fits d e c o n
 |0,_,_,_,_=>by unfold rowAt;rfl
 |d+1,e,c,o,n=>by
  unfold rowAt
  simp only [cellsOf_sw,underlying_sw,stoodInHeld_sw,rowAt_sw fits d]
  rfl
theorem liesAt_sw:∀ (d:Nat) (e:TypeId) (c o:Nat) (u:TypeId) (n:Nat),liesAt (sw P F) d e c o u n=liesAt P d e c o u n
 |0,_,_,_,_,_=>by unfold liesAt;rfl
 |d+1,e,c,o,u,n=>by
  unfold liesAt
  simp only [underlying_sw,depth_sw,sameLayout_sw,rowAt_sw,liesAt_sw d]
theorem holdsStoodIn_sw:∀ (d:Nat) (t:TypeId),(sw P F).holdsStoodIn d t=P.holdsStoodIn d t
 |0,_=>by unfold Program.holdsStoodIn;rfl
 |d+1,t=>by
  unfold Program.holdsStoodIn
  simp only [underlying_sw,stoodInHeld_sw,holdsStoodIn_sw d]
theorem hyg_variablesAt{a:Addr}(ha:¬ Z a.block)(u:TypeId)(n:Nat):Hyg P (sw P F) Z L (fun _=>True) (variablesAt a u n):=by
 unfold variablesAt
 refine hyg_prog (by simp only [liesAt_sw,depth_sw,cellsOf_sw]) ?_
 refine Hyg.bind (hyg_shape ha) fun s _=> ?_
 split <;> exact .pure trivial
theorem hyg_seenAt{a:Addr}(ha:¬ Z a.block):Hyg P (sw P F) Z L (fun a=>¬ Z a.block) (Conv.seenAt a):=by
 unfold Conv.seenAt
 refine Hyg.bind (hyg_viewAt ha) fun o ho=> ?_
 cases o with
 |none=>exact .pure ha
 | some x=>
  obtain⟨s,u⟩:=x
  have hs:¬ Z s.block:=ho _ rfl
  dsimp only
  refine hyg_ite (fun _=> .pure hs) fun _=> ?_
  refine hyg_ite (fun _=>Hyg.bind (Q:=fun _:Unit=>False) (hyg_unsf _) fun _ h=>h.elim) fun _=> ?_
  refine hyg_prog (by simp only [byteOfCell_sw,depth_sw,cellsOf_sw,cellAtBytes_sw]) ?_
  split
  ·refine Hyg.bind (hyg_shape hs) fun y _=> ?_
   split
   ·refine hyg_ite (fun _=>Hyg.bind (Q:=fun _:Unit=>False) (hyg_unsf _) fun _ h=>h.elim) fun _=> ?_
    split
    ·exact .pure hs
    ·exact hyg_unsf _
   ·exact hyg_unsf _
  ·exact hyg_unsf _
theorem hyg_cellsIn{r:Nat}(hr:¬ Z r):Hyg P (sw P F) Z L (fun _=>True) (cellsIn r):=by
 unfold cellsIn
 refine Hyg.bind (hyg_shape hr) fun s _=> ?_
 split
 ·exact .pure trivial
 ·refine .getObj hr fun o ho=> ?_
  cases ho <;> exact .pure trivial
theorem hyg_newView{a:Addr}{t:TypeId}(ha:¬ Z a.block)(ht:L.t t):Hyg P (sw P F) Z L (Av Z L) (newObj (.view a t)>>=fun r=>pure (.pointer (some ⟨r,0,none⟩))):= .new (.view ha ht) fun _ hr=> .pure (.ptr hr)
theorem hyg_unsafePointer{s d:TypeId}(hs:∀t,P.underlying s=some (.pointer t)->L.t t)(hd:∀t,P.underlying d=some (.pointer t)->L.t t){x:Value}(hx:Av Z L x):Hyg P (sw P F) Z L (Av Z L) (Conv.unsafePointer s d x):=by
 unfold Conv.unsafePointer
 refine Hyg.bind (hyg_underlying _) fun u hu=> ?_
 refine Hyg.bind (hyg_underlying _) fun v hv=> ?_
 split
 ·exact .pure hx
 ·cases hx with|ptr ha=>
  refine Hyg.bind (hyg_seenAt ha) fun a ha=>Hyg.bind (hyg_cellsIn ha) fun n _=> ?_
  dsimp only
  exact Hyg.bind (hyg_sizeOf _) fun _ _=>hyg_ite (fun _=>hyg_newView ha (hs _ hu)) fun _=> .pure (.ptr ha)
 ·exact .pure hx
 ·cases hx with|ptr ha=>
  refine Hyg.bind (hyg_seenAt ha) fun a ha=>Hyg.bind (hyg_sizeOf _) fun _ _=>Hyg.bind (hyg_variablesAt ha _ _) fun _ _=> ?_
  refine hyg_ite (fun _=> .pure (.ptr ha)) fun _=>Hyg.bind (hyg_shape ha) fun y _=> ?_
  dsimp only
  split
  ·refine hyg_prog (by simp only [holdsStoodIn_sw]) ?_
   refine hyg_prog (by simp only [holdsStoodIn_sw,depth_sw];rfl) ?_
   exact hyg_ite (fun _=>Hyg.bind (Q:=fun _:Unit=>False) (hyg_unsf _) fun _ h=>h.elim) fun _=>hyg_newView ha (hd _ hv)
  ·exact Hyg.bind (Q:=fun _:Unit=>False) (hyg_unsf _) fun _ h=>h.elim
 ·exact .pure hx
 ·exact .pure (.int _ _)
 ·cases hx with|ptr ha=>exact hyg_asNumber ha _
 all_goals first|exact hyg_unsf _|exact hyg_stuck _
theorem hyg_elemOf'(t:TypeId):Hyg P (sw P F) Z L (fun e=>P.underlying t=some (.pointer e)) (elemOf t):=by
 unfold elemOf
 refine Hyg.bind (hyg_underlying t) fun d hd=> ?_
 split
 ·exact .pure hd
 ·exact hyg_stuck _
theorem hyg_sliceData(ats:Array TypeId){t:TypeId}(ht:∀e,P.underlying t=some (.pointer e)->L.t e)(args:Array Value)(h:∀v∈args,Av Z L v):Hyg P (sw P F) Z L (Av Z L) (Builtin.unsafeSliceData_ ats t args):=by
 obtain⟨l⟩:=args
 match l with
 | []=>exact hyg_stuck _
 |_ :: _ :: _=>exact hyg_stuck _
 | [x]=>
  have hx:=h x (by simp)
  cases hx with
  |slice0=>exact .pure .ptr0
  |slice l c ha=>
   refine hyg_ite (fun _=> .pure (.ptr ha)) fun _=>Hyg.bind (hyg_viewAt ha) fun o _=> ?_
   refine hyg_ite (fun _=> .pure (.ptr ha)) fun _=> ?_
   exact Hyg.bind (hyg_elemOf' _) fun e he=>hyg_newView ha (ht e he)
  |_=>exact hyg_stuck _
theorem hyg_loadBytes:∀ (n:Nat) {a:Addr} (acc:ByteArray),¬ Z a.block->Hyg P (sw P F) Z L (fun _=>True) (loadBytes a acc n)
 |0,_,_,_=> .pure trivial
 |n+1,a,acc,ha=>by
  unfold loadBytes
  refine Hyg.bind (hyg_load ha) fun v _=> ?_
  split
  ·exact hyg_loadBytes n _ (by rw [add_block];exact ha)
  ·exact hyg_stuck _
theorem hyg_unsafeString(ats:Array TypeId)(t:TypeId)(args:Array Value)(h:∀v∈args,Av Z L v):Hyg P (sw P F) Z L (Av Z L) (Builtin.unsafeString_ ats t args):=by
 unfold Builtin.unsafeString_
 obtain⟨l⟩:=args
 match l with
 | []=>exact hyg_stuck _
 | [_]=>exact hyg_stuck _
 |_ :: _ :: _ :: _=>exact hyg_stuck _
 | [x,y]=>
  have hx:=h x (by simp)
  have key:∀p:Option Addr,(∀a,p=some a->¬ Z a.block)->Hyg P (sw P F) Z L (Av Z L) (Builtin.unsafeString_ ats t #[.pointer p,y]):=by
   intro p hp
   unfold Builtin.unsafeString_
   refine Hyg.bind (hyg_asInt _) fun n _=> ?_
   dsimp only
   split
   ·refine hyg_ite (fun _=>hyg_rpBind rfl _) fun _=>hyg_ite (fun _=>Hyg.bind (Q:=fun _:Unit=>False) (hyg_unsf _) fun _ h=>h.elim) fun _=> ?_
    cases p with
    |none=>exact hyg_ite (fun _=> .pure (.string _)) fun _=>hyg_rp rfl
    |some a=>
     have ha:=hp a rfl
     refine hyg_ite (fun _=> .pure (.string _)) fun _=> ?_
     refine Hyg.bind (hyg_elemOf _) fun e _=>Hyg.bind (hyg_variablesAt ha _ _) fun b _=> ?_
     refine hyg_ite (fun _=> ?_) fun _=>hyg_unsf _
     exact Hyg.bind (hyg_loadBytes _ _ ha) fun s _=> .freeze ha (.pure (.string _))
   ·exact hyg_stuck _
  cases hx with
  |ptr0=>exact key none (by simp)
  |ptr ha=>exact key (some _) (by rintro a ⟨⟩;exact ha)
  |_=>exact hyg_stuck _
def cvInt(P:Program)(s d:TypeId):Bool:=match P.underlying s,P.underlying d with
 |some (.int _),some (.int _)=>true
 |some (.slice e),some .string=>isU8 P e
 |some .string,some (.slice e)=>isU8 P e
 |some (.pointer t),some .unsafePointer|some .unsafePointer,some (.pointer t)=>viewT P 8 t
 |_,_=>false
theorem hyg_bytesToString{x:Value}(hx:Av Z L x):Hyg P (sw P F) Z L (Av Z L) (Conv.bytesToString x):=by
 unfold Conv.bytesToString
 cases hx with
 |slice0 l c=>exact .pure (.string _)
 |slice l c h=>
  refine Hyg.bind (hyg_loadCells h _) fun cs hcs=> ?_
  refine Hyg.bind (Q:=fun _=>True) (hyg_forIn_array cs _ (fun c _ s=> ?_) _) fun s _=> .pure (.string _)
  split
  ·exact .pure trivial
  ·exact hyg_stuck _
 |_=>exact hyg_stuck _
theorem hyg_markStringish{a:Addr}(ha:¬ Z a.block):Hyg P (sw P F) Z L (fun _=>True) (markStringish a):=by
 unfold markStringish
 refine Hyg.bind (hyg_shape ha) fun o _=> ?_
 split
 ·exact .freeze ha (.pure trivial)
 ·exact .pure trivial
theorem hyg_stringToBytes(e:TypeId)(s:ByteArray):Hyg P (sw P F) Z L (Av Z L) (Conv.stringToBytes e s):=by
 unfold Conv.stringToBytes
 refine Hyg.bind (hyg_choose _) fun c _=> ?_
 refine Hyg.bind (hyg_newRow _ (fun v hv=> ?_)) fun a ha=> ?_
 ·rcases Array.mem_append.1 hv with m|m
  ·obtain⟨b,_,rfl⟩:=Array.mem_map.1 m
   exact .int _ _
  ·obtain⟨_,rfl⟩:=Array.mem_replicate.1 m
   exact .int _ _
 ·exact Hyg.bind (hyg_markStringish ha) fun _ _=> .pure (.slice _ _ ha)
theorem hyg_convert{s d:TypeId}(hV:∀u,viewT P 8 u=true->L.t u)(h:cvInt P s d=true){x:Value}(hx:Av Z L x):Hyg P (sw P F) Z L (Av Z L) (convert s d x):=by
 unfold convert
 unfold cvInt at h
 refine Hyg.bind (hyg_underlying _) fun u hu=> ?_
 refine Hyg.bind (hyg_underlying _) fun v hv=> ?_
 rw [hu,hv]at h
 cases u with
 |int k=>
  cases v with
  |int k2=>cases hx <;> first|exact hyg_intToInt _ _|exact hyg_addr|exact hyg_noEntry _
  |_=>simp at h
 | slice e=>
  cases v with
  |string=>
   simp only [isU8]at h
   have hx':=hx
   cases hx <;> first|exact .pure (.string _)|(refine Hyg.bind (hyg_underlying _) fun t ht=> ?_;rw [ht]at h;split at h <;> first|(cases h;done)|(rename_i e8;cases e8;exact hyg_bytesToString hx'))
  |_=>simp at h
 | string=>
  cases v with
  |slice e=>
   simp only [isU8]at h
   cases hx <;> first|exact hyg_noEntry _|(refine Hyg.bind (hyg_underlying _) fun t ht=> ?_;rw [ht]at h;split at h <;> first|(cases h;done)|(rename_i e8;cases e8;exact hyg_stringToBytes _ _))
  |_=>simp at h
 | pointer t=>
  cases v with
  |unsafePointer=>
   have hx':Hyg P (sw P F) Z L (Av Z L) (Conv.unsafePointer s d x):=hyg_unsafePointer (fun t' e=>by rw [hu]at e;cases e;exact hV _ h) (fun t' e=>by rw [hv]at e;cases e) hx
   cases hx <;> exact hx'
  |_=>simp at h
 | unsafePointer=>
  cases v with
  |pointer t=>
   have hx':Hyg P (sw P F) Z L (Av Z L) (Conv.unsafePointer s d x):=hyg_unsafePointer (fun t' e=>by rw [hu]at e;cases e) (fun t' e=>by rw [hv]at e;cases e;exact hV _ h) hx
   cases hx <;> exact hx'
  |_=>simp at h
 |_=>simp at h
theorem hyg_makeSlice{t:TypeId}(hz:zElem P t=true)(l c:Value):Hyg P (sw P F) Z L (Av Z L) (Instr.makeSlice t l c):=by
 unfold Instr.makeSlice
 refine Hyg.bind (hyg_underlying _) fun u hu=> ?_
 split
 ·next e=>
  have hze:zOk P e=true:=by unfold zElem at hz;rw [hu]at hz;exact hz
  refine Hyg.bind (hyg_asInt _) fun len _=> ?_
  refine Hyg.bind (hyg_asInt _) fun cap _=> ?_
  refine Hyg.bind (hyg_typeInfo _) fun i _=> ?_
  dsimp only
  refine hyg_ite (fun _=>hyg_ite (fun _=>hyg_rpBind rfl _) fun _=>hyg_ite (fun _=>hyg_rpBind rfl _) fun _=>Hyg.bind (hyg_choose _) fun x _=>hyg_rpBind rfl _) fun _=> ?_
  refine Hyg.bind (hyg_askRoom _) fun _ _=>Hyg.bind (hyg_sizeOf _) fun k _=>hyg_ite (fun _=> ?_) fun _=>Hyg.bind (hyg_zero hze) fun z hz'=> ?_
  ·exact Hyg.bind (Q:=fun z:Array Value=>∀v∈z,Av Z L v) (.pure (by simp)) fun z hz=>Hyg.bind (hyg_newRow _ (av_range z hz _)) fun a ha=> .pure (.slice _ _ ha)
  ·exact Hyg.bind (Q:=fun z:Array Value=>∀v∈z,Av Z L v) (.pure hz'.cells) fun z hz=>Hyg.bind (hyg_newRow _ (av_range z hz _)) fun a ha=> .pure (.slice _ _ ha)
 ·exact hyg_stuck _
def NextV(Z:Nat->Prop)(L:Lk):Next->Prop
 | .value v=>Av Z L v
 | .skip=>True
 |_=>False
def NextR(Z:Nat->Prop)(L:Lk)(n:Next):Prop:=∃l f t a b,n= .round l f t a b/\¬ Z l/\L.f f/\(∀v∈t,Av Z L v)/\L.k a/\L.k b
def oprOk(Lb G:Nat->Bool):Operand->Bool
 | .tmp _=>true
 | .const v=>avB v
 | .global g=>G g
 | .func f=>Lb f
def eqOk(P:Program)(op:BinOp)(t:TypeId):Bool:=match op with
 | .eql| .neq=>eqT P 6 t
 |_=>true
def zMapElem(P:Program)(t:TypeId):Bool:=match P.underlying t with
 |some (.map _ e)=>zOk P e
 |_=>true
def opOk(P:Program)(Lb:Nat->Bool):Op->Bool
 | .move _| .assign _| .pick .. | .load .. | .store .. | .unOp .. | .fieldAddr .. | .field .. | .indexAddr .. | .index .. | .extract .. | .slice .. | .makeMap .. | .box .. =>true
 | .alloc t| .build t _=>zOk P t
 | .buildSlice t _ _=>zElem P t
 | .makeSlice t _ _=>zElem P t
 | .nilCheck _| .makeInterface .. | .panic _=>true
 | .range t _=>isStr P t
 | .next _ b=>b
 | .binOp op t _ _ _=>eqOk P op t
 | .convert s d _=>cvInt P s d
 | .makeFunc (.func f) _ _=>Lb f
 | .lookup t _ _ _=>keyInt P t&&zMapElem P t
 | .mapUpdate t _ _ _| .insert t _ _ _=>keyInt P t
 | .call {callee:= .builtin .append,argTypes,..}=>match argTypes[0]? with
  |some t=>zElem P t
  |none=>true
 | .call {callee:= .builtin .len,..}| .call {callee:= .builtin .cap,..}| .call {callee:= .builtin .copy,..}| .call {callee:= .builtin .min,..}| .call {callee:= .builtin .max,..}| .call {callee:= .builtin .unsafeSliceData,..}| .call {callee:= .builtin .unsafeString,..}=>true
 | .call {callee:= .builtin .unsafeSizeof,argTypes,..}=>viewT P 8 (argTypes.getD 0 0)
 |_=>false
def tyOk(P:Program)(o:Oper):Bool:=match o.op with
 | .call {callee:= .builtin .unsafeSliceData,..}=>match P.underlying o.type with
  |some (.pointer e)=>viewT P 8 e
  |_=>true
 |_=>true
def callOk:Op->Bool
 | .call {callee:= .value _,..}=>true
 |_=>false
theorem hyg_v{s:Sem Value}(h:Hyg P (sw P F) Z L (Av Z L) s):Hyg P (sw P F) Z L (NextV Z L) (do pure (.value (←s))):=Hyg.bind h fun v hv=> .pure hv
theorem hyg_u{s:Sem Unit}(h:Hyg P (sw P F) Z L (fun _=>True) s):Hyg P (sw P F) Z L (NextV Z L) (do s;pure .skip):=Hyg.bind h fun _ _=> .pure trivial
theorem hyg_op{Lb:Nat->Bool}(hL:∀f,Lb f=true->L.f f)(hV:∀u,viewT P 8 u=true->L.t u)(o:Oper)(ρ:Operand->Value)(hρ:∀x∈o.op.operands,Av Z L (ρ x))(h:opOk P Lb o.op=true)(ht:tyOk P o=true):Hyg P (sw P F) Z L (NextV Z L) (execOp ρ o):=by
 unfold execOp
 unfold tyOk at ht
 dsimp only
 generalize o.op=op at*
 cases op with
 |move x=>exact .pure (hρ x (by simp [Op.operands]))
 |assign x=>exact .pure (hρ x (by simp [Op.operands]))
 |pick c a b=>
  refine Hyg.bind (hyg_asBool _) fun b _=> .pure ?_
  show Av Z L (if _ then _ else _)
  split
  ·exact hρ a (by simp [Op.operands])
  ·exact hρ _ (by simp [Op.operands])
 |alloc t=>exact hyg_v (hyg_alloc h)
 |box t x=>exact hyg_v (hyg_box t (hρ x (by simp [Op.operands])))
 |build t ps=>
  refine hyg_v (hyg_build h fun x hx=> ?_)
  obtain⟨p,hp,rfl⟩:=Array.mem_map.1 hx
  exact hρ p.2 (by simp only [Op.operands,List.mem_toArray,List.mem_map];exact⟨p,by simpa using hp,rfl⟩)
 |buildSlice t n ps=>
  refine hyg_v (hyg_buildSlice h n fun x hx=> ?_)
  obtain⟨p,hp,rfl⟩:=Array.mem_map.1 hx
  exact hρ p.2 (by simp only [Op.operands,List.mem_toArray,List.mem_map];exact⟨p,by simpa using hp,rfl⟩)
 |load t a=>exact hyg_v (hyg_loadAt t (hρ a (by simp [Op.operands])))
 |store t a x=>exact hyg_u (hyg_storeAt t (hρ a (by simp [Op.operands])) (hρ x (by simp [Op.operands])))
 |nilCheck x=>
  have hx:=hρ x (by simp [Op.operands])
  dsimp only
  generalize ρ x=v at hx⊢
  have hx':=hx
  cases hx <;> first|exact hyg_rp rfl|exact .pure hx'
 |binOp op t x y _=>
  refine hyg_v ?_
  have hx:=hρ x (by simp [Op.operands])
  have hy:=hρ y (by simp [Op.operands])
  refine Hyg.bind (hyg_eqGuard op t x y hx hy) fun _ _=>hyg_binOp op t hx hy fun e=>⟨6, ?_⟩
  unfold opOk eqOk at h
  rcases e with rfl|rfl <;> exact h
 |unOp op t x=>exact hyg_v (hyg_unary op (hρ x (by simp [Op.operands])))
 |makeSlice t l c=>exact hyg_v (hyg_makeSlice h _ _)
 |convert s d x=>exact hyg_v (hyg_convert hV h (hρ x (by simp [Op.operands])))
 | makeFunc fn xs ys=>
  cases fn <;> simp only [opOk,Bool.false_eq_true]at h
  refine hyg_v (.pure (.func (hL _ h) (fun v hv=> ?_) fun v hv=> ?_))
  ·obtain⟨x,hx,rfl⟩:=Array.mem_map.1 hv
   exact hρ x (by simp [Op.operands,hx])
  ·obtain⟨x,hx,rfl⟩:=Array.mem_map.1 hv
   exact hρ x (by simp [Op.operands,hx])
 |makeMap t r=>exact hyg_v (hyg_makeMap t _)
 |makeInterface t x=>exact hyg_v (hyg_makeInterface t (hρ x (by simp [Op.operands])))
 |panic x=>exact hyg_v (hyg_panicOp (hρ x (by simp [Op.operands])))
 |slice t x lo hi mx=>exact hyg_v (hyg_sliceAt t (hρ x (by simp [Op.operands])) _ _ _)
 |fieldAddr s x f=>exact hyg_v (hyg_fieldAt s (hρ x (by simp [Op.operands])) f)
 |field s x f=>exact hyg_v (hyg_field s (hρ x (by simp [Op.operands])) f)
 |indexAddr t x i=>exact hyg_v (hyg_indexAt t (hρ x (by simp [Op.operands])))
 |index t x i=>exact hyg_v (hyg_index t (hρ x (by simp [Op.operands])))
 |lookup t x i ok=>
  simp only [opOk,Bool.and_eq_true]at h
  refine hyg_v (hyg_lookup h.1 (fun k e he=> ?_) (hρ x (by simp [Op.operands])) (hρ i (by simp [Op.operands])) ok)
  have:=h.2
  unfold zMapElem at this
  rw [he]at this
  exact this
 |mapUpdate t m k x=>exact hyg_u (hyg_mapUpdate h (hρ m (by simp [Op.operands])) (hρ k (by simp [Op.operands])) (hρ x (by simp [Op.operands])))
 |insert t m k x=>exact hyg_u (hyg_mapUpdate h (hρ m (by simp [Op.operands])) (hρ k (by simp [Op.operands])) (hρ x (by simp [Op.operands])))
 |extract x i=>exact hyg_v (hyg_extract (hρ x (by simp [Op.operands])) i)
 |range t x=>exact hyg_v (hyg_rangeStr h _)
 |next x b=>exact hyg_v (hyg_nextStr h (hρ x (by simp [Op.operands])) _)
 | call c=>
  obtain⟨callee,args,ats⟩:=c
  cases callee with
  | builtin b=>
   have ha:∀v∈args.map ρ,Av Z L v:=by
    intro v hv
    obtain⟨x,hx,rfl⟩:=Array.mem_map.1 hv
    exact hρ x (by simp [Op.operands,Call.operands,hx])
   cases b <;> simp only [opOk,Bool.false_eq_true]at h
   ·refine hyg_v (hyg_append ats _ _ ha fun t ht=> ?_)
    rw [ht]at h
    exact h
   ·exact hyg_v (hyg_cap ats _ _ ha)
   ·exact hyg_v (hyg_copy ats _ _ ha)
   ·exact hyg_v (hyg_len ats _ _ ha)
   ·exact hyg_v (hyg_max ats _ _ ha)
   ·exact hyg_v (hyg_min ats _ _ ha)
   ·refine hyg_v (hyg_sliceData ats (fun e he=>hV e ?_) _ ha)
    dsimp only at ht
    rw [he]at ht
    exact ht
   ·exact hyg_v (hyg_unsafeString ats _ _ ha)
   ·exact(Hyg.bind (hyg_typeInfo _) fun i _=> .pure (Av.int .u64 _):Hyg P (sw P F) Z L (NextV Z L) (typeInfo (ats.getD 0 0)>>=fun i=>pure (.value (.int .u64 i.bytes))))
  |_=>simp [opOk]at h
 |_=>simp [opOk]at h
end
section
variable {P:Program} {F:Array Func} {Z:Nat->Prop} {L:Lk}
def add64:Array Value->Sem Value:=fun args=>do
 let (x,y,c)←Extern.MathBitsCarry.three "Add64" args
 pure (Extern.MathBitsCarry.pair ((x+y+c) % Extern.MathBitsCarry.m64) ((x+y+c) / Extern.MathBitsCarry.m64))
def extNames:List String:= ["math/bits.Add64", "internal/bytealg.CountString", "internal/bytealg.IndexByteString", "internal/abi.NoEscape", "internal/bytealg.MakeNoZero", "internal/bytealg.IndexString"]
def extFn(fn:Func):Bool:=fn.body.isNone&&extNames.contains fn.name
def maxLenAt(P:Program):Option Nat:=P.globals.findIdx? (·.name== "internal/bytealg.MaxLen")
structure ExtOk(P:Program)(F:Array Func):Prop where
 ext:∀ (K:FuncId) (fn:Func),P.funcs[K]? =some fn->extFn fn=true->F[K]? =some fn/\Extern.findNext fn=none/\∃sm,Extern.find fn=some sm/\
  ∀ (Z:Nat->Prop) (L:Lk) (args:Array Value),(∀v∈args,Av Z L v)->(fn.name= "internal/bytealg.IndexString" ->∀g,maxLenAt P=some g->¬ Z g)->Hyg P (sw P F) Z L (Av Z L) (sm args)
theorem hyg_asInt'(v:Value):Hyg P (sw P F) Z L (fun _=>True) (asInt v):=by
 unfold asInt
 exact Hyg.bind (hyg_asIntOf _) fun _ _=> .pure trivial
theorem hyg_add64(args:Array Value):Hyg P (sw P F) Z L (Av Z L) (add64 args):=by
 unfold add64
 refine Hyg.bind (Q:=fun _=>True) ?_ fun r _=> ?_
 ·obtain⟨l⟩:=args
  match l with
  | []=>exact hyg_stuck _
  | [_]=>exact hyg_stuck _
  | [_,_]=>exact hyg_stuck _
  |_ :: _ :: _ :: _ :: _=>exact hyg_stuck _
  | [x,y,c]=>
   unfold Extern.MathBitsCarry.three
   refine Hyg.bind (hyg_asInt' _) fun c _=> ?_
   dsimp only
   split
   ·exact Hyg.bind (Q:=fun _:Unit=>True) (hyg_noEntry _) fun _ _=>Hyg.bind (hyg_asInt' _) fun _ _=>Hyg.bind (hyg_asInt' _) fun _ _=> .pure trivial
   ·exact Hyg.bind (hyg_asInt' _) fun _ _=>Hyg.bind (hyg_asInt' _) fun _ _=> .pure trivial
 ·refine .pure (.tuple fun v hv=> ?_)
  simp only [List.mem_toArray,List.mem_cons,List.not_mem_nil,or_false]at hv
  rcases hv with rfl|rfl <;> exact .int _ _
theorem hyg_extLoad:∀ (n:Nat) {a:Addr} (acc:ByteArray),¬ Z a.block->Hyg P (sw P F) Z L (fun _=>True) (Extern.Bytes.loadBytes a n acc)
 |0,_,_,_=> .pure trivial
 |n+1,a,acc,ha=>by
  unfold Extern.Bytes.loadBytes
  refine Hyg.bind (hyg_load ha) fun v _=> ?_
  split
  ·exact hyg_extLoad n _ (by rw [add_block];exact ha)
  ·exact hyg_stuck _
theorem hyg_bytesOf{v:Value}(hv:Av Z L v):Hyg P (sw P F) Z L (fun _=>True) (Extern.Bytes.bytesOf v):=by
 cases hv with
 |string s=>exact .pure trivial
 |slice0 l c=>exact .pure trivial
 |slice l c h=>exact hyg_extLoad _ _ h
 |_=>exact hyg_stuck _
theorem hyg_asByte(v:Value):Hyg P (sw P F) Z L (fun _=>True) (Extern.Bytes.asByte v):=by
 unfold Extern.Bytes.asByte
 split
 ·exact .pure trivial
 ·exact hyg_stuck _
theorem hyg_extCount{args:Array Value}(h:∀v∈args,Av Z L v):Hyg P (sw P F) Z L (Av Z L) (Extern.BytealgCount.count args):=by
 obtain⟨l⟩:=args
 match l with
 | []=>exact hyg_stuck _
 | [_]=>exact hyg_stuck _
 |_ :: _ :: _ :: _=>exact hyg_stuck _
 | [b,c]=>exact Hyg.bind (hyg_bytesOf (h b (by simp))) fun _ _=>Hyg.bind (hyg_asByte _) fun _ _=> .pure (.int _ _)
theorem hyg_extIndexByte{args:Array Value}(h:∀v∈args,Av Z L v):Hyg P (sw P F) Z L (Av Z L) (Extern.BytealgIndexByte.indexByte args):=by
 obtain⟨l⟩:=args
 match l with
 | []=>exact hyg_stuck _
 | [_]=>exact hyg_stuck _
 |_ :: _ :: _ :: _=>exact hyg_stuck _
 | [b,c]=>
  refine Hyg.bind (hyg_bytesOf (h b (by simp))) fun _ _=>Hyg.bind (hyg_asByte _) fun _ _=> ?_
  split <;> exact .pure (.int _ _)
theorem hyg_extSame{args:Array Value}(h:∀v∈args,Av Z L v):Hyg P (sw P F) Z L (Av Z L) (Extern.AbiNoEscape.same args):=by
 obtain⟨l⟩:=args
 match l with
 | []=>exact hyg_stuck _
 |_ :: _ :: _=>exact hyg_stuck _
 | [x]=>exact .pure (h x (by simp))
theorem hyg_makeNoZero(ps rs:Array TypeId)(args:Array Value):Hyg P (sw P F) Z L (Av Z L) (Extern.BytealgMakeNoZero.makeNoZero ps rs args):=by
 have digs:∀ (n t:Nat) (acc:Array Value),(∀v∈acc,Av Z L v)->∀v∈Extern.BytealgMakeNoZero.digits n t acc,Av Z L v:=by
  intro n
  induction n with
  |zero=>exact fun t acc h=>h
  |succ n ih=>
   intro t acc h
   refine ih _ _ fun v hv=> ?_
   rcases Array.mem_push.1 hv with m|m
   ·exact h v m
   ·exact m▸ .int _ _
 unfold Extern.BytealgMakeNoZero.makeNoZero
 obtain⟨l⟩:=args
 match l with
 | []=>exact hyg_stuck _
 |_ :: _ :: _=>exact hyg_stuck _
 | [x]=>
  cases x with
  | int k n=>
   cases k <;> first|exact hyg_stuck _|skip
   dsimp only
   split
   ·refine Hyg.bind (hyg_underlying _) fun u _=> ?_
    split
    ·refine hyg_ite (fun _=>hyg_rpBind rfl _) fun _=> ?_
     refine Hyg.bind (hyg_choose _) fun c _=>Hyg.bind (hyg_askRoom _) fun _ _=>Hyg.bind (hyg_choose _) fun b _=> ?_
     exact Hyg.bind (hyg_newRow _ (digs _ _ _ (by simp))) fun a ha=> .pure (.slice _ _ ha)
    ·exact hyg_stuck _
   ·exact hyg_stuck _
  |_=>exact hyg_stuck _
theorem hyg_indexString{args:Array Value}(h:∀v∈args,Av Z L v)(hg:∀g,maxLenAt P=some g->¬ Z g):Hyg P (sw P F) Z L (Av Z L) (Extern.BytealgIndex.index args):=by
 obtain⟨l⟩:=args
 match l with
 | []=>exact hyg_stuck _
 | [_]=>exact hyg_stuck _
 |_ :: _ :: _ :: _=>exact hyg_stuck _
 | [a,b]=>
  refine Hyg.bind (hyg_bytesOf (h a (by simp))) fun x _=>Hyg.bind (hyg_bytesOf (h b (by simp))) fun y _=> ?_
  refine Hyg.bind (Q:=fun _=>True) ?_ fun m _=> ?_
  ·unfold Extern.BytealgIndex.maxLen globalAddr
   refine Hyg.bind (Q:=fun a:Addr=>¬ Z a.block) (hyg_prog rfl ?_) fun a ha=>Hyg.bind (hyg_load ha) fun v _=>hyg_asInt' _
   cases e:maxLenAt P with
   |none=>unfold maxLenAt at e;rw [e];exact hyg_stuck _
   |some g=>have hz:=hg g e;unfold maxLenAt at e;rw [e];exact .pure hz
  ·refine hyg_ite (fun _=>Hyg.bind (Q:=fun _:Unit=>False) (hyg_noEntry _) fun _ h=>h.elim) fun _=>hyg_ite (fun _=>Hyg.bind (Q:=fun _:Unit=>False) (hyg_noEntry _) fun _ h=>h.elim) fun _=> ?_
   split <;> exact .pure (.int _ _)
def extOk(P:Program)(Lb Gb:Nat->Bool):Op->Bool
 | .call {callee:= .value (.func K),args,..}=>(match P.funcs[K]? with
  |some fn=>extFn fn&&(fn.name != "internal/bytealg.IndexString" ||match maxLenAt P with
   |some g=>Gb g
   |none=>true)
  |none=>false)&&args.all (oprOk Lb Gb)
 |_=>false
theorem hyg_ext{Lb Gb:Nat->Bool}(hE:ExtOk P F)(hG:∀g,Gb g=true->¬ Z g)(o:Oper)(ρ:Operand->Value)(hf:∀f,ρ (.func f)= .func (.func f) #[] #[])(hρ:∀x,oprOk Lb Gb x=true->Av Z L (ρ x))(h:extOk P Lb Gb o.op=true):Hyg P (sw P F) Z L (NextV Z L) (execOp ρ o):=by
 unfold execOp
 dsimp only
 generalize o.op=op at*
 cases op with
 | call c=>
  obtain⟨callee,args,ats⟩:=c
  cases callee with
  | value f=>
   cases f with
   | func K=>
    unfold extOk at h
    dsimp only at h
    rw [Bool.and_eq_true]at h
    obtain⟨h,hall⟩:=h
    cases e:P.funcs[K]? with
    |none=>rw [e]at h;simp at h
    | some fn=>
     rw [e]at h
     dsimp only at h
     rw [Bool.and_eq_true]at h
     obtain⟨h,hml⟩:=h
     have hml':fn.name= "internal/bytealg.IndexString" ->∀g,maxLenAt P=some g->¬ Z g:=by
      intro e1 g e2
      rw [e1,e2]at hml
      exact hG g (by simpa using hml)
     obtain⟨h1,h2,sm,h3,h4⟩:=hE.ext K fn e h
     have hn:(fn.name== "runtime.NumGoroutine")=false:=by
      unfold extFn extNames at h
      simp only [Bool.and_eq_true,List.contains_eq_mem,List.mem_cons,List.not_mem_nil,or_false,decide_eq_true_eq]at h
      rcases h.2 with e|e|e|e|e|e <;> rw [e] <;> rfl
     have hb:fn.body.isNone=true:=by
      unfold extFn at h
      simp only [Bool.and_eq_true]at h
      exact h.1
     simp only [resolve,hf,Deferred.ofValue]
     refine Hyg.bind (Q:=fun d=>d.target= .fn (.func K) #[]/\∀v∈d.args,Av Z L v) (.pure ⟨rfl,fun v hv=> ?_⟩) fun d hd=> ?_
     ·simp only [Array.empty_append,Array.append_empty,Array.mem_map]at hv
      obtain⟨x,hx,rfl⟩:=hv
      exact hρ x (Array.all_eq_true_iff_forall_mem.1 hall x hx)
     obtain⟨tgt,dargs⟩:=d
     simp only at hd
     obtain⟨hd,hda⟩:=hd
     subst hd
     unfold invoke callFunc
     dsimp only
     refine hyg_prog ?_ ?_
     ·show(match F[K]? with|none=>_|some fn=>_)=(match P.funcs[K]? with|none=>_|some fn=>_)
      rw [h1,e]
     ·simp only [e,hn,hb,if_true,Bool.false_eq_true,if_false,h2,h3]
      refine .noRoom (.inr ⟨K,rfl⟩) ?_
      refine Hyg.bind (Q:=fun _=>True) (.pure trivial) fun _ _=> ?_
      exact Hyg.bind (h4 Z L _ (by simpa using hda) hml') fun v hv=> .pure hv
   |_=>simp [extOk]at h
  |_=>simp [extOk]at h
 |_=>simp [extOk]at h
end
end
section
open Go
def tp(w:World)(τ:Nat->Question->Nat)(d:Nat):World:={w with tape:=τ,drawn:=d}
def tpR{α:Type}(r:Result α)(τ:Nat->Question->Nat)(d:Nat):Result α:=match r with
 | .ok a w=> .ok a (tp w τ d)
 | .halt h w=> .halt h (tp w τ d)
@[simp] theorem tp_heap(w:World)(τ:Nat->Question->Nat)(d:Nat):(tp w τ d).heap=w.heap:=rfl
theorem tp_self(w:World):tp w w.tape w.drawn=w:=rfl
theorem tp_tp(w:World)(τ σ:Nat->Question->Nat)(d e:Nat):tp (tp w τ d) σ e=tp w σ e:=rfl
def Agree(n:Nat)(τ:Nat->Question->Nat)(d:Nat)(σ:Nat->Question->Nat)(e:Nat):Prop:=∀j,j<n->∀q,τ (d+j) q=σ (e+j) q
theorem AvW.tp{Z:Nat->Prop}{L:Lk}{v:World}(h:AvW Z L v)(τ:Nat->Question->Nat)(d:Nat):AvW Z L (tp v τ d):=⟨h.obj,h.low⟩
structure Local{α:Type}(P:Program)(s:Sem α)(v:World)(c:Nat):Prop where
 ok:∀a v',s.run P v= .ok a v'->v'.tape=v.tape/\v'.drawn=v.drawn+c
 re:∀τ d,Agree c τ d v.tape v.drawn->s.run P (tp v τ d)=tpR (s.run P v) τ (d+c)
theorem viewStore_tp(p:Program)(v:World)(s:Addr)(u:TypeId)(k:Addr)(x:Value)(b:Bool)(τ:Nat->Question->Nat)(d:Nat):(tp v τ d).viewStore p s u k x b=(v.viewStore p s u k x b).map fun r=>(tp r.1 τ d,r.2):=by
 unfold World.viewStore
 have hs:(tp v τ d).seen p s u k b=v.seen p s u k b:=rfl
 rw [hs]
 simp only [bind,Except.bind,pure,Except.pure,throw,throwThe,MonadExceptOf.throw]
 split
 ·rfl
 ·cases v.seen p s u k b with
  |error _=>rfl
  | ok r=>
   obtain⟨c,e,fz,first,like,cells⟩:=r
   dsimp only
   cases x.bytes? with
   |none=>rfl
   |some bytes=>
    dsimp only
    split
    ·rfl
    ·split <;> rfl
theorem get_tp(p:Program)(v:World)(a:Addr)(τ:Nat->Question->Nat)(d:Nat):getC p (tp v τ d) a=getC p v a:=rfl
theorem put_tp(p:Program)(v:World)(a:Addr)(x:Value)(τ:Nat->Question->Nat)(d:Nat):putC p (tp v τ d) a x=(putC p v a x).map fun r=>(tp r.1 τ d,r.2):=by
 unfold putC
 have hc:(tp v τ d).cell? a=v.cell? a:=rfl
 have hf:(tp v τ d).frozen? a=v.frozen? a:=rfl
 rw [hc,hf]
 cases v.cell? a with
 |some y=>dsimp only;split <;> rfl
 | none=>
  dsimp only
  unfold World.farStore
  simp only [tp_heap]
  cases v.heap[a.block]? with
  |none=>rfl
  | some o=>
   cases o with
   |view s u=>
    dsimp only
    rw [viewStore_tp]
    cases v.viewStore p s u a x false <;> rfl
   |_=>rfl
theorem Hyg.local{P:Program}{F:Array Func}{Z:Nat->Prop}{L:Lk}(hT:∀u,L.t u->IntT P u){α:Type}{Q:α->Prop}{s:Sem α}(h:Hyg P (sw P F) Z L Q s):∀v:World,AvW Z L v->∃c,Local (sw P F) s v c:=by
 induction h with
 |pure hq=>exact fun v _=>⟨0,fun a v' e=>by simp only [Sem.run,Result.ok.injEq]at e;obtain⟨_,rfl⟩:=e;exact⟨rfl,rfl⟩,fun τ d _=>rfl⟩
 | @load a k hz _ ih=>
  intro v ha
  cases hg:getC (sw P F) v a with
  |error h=>exact⟨0,fun z v' e'=>(by rw [run_load,hg]at e';cases e'),fun τ d _=>by rw [run_load,run_load,get_tp,hg];rfl⟩
  |ok r=>
   obtain⟨c,h1,h2⟩:=ih r.1 (get_ok (fun u hu=>intT_sw F (hT u hu)) ha.obj hz hg).1 v ha
   exact⟨c,fun y v' e'=>h1 y v' (by rw [run_load,hg]at e';exact e'),fun τ d hg'=>by rw [run_load,run_load,get_tp,hg];exact h2 τ d hg'⟩
 | @store a x k hz hx _ ih=>
  intro v ha
  by_cases hne:(∀c:Array Value,x≠ .agg c)/\(∀c:Array Value,x≠ .tuple c)
  ·cases hg:putC (sw P F) v a x with
   |error h=>exact⟨0,fun z v' e'=>(by rw [run_store _ _ hne,hg]at e';cases e'),fun τ d _=>by rw [run_store _ _ hne,run_store _ _ hne,put_tp,hg];rfl⟩
   |ok r=>
    obtain⟨q1,_,_,q2,q3⟩:=put_ok ha hz hx hg
    obtain⟨c,h1,h2⟩:=ih r.1 q1
    rw [q2,q3]at h1 h2
    exact⟨c,fun y v' e'=>h1 y v' (by rw [run_store _ _ hne,hg]at e';exact e'),fun τ d hg'=>by rw [run_store _ _ hne,run_store _ _ hne,put_tp,hg];exact h2 τ d hg'⟩
  ·have e:∀w:World,Sem.run (sw P F) (.store .plain a x k) w= .halt (.stuck "store: not the value of one cell") w:=by
    intro w
    cases x <;> first|rfl|exact absurd ⟨by intros;simp,by intros;simp⟩ hne
   exact⟨0,fun z v' h=>(by rw [e]at h;cases h),fun τ d _=>by rw [e,e];rfl⟩
 | @new o k ho _ ih=>
  intro v ha
  have hn:¬ Z v.heap.size:=fun hz=>absurd (ha.low _ hz) (Nat.lt_irrefl _)
  obtain⟨c,h1,h2⟩:=ih v.heap.size hn {v with heap:=v.heap.push o} (ha.push ho)
  exact⟨c,fun a v' e=>h1 a v' (by simpa [Sem.run]using e),fun τ d hg=>h2 τ d hg⟩
 | @shape r k hz _ ih=>
  intro v ha
  obtain⟨c,h1,h2⟩:=ih (v.shape? r) v ha
  exact⟨c,fun a v' e=>h1 a v' (by simpa [Sem.run]using e),fun τ d hg=>h2 τ d hg⟩
 | @frozen a k hz _ ih=>
  intro v ha
  obtain⟨c,h1,h2⟩:=ih (v.frozen? a) v ha
  exact⟨c,fun a v' e=>h1 a v' (by simpa [Sem.run]using e),fun τ d hg=>h2 τ d hg⟩
 | @freeze a n k hz _ ih=>
  intro v ha
  obtain⟨c,h1,h2⟩:=ih (v.freeze a n) (ha.freeze a n)
  have e1:(v.freeze a n).tape=v.tape/\(v.freeze a n).drawn=v.drawn:=by unfold World.freeze;split <;> exact⟨rfl,rfl⟩
  have e2:∀τ d,(tp v τ d).freeze a n=tp (v.freeze a n) τ d:=by intro τ d;unfold World.freeze;split <;> rfl
  refine⟨c,fun x v' e=> ?_,fun τ d hg=> ?_⟩
  ·have:=h1 x v' (by simpa [Sem.run]using e)
   rwa [e1.1,e1.2]at this
  ·show k.run (sw P F) ((tp v τ d).freeze a n)=_
   rw [e2]
   exact h2 τ d (by rw [e1.1,e1.2];exact hg)
 | @getObj r k hz _ ih=>
  intro v ha
  cases hc:v.heap[r]? with
  |none=>
   have e:∀w:World,w.heap=v.heap->Sem.run (sw P F) (.getObj r k) w= .halt (.stuck "getObj: no such block") w:=by intro w hw;simp only [Sem.run,hw,hc]
   exact⟨0,fun z v' h=>(by rw [e v rfl]at h;cases h),fun τ d _=>by rw [e v rfl,e (tp v τ d) rfl];rfl⟩
  | some o=>
   have ho:=ha.obj _ _ hz hc
   by_cases hn:∃c t f,o= .cells c t f
   ·obtain⟨c,t,f,rfl⟩:=hn
    have e:∀w:World,w.heap=v.heap->Sem.run (sw P F) (.getObj r k) w= .halt (.stuck "getObj: a row of cells") w:=by intro w hw;simp only [Sem.run,hw,hc]
    exact⟨0,fun z v' h=>(by rw [e v rfl]at h;cases h),fun τ d _=>by rw [e v rfl,e (tp v τ d) rfl];rfl⟩
   ·obtain⟨c,h1,h2⟩:=ih o ho v ha
    have e:∀w:World,w.heap=v.heap->Sem.run (sw P F) (.getObj r k) w=(k o).run (sw P F) w:=by
     intro w hw
     simp only [Sem.run,hw,hc]
     cases o <;> first|rfl|exact absurd ⟨_,_,_,rfl⟩ hn
    exact⟨c,fun z v' h=>h1 z v' (by rw [←e v rfl];exact h),fun τ d hg=>by rw [e v rfl,e (tp v τ d) rfl];exact h2 τ d hg⟩
 | @setObj r o k hz ho _ ih=>
  intro v ha
  cases hc:v.heap[r]? with
  |none=>
   have e:∀w:World,w.heap=v.heap->Sem.run (sw P F) (.setObj r o k) w= .halt (.stuck "setObj: no such block") w:=by intro w hw;simp only [Sem.run,hw,hc]
   exact⟨0,fun z v' h=>(by rw [e v rfl]at h;cases h),fun τ d _=>by rw [e v rfl,e (tp v τ d) rfl];rfl⟩
  | some o'=>
   by_cases hn:∃c t f,o'= .cells c t f
   ·obtain⟨c,t,f,rfl⟩:=hn
    have e:∀w:World,w.heap=v.heap->Sem.run (sw P F) (.setObj r o k) w= .halt (.stuck "setObj: a row of cells") w:=by intro w hw;simp only [Sem.run,hw,hc]
    exact⟨0,fun z v' h=>(by rw [e v rfl]at h;cases h),fun τ d _=>by rw [e v rfl,e (tp v τ d) rfl];rfl⟩
   ·obtain⟨c,h1,h2⟩:=ih {v with heap:=v.heap.setIfInBounds r o} (ha.setObj r ho)
    have e:∀w:World,w.heap=v.heap->Sem.run (sw P F) (.setObj r o k) w=k.run (sw P F) {w with heap:=w.heap.setIfInBounds r o}:=by
     intro w hw
     simp only [Sem.run]
     rw [show w.heap[r]? =some o' by rw [hw];exact hc]
     cases o' <;> first|rfl|exact absurd ⟨_,_,_,rfl⟩ hn
    exact⟨c,fun z v' h=>h1 z v' (by rw [←e v rfl];exact h),fun τ d hg=>by rw [e v rfl,e (tp v τ d) rfl];exact h2 τ d hg⟩
 | @choose q k _ ih=>
  intro v ha
  by_cases hq:q.forced=true
  ·obtain⟨c,h1,h2⟩:=ih 0 v ha
   have e:∀w:World,Sem.run (sw P F) (.choose q k) w=(k 0).run (sw P F) w:=by intro w;simp only [Sem.run,hq,if_true]
   exact⟨c,fun a v' h=>h1 a v' (by rw [←e];exact h),fun τ d hg=>by rw [e,e];exact h2 τ d hg⟩
  ·obtain⟨c,h1,h2⟩:=ih (q.cut (v.tape v.drawn q)) {v with drawn:=v.drawn+1} (ha.draw _)
   have e:∀w:World,Sem.run (sw P F) (.choose q k) w=(k (q.cut (w.tape w.drawn q))).run (sw P F) {w with drawn:=w.drawn+1}:=by
    intro w;simp only [Sem.run];rw [if_neg hq]
   refine⟨c+1,fun a v' h=> ?_,fun τ d hg=> ?_⟩
   ·obtain⟨x,y⟩:=h1 a v' (by rw [←e];exact h)
    exact⟨x,by simp only at y;omega⟩
   ·rw [e,e]
    have h0:τ d q=v.tape v.drawn q:=by have:=hg 0 (by omega) q;simpa using this
    have:=h2 τ (d+1) (fun j hj q'=>by have:=hg (j+1) (by omega) q';simp only;rw [show d+1+j=d+(j+1) by omega,show v.drawn+1+j=v.drawn+(j+1) by omega];exact this)
    show(k (q.cut (τ d q))).run (sw P F) {tp v τ d with drawn:=d+1}=_
    rw [h0,show d+(c+1)=d+1+c by omega]
    exact this
 | @program k hk _ ih=>
  intro v ha
  obtain⟨c,h1,h2⟩:=ih v ha
  have e:∀w:World,Sem.run (sw P F) (.program k) w=(k P).run (sw P F) w:=by intro w;simp only [Sem.run];rw [hk]
  exact⟨c,fun a v' h=>h1 a v' (by rw [←e];exact h),fun τ d hg=>by rw [e,e];exact h2 τ d hg⟩
 | @noRoom mk k hmk _ ih=>
  intro v ha
  obtain⟨c,h1,h2⟩:=ih v ha
  exact⟨c,fun a v' e=>h1 a v' (by simpa [Sem.run]using e),fun τ d hg=>h2 τ d hg⟩
 |env _ _ ih=>
  intro v ha
  obtain⟨c,h1,h2⟩:=ih (.strings v.os.env) v ha
  exact⟨c,fun a v' e=>h1 a v' (by simpa only [Sem.run,sys_env]using e),fun τ d hg=>by simp only [Sem.run,sys_env];exact h2 τ d hg⟩
 |halt _=>exact fun v _=>⟨0,fun a v' e=>by simp [Sem.run]at e,fun τ d _=>rfl⟩
end
section
open Go Go.Conc
def okOper(P:Program)(Lb Gb:Nat->Bool)(o:Oper):Bool:=((opOk P Lb o.op||callOk o.op)&&tyOk P o&&o.op.operands.all (oprOk Lb Gb))||extOk P Lb Gb o.op
def okCode(ok:Oper->Bool):Code->Bool
 | .skip| .ret| .exit _| .label _| .refuse _=>true
 | .region _ ops _=>ops.all ok
 | .seq a b| .cond _ a b=>okCode ok a&&okCode ok b
 | .block _ c| .loop c| .scope c=>okCode ok c
 | .rangeFunc f ps a b=>ps.size !=1&&ok {dst:=none,op:= .move f,type:=0,pos:= "",after:= #[],guard:=none}&&okCode ok a&&okCode ok b
 |_=>false
def okItem(ok:Oper->Bool):Item->Bool
 | .code c=>okCode ok c
 | .inBlock _=>true
 | .inLoop c=>okCode ok c
 | .inScope c=>okCode ok c
 | .inRegion ops _=>ops.all ok
 | .inRangeFunc _| .endRangeFunc _| .beginRound=>true
 |_=>false
def lk(Lb:Nat->Bool)(ok:Oper->Bool):Lk:=⟨fun f=>Lb f=true,fun c=>okCode ok c=true,fun u=>ok {dst:=none,op:= .call {callee:= .builtin .unsafeSizeof,args:= #[],argTypes:= #[u]},type:=0,pos:= "",after:= #[],guard:=none}=true⟩
theorem lkV{P:Program}{Lb Gb:Nat->Bool}:∀u,viewT P 8 u=true->(lk Lb (okOper P Lb Gb)).t u:=fun u h=>by simp [lk,okOper,opOk,tyOk,h,Op.operands,Call.operands]
theorem lkT{P:Program}{Lb Gb:Nat->Bool}:∀u,(lk Lb (okOper P Lb Gb)).t u->IntT P u:=fun u h=>intT_of (by simpa [lk,okOper,opOk,tyOk,extOk,callOk,Op.operands,Call.operands]using h)
def itemZ(Z:Nat->Prop):Item->Prop
 | .inRangeFunc l| .endRangeFunc l=>¬ Z l
 |_=>True
structure FOk(Z:Nat->Prop)(Lb:Nat->Bool)(ok:Oper->Bool)(sat:Nat)(fr:Frame):Prop where
 kind:fr.kind= .normal
 round:∀l,fr.roundOf=some l->¬ Z l
 defers:∀d∈fr.defers,∃r,d={target:= .collected r,args:= #[]}/\¬ Z r
 fn:Lb fr.fn=true
 notSat:fr.roundOf=none->fr.fn≠sat
 tmps:∀v∈fr.tmps,Av Z (lk Lb ok) v
 todo:∀i∈fr.todo,okItem ok i=true/\itemZ Z i
 ret:fr.mode= .returning->fr.roundOf=none
def quietNext(fr:Frame):Option Frame:=match fr.todo with
 | []=>if fr.roundOf=none then some {fr with mode:= .returning}else none
 | .code .ret :: _=>if fr.roundOf=none then some {fr with mode:= .returning}else none
 | .code .skip :: k| .code (.label _) :: k| .inBlock _ :: k| .inScope _ :: k=>some {fr with todo:=k}
 | .code (.seq a b) :: k=>some {fr with todo:= .code a :: .code b :: k}
 | .code (.cond c t e) :: k=>match fr.eval c with
  | .bool b=>some {fr with todo:= .code (if b then t else e) :: k}
  |_=>none
 | .code (.block id c) :: k=>some {fr with todo:= .code c :: .inBlock id :: k}
 | .code (.loop c) :: k| .inLoop c :: k=>some {fr with todo:= .code c :: .inLoop c :: k}
 | .code (.scope c) :: k=>some {fr with todo:= .code c :: .inScope c :: k}
 | .code (.exit id) :: k=>(exitTo id k).map fun k'=>{fr with todo:=k'}
 | .code (.region _ ops false) :: k=>some {fr with todo:= .inRegion ops (List.range ops.size) :: k}
 | .inRegion _ [] :: k=>some {fr with todo:=k}
 | .inRegion ops (i :: _) :: _=>if((ops[i]?).map (Region.wanted · (yielded ops fr.tmps))).getD false then none else some (fr.finish undef)
 |_=>none
theorem quiet_step{fr fr':Frame}(hm:fr.mode= .run)(h:quietNext fr=some fr')(Pg:Program)(main:Bool)(cs:List Frame)(w:World):
  stepG Pg main (G fr cs) w= .go (G fr' cs) w:=by
 unfold quietNext at h
 obtain⟨fn,tmps,todo,defers,mode,kind,roundOf⟩:=fr
 simp only at hm h
 subst hm
 split at h
 all_goals first
  | (split at h
     · next e=>
       simp only [Option.some.injEq]at h
       subst h e
       simp [stepG,stepG.exec,G];done
     · cases h)
  |(simp only [Option.some.injEq]at h;subst h;simp [stepG,stepG.exec,G];done)
  |skip
 ·split at h
  ·next e=>
   simp only [Option.some.injEq]at h
   subst h
   simp [stepG,stepG.exec,G,e]
  ·cases h
 ·obtain⟨k',hk,rfl⟩:=Option.map_eq_some_iff.1 h
  simp [stepG,stepG.exec,G,hk]
 ·split at h
  ·cases h
  ·next e=>
   simp only [Option.some.injEq]at h
   subst h
   simp [stepG,stepG.exec,G,e]
 ·cases h
theorem exit_suffix(id:Nat)(k:List Item):∀k',exitTo id k=some k'->∀i∈k',i∈k:=by
 induction k with
 |nil=>intro k' h;simp [exitTo]at h
 | cons i k ih=>
  intro k' h j hj
  have:exitTo id k=some k'∨k=k':=by
   cases i <;> simp only [exitTo]at h <;> first|exact .inl h|skip
   split at h
   ·exact .inr (Option.some.inj h)
   ·exact .inl h
  rcases this with e|e
  ·exact List.mem_cons_of_mem _ (ih k' e j hj)
  ·exact e▸List.mem_cons_of_mem _ (e▸hj)
section
variable {Z:Nat->Prop} {Lb:Nat->Bool} {ok:Oper->Bool} {sat:Nat}
theorem av_undef:Av Z (lk Lb ok) undef:= .tuple (by simp)
theorem FOk.lay{fr:Frame}(h:FOk Z Lb ok sat fr){k:List Item}(hk:∀i∈k,okItem ok i=true/\itemZ Z i):FOk Z Lb ok sat {fr with todo:=k}:=⟨h.kind,h.round,h.defers,h.fn,h.notSat,h.tmps,hk,h.ret⟩
theorem FOk.finish{fr:Frame}(h:FOk Z Lb ok sat fr){v:Value}(hv:Av Z (lk Lb ok) v):FOk Z Lb ok sat (fr.finish v):=by
 have ht:=h.todo
 have h2:∀{x:Item} {k:List Item},fr.todo=x :: k->(okItem ok x=true/\itemZ Z x)/\∀i∈k,okItem ok i=true/\itemZ Z i:=by
  intro x k ek
  rw [ek]at ht
  exact⟨ht x (by simp),fun i hi=>ht i (by simp [hi])⟩
 unfold Frame.finish
 split
 ·next ops i rest k e=>
  refine⟨h.kind,h.round,h.defers,h.fn,h.notSat,fun x hx=> ?_,fun j hj=> ?_,h.ret⟩
  ·simp only at hx
   split at hx
   ·rcases Array.mem_or_eq_of_mem_setIfInBounds hx with m|m
    ·exact h.tmps x m
    ·exact m▸hv
   ·exact h.tmps x hx
  ·simp only [List.mem_cons]at hj
   rcases hj with rfl|hj
   ·exact(h2 e).1
   ·exact(h2 e).2 j hj
 ·next l k e=>
  refine h.lay fun j hj=> ?_
  simp only [List.mem_cons]at hj
  rcases hj with rfl|hj
  ·exact⟨rfl,(h2 e).1.2⟩
  ·exact(h2 e).2 j hj
 ·next k e=>exact h.lay (h2 e).2
 ·next e=>have:=(h2 e).1.1;simp [okItem]at this
 ·next e=>have:=(h2 e).1.1;simp [okItem]at this
 ·exact h
theorem FOk.quiet{fr fr':Frame}(h:FOk Z Lb ok sat fr)(e:quietNext fr=some fr'):FOk Z Lb ok sat fr':=by
 have ht:=h.todo
 have h2:∀{x:Item} {k:List Item},fr.todo=x :: k->(okItem ok x=true/\itemZ Z x)/\∀i∈k,okItem ok i=true/\itemZ Z i:=by
  intro x k ek
  rw [ek]at ht
  exact⟨ht x (by simp),fun i hi=>ht i (by simp [hi])⟩
 have code:∀{c:Code},okCode ok c=true->okItem ok (.code c)=true/\itemZ Z (.code c):=fun hc=>⟨hc,trivial⟩
 unfold quietNext at e
 split at e
 ·split at e
  ·next hr=>simp only [Option.some.injEq]at e;subst e;exact⟨h.kind,h.round,h.defers,h.fn,h.notSat,h.tmps,h.todo,fun _=>hr⟩
  ·cases e
 ·split at e
  ·next hr=>simp only [Option.some.injEq]at e;subst e;exact⟨h.kind,h.round,h.defers,h.fn,h.notSat,h.tmps,h.todo,fun _=>hr⟩
  ·cases e
 ·next k ek=>simp only [Option.some.injEq]at e;subst e;exact h.lay (h2 ek).2
 ·next k ek=>simp only [Option.some.injEq]at e;subst e;exact h.lay (h2 ek).2
 ·next k ek=>simp only [Option.some.injEq]at e;subst e;exact h.lay (h2 ek).2
 ·next k ek=>simp only [Option.some.injEq]at e;subst e;exact h.lay (h2 ek).2
 ·next a b k ek=>
  simp only [Option.some.injEq]at e;subst e
  obtain⟨x,y⟩:=h2 ek
  have x:=x.1
  simp only [okItem,okCode,Bool.and_eq_true]at x
  refine h.lay fun i hi=> ?_
  simp only [List.mem_cons]at hi
  rcases hi with rfl|rfl|hi
  ·exact code x.1
  ·exact code x.2
  ·exact y i hi
 ·next c a b k ek=>
  obtain⟨x,y⟩:=h2 ek
  have x:=x.1
  simp only [okItem,okCode,Bool.and_eq_true]at x
  split at e
  ·simp only [Option.some.injEq]at e;subst e
   refine h.lay fun i hi=> ?_
   simp only [List.mem_cons]at hi
   rcases hi with rfl|hi
   ·refine code ?_
    split
    ·exact x.1
    ·exact x.2
   ·exact y i hi
  ·cases e
 ·next id c k ek=>
  simp only [Option.some.injEq]at e;subst e
  obtain⟨x,y⟩:=h2 ek
  refine h.lay fun i hi=> ?_
  simp only [List.mem_cons]at hi
  rcases hi with rfl|rfl|hi
  ·exact code x.1
  ·exact⟨rfl,trivial⟩
  ·exact y i hi
 ·next c k ek=>
  simp only [Option.some.injEq]at e;subst e
  obtain⟨x,y⟩:=h2 ek
  refine h.lay fun i hi=> ?_
  simp only [List.mem_cons]at hi
  rcases hi with rfl|rfl|hi
  ·exact code x.1
  ·exact⟨x.1,trivial⟩
  ·exact y i hi
 ·next c k ek=>
  simp only [Option.some.injEq]at e;subst e
  obtain⟨x,y⟩:=h2 ek
  refine h.lay fun i hi=> ?_
  simp only [List.mem_cons]at hi
  rcases hi with rfl|rfl|hi
  ·exact code x.1
  ·exact⟨x.1,trivial⟩
  ·exact y i hi
 ·next c k ek=>
  simp only [Option.some.injEq]at e;subst e
  obtain⟨x,y⟩:=h2 ek
  refine h.lay fun i hi=> ?_
  simp only [List.mem_cons]at hi
  rcases hi with rfl|rfl|hi
  ·exact code x.1
  ·exact⟨x.1,trivial⟩
  ·exact y i hi
 ·next id k ek=>
  obtain⟨k',hk,rfl⟩:=Option.map_eq_some_iff.1 e
  exact h.lay fun i hi=>(h2 ek).2 i (exit_suffix _ _ _ hk i hi)
 ·next id ops k ek=>
  simp only [Option.some.injEq]at e;subst e
  obtain⟨x,y⟩:=h2 ek
  refine h.lay fun i hi=> ?_
  simp only [List.mem_cons]at hi
  rcases hi with rfl|hi
  ·exact⟨x.1,trivial⟩
  ·exact y i hi
 ·next ops k ek=>simp only [Option.some.injEq]at e;subst e;exact h.lay (h2 ek).2
 ·split at e
  ·cases e
  ·simp only [Option.some.injEq]at e;subst e;exact h.finish av_undef
 ·cases e
end
end
section
open Go Go.Conc
def resOk(fn:Func):Bool:=fn.results.all fun| .tmp _=>true|_=>false
def resVal(fn:Func)(tmps:Array Value):Value:=
 let vs:=fn.results.map fun| .tmp t=>tmps.getD t undef|_=>undef
 if h:vs.size=1 then vs[0]else .tuple vs
theorem results_pure{fn:Func}(h:resOk fn=true)(tmps:Array Value):results fn tmps=pure (resVal fn tmps):=by
 unfold results resVal
 have:(fn.results.mapM fun
  | .tmp t=>pure (tmps.getD t undef)
  | .cell a t=>do loadVar t (←asAddr (tmps.getD a undef)):Sem (Array Value))=pure (fn.results.map fun| .tmp t=>tmps.getD t undef|_=>undef):=by
  unfold resOk at h
  have h':=Array.all_eq_true_iff_forall_mem.1 h
  rw [Array.mapM_eq_mapM_toList]
  have key:∀l:List ResultVar,(∀x∈l,(match x with| .tmp _=>true|_=>false)=true)->(l.mapM (fun
   | .tmp t=>pure (tmps.getD t undef)
   | .cell a t=>do loadVar t (←asAddr (tmps.getD a undef)):ResultVar->Sem Value))=pure (l.map fun| .tmp t=>tmps.getD t undef|_=>undef):=by
   intro l
   induction l with
   |nil=>intro _;rfl
   |cons x l ih=>
    intro hl
    rw [List.mapM_cons,ih fun y hy=>hl y (by simp [hy])]
    have:=hl x (by simp)
    cases x with
    |tmp t=>rfl
    |cell=>simp at this
  rw [key _ (fun x hx=>h' x (by simpa using hx)),map_pure]
  congr 1
  apply Array.toList_inj.1
  rw [Array.toList_map]
 exact(congrArg (fun s:Sem (Array Value)=>s>>=fun vs=>pure (if h:vs.size=1 then vs[0]else .tuple vs)) this).trans rfl
structure Sys(P:Program)(F:Array Func)(Z:Nat->Prop)(Lb Gb:Nat->Bool)(sat:Nat):Prop where
 hG:∀g,Gb g=true->¬ Z g
 hZ:¬ Z P.globals.size
 ext:ExtOk P F
 fn:∀f,Lb f=true->f≠sat->∃fn body,P.funcs[f]? =some fn/\F[f]? =some fn/\fn.body=some body/\okCode (okOper P Lb Gb) body=true/\(fn.name== "runtime.NumGoroutine")=false
 satP:∃fn body,P.funcs[sat]? =some fn/\fn.body=some body/\(fn.name== "runtime.NumGoroutine")=false
 satF:∃fn body,F[sat]? =some fn/\fn.body=some body/\(fn.name== "runtime.NumGoroutine")=false
section
variable {P:Program} {F:Array Func} {Z:Nat->Prop} {Lb Gb:Nat->Bool} {sat:Nat}
theorem hyg_results{P:Program}{F:Array Func}{Z:Nat->Prop}{L:Lk}(hZ:¬ Z P.globals.size)(fn:Func){tmps:Array Value}(h:∀v∈tmps,Av Z L v):Hyg P (sw P F) Z L (Av Z L) (results fn tmps):=by
 have hg:∀t,Av Z L (tmps.getD t undef):=by
  intro t
  rw [Array.getD_eq_getD_getElem?]
  cases e:tmps[t]? with
  |none=>exact .tuple (by simp)
  |some v=>exact h v (Array.mem_of_getElem? e)
 unfold results
 refine Hyg.bind (Q:=fun vs:Array Value=>∀v∈vs,Av Z L v) ?_ fun vs hvs=> .pure ?_
 ·rw [Array.mapM_eq_mapM_toList]
  refine Hyg.bind (Q:=fun l:List Value=>∀v∈l,Av Z L v) ?_ fun l hl=> .pure (by simpa using hl)
  generalize fn.results.toList=rs
  induction rs with
  |nil=>simp only [List.mapM_nil];exact .pure (by simp)
  | cons r rs ih=>
   simp only [List.mapM_cons]
   refine Hyg.bind (Q:=Av Z L) ?_ fun x hx=>Hyg.bind ih fun l hl=> .pure ?_
   ·cases r with
    |tmp t=>exact .pure (hg t)
    |cell a t=>exact Hyg.bind (hyg_asAddr (hg a) hZ) fun ad had=>hyg_loadVar t had
   ·intro v hv
    rcases List.mem_cons.1 hv with rfl|hv
    ·exact hx
    ·exact hl v hv
 ·split
  ·exact hvs _ (Array.getElem_mem _)
  ·exact .tuple hvs
theorem leave_run{Pg:Program}{main:Bool}{fr c:Frame}{cs:List Frame}{w w':World}{fn:Func}{x:Value}(hm:fr.mode= .returning)(hd:fr.defers= [])(hk:fr.kind= .normal)(hf:Pg.funcs[fr.fn]? =some fn)(he:(results fn fr.tmps).run Pg w= .ok x w'):
  stepG Pg main (G fr (c :: cs)) w= .go (G (c.finish x) cs) w' (seen Pg fr.fn ((results fn fr.tmps).events Pg w #[])):=by
 simp [G,stepG,unwind,doReturn,hm,hd,hk,hf,he,Sem.runT_eq,GStep.after]
theorem leave_halt{Pg:Program}{main:Bool}{fr:Frame}{cs:List Frame}{w w':World}{fn:Func}{h:Halt}(hm:fr.mode= .returning)(hd:fr.defers= [])(hf:Pg.funcs[fr.fn]? =some fn)(he:(results fn fr.tmps).run Pg w= .halt h w'):
  ∃oc w'' es,stepG Pg main (G fr cs) w= .ended oc w'' es:=by
 cases h <;> simp [G,stepG,unwind,hm,hd,hf,he,Sem.runT_eq,GStep.after]
theorem leave_step{Pg:Program}{main:Bool}{fr c:Frame}{cs:List Frame}{w:World}{fn:Func}(hm:fr.mode= .returning)(hd:fr.defers= [])(hk:fr.kind= .normal)(hf:Pg.funcs[fr.fn]? =some fn)(hr:resOk fn=true):
  stepG Pg main (G fr (c :: cs)) w= .go (G (c.finish (resVal fn fr.tmps)) cs) w:=by
 have e:(results fn fr.tmps).run Pg w= .ok (resVal fn fr.tmps) w:=by rw [results_pure hr];rfl
 have e':(results fn fr.tmps).events Pg w #[]= #[]:=by rw [results_pure hr];rfl
 simp [G,stepG,unwind,doReturn,hm,hd,hk,hf,e,e',seen,GStep.after]
theorem draw_step{Pg:Program}{main:Bool}{fr:Frame}{cs:List Frame}{w:World}{id:Nat}{ops:Array Oper}{k:List Item}(hm:fr.mode= .run)(ht:fr.todo= .code (.region id ops true) :: k):
  stepG Pg main (G fr cs) w= .go (G {fr with todo:= .inRegion ops (Region.schedule (Pg.follows .mixedOrders) ops (w.tape w.drawn (.order fr.fn id))) :: k} cs) {w with drawn:=w.drawn+1}:=by
 obtain⟨fn,tmps,todo,defers,mode,kind,roundOf⟩:=fr
 simp only at hm ht
 subst hm ht
 simp [stepG,stepG.exec,G,choose,Sem.run,Question.forced,Question.cut]
theorem oper_apply{Pg:Program}{main:Bool}{fr:Frame}{cs:List Frame}{w:World}{ops:Array Oper}{i:Nat}{rest:List Nat}{k:List Item}{o:Oper}(hm:fr.mode= .run)(hn:∀c,o.op≠ .defer c)
  (ht:fr.todo= .inRegion ops (i :: rest) :: k) (ho:ops[i]? =some o) (hw:Region.wanted o (yielded ops fr.tmps)=true):
  stepG Pg main (G fr cs) w=stepG.apply Pg true fr cs none (execOp fr.eval o) w:=by
 obtain⟨fn,tmps,todo,defers,mode,kind,roundOf⟩:=fr
 simp only at hm ht hw
 subst hm ht
 simp only [G,stepG,stepG.exec,ho,Option.map_some,Option.getD_some,hw,if_true,stepG.oper,Frame.oper?]
 split
 ·next l c h=>exact absurd h (hn c)
 ·rfl
section
variable {Pg:Program} {fr:Frame} {cs:List Frame} {w w':World} {s:Sem Next}
theorem apply_value{v:Value}(hk:fr.kind= .normal)(he:s.run Pg w= .ok (.value v) w'):stepG.apply Pg true fr cs none s w= .go (G (fr.finish v) cs) w' (seen Pg fr.fn (s.events Pg w #[])):=by
 simp [stepG.apply,he,hk,GStep.after,G]
theorem apply_skip(hk:fr.kind= .normal)(he:s.run Pg w= .ok .skip w'):stepG.apply Pg true fr cs none s w= .go (G (fr.finish undef) cs) w' (seen Pg fr.fn (s.events Pg w #[])):=by
 simp [stepG.apply,he,hk,GStep.after,G]
theorem apply_panic{x:Value}(hk:fr.kind= .normal)(he:s.run Pg w= .halt (.panic x) w'):∃es,stepG.apply Pg true fr cs none s w= .go (G (fr.raise [{v:=x,recovered:=false}]) cs) w' es:=by
 simp [stepG.apply,he,hk,GStep.after,G]
theorem apply_stop{h:Halt}(hk:fr.kind= .normal)(he:s.run Pg w= .halt h w')(hh:HaltOk h)(hn:∀x,h≠ .panic x):∃oc w'' es,stepG.apply Pg true fr cs none s w= .ended oc w'' es:=by
 cases hh with
 |panic x=>exact absurd rfl (hn x)
 |_=>simp [stepG.apply,he,hk,GStep.after]
theorem apply_halt{h:Halt}(hm:fr.mode= .run)(hk:fr.kind= .normal)(he:s.run Pg w= .halt h w')(hh:HaltOk h){g1:Goroutine}{v1:World}{es1:Array Event}(hs:stepG.apply Pg true fr cs none s w= .go g1 v1 es1):∃ch,g1.frame.mode= .panicking ch:=by
 cases hh <;> simp [stepG.apply,he,hk,hm,GStep.after,Frame.raise]at hs
 obtain⟨rfl,_⟩:=hs
 exact⟨_,rfl⟩
theorem apply_enter{f:FuncId}{args:Array Value}(hk:fr.kind= .normal)(hc:∀d r x q k,fr.todo≠ .call d r x q :: k)(he:s.run Pg w= .ok (.enter f args) w'):
  stepG.apply Pg true fr cs none s w= .go (G (Frame.enter Pg f args .normal) (fr :: cs)) w' (seen Pg fr.fn (s.events Pg w #[])):=by
 obtain⟨fn,tmps,todo,defers,mode,kind,roundOf⟩:=fr
 simp only at hk hc
 subst hk
 cases todo with
 |nil=>simp [stepG.apply,he,GStep.after,G]
 |cons it k=>
  cases it with
  |call d r x q=>exact absurd rfl (hc d r x q k)
  |_=>simp [stepG.apply,he,GStep.after,G]
theorem apply_round{l:Nat}{f:FuncId}{tmps:Array Value}{a b:Code}(hk:fr.kind= .normal)(he:s.run Pg w= .ok (.round l f tmps a b) w'):
  stepG.apply Pg true fr cs none s w= .go (G (Frame.round l f tmps a b .normal) (fr :: cs)) w' (seen Pg fr.fn (s.events Pg w #[])):=by
 simp [stepG.apply,he,hk,GStep.after,G]
end
section
variable {Pg:Program} {main:Bool} {fr:Frame} {cs:List Frame} {w w':World} {ops:Array Oper} {i:Nat} {rest:List Nat} {k:List Item} {o:Oper}
theorem halt_step{h:Halt}(hm:fr.mode= .run)(hr:∀c,o.op≠ .defer c)(hk:fr.kind= .normal)
  (ht:fr.todo= .inRegion ops (i :: rest) :: k) (ho:ops[i]? =some o) (hw:Region.wanted o (yielded ops fr.tmps)=true) (he:(execOp fr.eval o).run Pg w= .halt h w') (hh:HaltOk h) {g1:Goroutine} {v1:World} {es1:Array Event}
  (hs:stepG Pg main (G fr cs) w= .go g1 v1 es1):∃ch,g1.frame.mode= .panicking ch:=by
 rw [oper_apply hm hr ht ho hw]at hs
 exact apply_halt hm hk he hh hs
theorem panic_step{x:Value}(hm:fr.mode= .run)(hr:∀c,o.op≠ .defer c)(hk:fr.kind= .normal)
  (ht:fr.todo= .inRegion ops (i :: rest) :: k) (ho:ops[i]? =some o) (hw:Region.wanted o (yielded ops fr.tmps)=true) (he:(execOp fr.eval o).run Pg w= .halt (.panic x) w'):
  ∃es,stepG Pg main (G fr cs) w= .go (G (fr.raise [{v:=x,recovered:=false}]) cs) w' es:=by
 rw [oper_apply hm hr ht ho hw]
 exact apply_panic hk he
theorem stop_step{h:Halt}(hm:fr.mode= .run)(hr:∀c,o.op≠ .defer c)(hk:fr.kind= .normal)
  (ht:fr.todo= .inRegion ops (i :: rest) :: k) (ho:ops[i]? =some o) (hw:Region.wanted o (yielded ops fr.tmps)=true) (he:(execOp fr.eval o).run Pg w= .halt h w') (hh:HaltOk h) (hn:∀x,h≠ .panic x):
  ∃oc w'' es,stepG Pg main (G fr cs) w= .ended oc w'' es:=by
 rw [oper_apply hm hr ht ho hw]
 exact apply_stop hk he hh hn
theorem value_step{v:Value}(hm:fr.mode= .run)(hr:∀c,o.op≠ .defer c)(hk:fr.kind= .normal)(ht:fr.todo= .inRegion ops (i :: rest) :: k)(ho:ops[i]? =some o)(hw:Region.wanted o (yielded ops fr.tmps)=true)
  (he:(execOp fr.eval o).run Pg w= .ok (.value v) w'):stepG Pg main (G fr cs) w= .go (G (fr.finish v) cs) w' (seen Pg fr.fn ((execOp fr.eval o).events Pg w #[])):=by
 rw [oper_apply hm hr ht ho hw]
 exact apply_value hk he
theorem skip_step(hm:fr.mode= .run)(hr:∀c,o.op≠ .defer c)(hk:fr.kind= .normal)(ht:fr.todo= .inRegion ops (i :: rest) :: k)(ho:ops[i]? =some o)(hw:Region.wanted o (yielded ops fr.tmps)=true)
  (he:(execOp fr.eval o).run Pg w= .ok .skip w'):stepG Pg main (G fr cs) w= .go (G (fr.finish undef) cs) w' (seen Pg fr.fn ((execOp fr.eval o).events Pg w #[])):=by
 rw [oper_apply hm hr ht ho hw]
 exact apply_skip hk he
theorem enter_step{f:FuncId}{args:Array Value}(hm:fr.mode= .run)(hr:∀c,o.op≠ .defer c)(hk:fr.kind= .normal)(ht:fr.todo= .inRegion ops (i :: rest) :: k)(ho:ops[i]? =some o)(hw:Region.wanted o (yielded ops fr.tmps)=true)
  (he:(execOp fr.eval o).run Pg w= .ok (.enter f args) w'):stepG Pg main (G fr cs) w= .go (G (Frame.enter Pg f args .normal) (fr :: cs)) w' (seen Pg fr.fn ((execOp fr.eval o).events Pg w #[])):=by
 rw [oper_apply hm hr ht ho hw]
 exact apply_enter hk (fun d r x q k e=>by rw [ht]at e;cases e) he
end
theorem call_run(o:Oper){f:Operand}{args:Array Operand}{ats:Array TypeId}(ho:o.op= .call {callee:= .value f,args,argTypes:=ats})(ρ:Operand->Value){K:FuncId}{xs ys:Array Value}(hv:ρ f= .func (.func K) xs ys)(Pg:Program){fn:Func}{body:Code}
  (hf:Pg.funcs[K]? =some fn) (hb:fn.body=some body) (hn:(fn.name== "runtime.NumGoroutine")=false) (w:World):
  (execOp ρ o).run Pg w= .ok (.enter K (xs++args.map ρ++ys)) w/\(execOp ρ o).events Pg w #[]= #[]:=by
 have e:execOp ρ o=callFunc K (xs++args.map ρ++ys):=by
  unfold execOp
  rw [ho]
  simp only [resolve,hv,Deferred.ofValue]
  rfl
 have h1:¬ fn.name= "runtime.NumGoroutine" :=by simpa using hn
 rw [e]
 constructor
 ·simp [callFunc,hf,h1,hb]
 ·simp [callFunc,hf,h1,hb]
theorem call_bad(o:Oper){f:Operand}{args:Array Operand}{ats:Array TypeId}(ho:o.op= .call {callee:= .value f,args,argTypes:=ats})(ρ:Operand->Value)(hv:∀fn xs ys,ρ f≠ .func fn xs ys)(Pg:Program)(w:World):
  ∃h w',(execOp ρ o).run Pg w= .halt h w'/\HaltOk h:=by
 have e:execOp ρ o=(Deferred.ofValue (ρ f) (args.map ρ)>>=fun d=>invoke d.target d.args):=by
  unfold execOp
  rw [ho]
  simp only [resolve]
 rw [e]
 generalize ρ f=v at hv
 cases v
 case func fn xs ys=>exact absurd rfl (hv _ _ _)
 case nilFunc=>exact⟨_,w,rfl,.panic _⟩
 all_goals exact⟨_,w,rfl,.stuck _⟩
end
section
variable {P:Program} {F:Array Func} {Z:Nat->Prop} {L:Lk}
theorem hyg_getLoop{l:Nat}(hl:¬ Z l):Hyg P (sw P F) Z L (fun r=>AvO Z L (.loop r)) (Instr.getLoop l):=by
 unfold Instr.getLoop
 refine .getObj hl fun o ho=> ?_
 cases ho with
 |loop a0 a1 a2 a3 a4 a5 a6=>exact .pure (.loop a0 a1 a2 a3 a4 a5 a6)
 |_=>exact hyg_stuck _
theorem hyg_yield{l:Nat}(hl:¬ Z l){args:Array Value}(ha:∀v∈args,Av Z L v):Hyg P (sw P F) Z L (NextR Z L) (Instr.yield l args):=by
 unfold Instr.yield
 refine Hyg.bind (hyg_getLoop hl) fun r hr=> ?_
 have fin:Hyg P (sw P F) Z L (NextR Z L) (pure (.round l r.fn ((r.params.zip args).foldl (fun tmps (x:Tmp×Value)=>tmps.setIfInBounds x.1 x.2) r.tmps) r.assign r.body)):=by
  cases hr with
  | loop a0 a1 a2 a3 a4 a5 a6=>
   refine .pure ⟨_,_,_,_,_,rfl,hl,a1, ?_,a3,a4⟩
   have key:∀ (ps:List (Tmp×Value)) (ts:Array Value),(∀x∈ps,Av Z L x.2)->(∀v∈ts,Av Z L v)->∀v∈ps.foldl (fun tmps (x:Tmp×Value)=>tmps.setIfInBounds x.1 x.2) ts,Av Z L v:=by
    intro ps
    induction ps with
    |nil=>exact fun ts _ h=>h
    |cons x ps ih=>
     intro ts h1 h2
     refine ih _ (fun y hy=>h1 y (by simp [hy])) fun v hv=> ?_
     rcases Array.mem_or_eq_of_mem_setIfInBounds hv with m|m
     ·exact h2 v m
     ·exact m▸h1 x (by simp)
   rw [←Array.foldl_toList]
   refine key _ _ (fun x hx=> ?_) a2
   have hx':x∈r.params.zip args:=Array.mem_toList_iff.1 hx
   obtain⟨i,hi,e⟩:=Array.mem_iff_getElem.1 hx'
   rw [←e]
   simp only [Array.getElem_zip]
   exact ha _ (Array.getElem_mem _)
 show Hyg P (sw P F) Z L _ (if _ then _ else _)
 split
 ·exact hyg_stuck _
 ·exact fin
theorem hyg_setLoop{l:Nat}(hl:¬ Z l){r:Loop}(hr:AvO Z L (.loop r)):Hyg P (sw P F) Z L (fun _=>True) (setObj l (.loop r)):= .setObj hl hr (.pure trivial)
theorem hyg_beginRound{l:Nat}(hl:¬ Z l)(hZ:¬ Z P.globals.size):Hyg P (sw P F) Z L (fun _=>True) (Instr.beginRound l):=by
 unfold Instr.beginRound
 refine Hyg.bind (hyg_getLoop hl) fun r hr=>Hyg.bind (hyg_setLoop hl ?_) fun _ _=> ?_
 ·cases hr with
  |loop a0 a1 a2 a3 a4 a5 a6=>exact .loop a0 a1 a2 a3 a4 a5 a6
 ·split
  ·exact .pure trivial
  ·exact hyg_runtimePanic _ hZ
  ·exact hyg_runtimePanic _ hZ
  ·exact hyg_runtimePanic _ hZ
theorem hyg_endRound{l:Nat}(hl:¬ Z l){j:Option Code}(hj:∀c,j=some c->L.k c):Hyg P (sw P F) Z L (Av Z L) (Instr.endRound l j):=by
 unfold Instr.endRound
 refine Hyg.bind (hyg_getLoop hl) fun r hr=>Hyg.bind (hyg_setLoop hl ?_) fun _ _=> .pure (.bool _)
 cases hr with
 |loop a0 a1 a2 a3 a4 a5 a6=>exact .loop a0 a1 a2 a3 a4 hj a6
theorem hyg_endLoop{l:Nat}(hl:¬ Z l)(hZ:¬ Z P.globals.size):Hyg P (sw P F) Z L (fun j=>∀c,j=some c->L.k c) (Instr.endLoop l):=by
 unfold Instr.endLoop
 refine Hyg.bind (hyg_getLoop hl) fun r hr=> ?_
 have fin:Hyg P (sw P F) Z L (fun j=>∀c,j=some c->L.k c) (do setObj l (.loop {r with state:= .exhausted});pure r.pending):=by
  cases hr with
  |loop a0 a1 a2 a3 a4 a5 a6=>exact Hyg.bind (hyg_setLoop hl (.loop a0 a1 a2 a3 a4 a5 a6)) fun _ _=> .pure a5
 show Hyg P (sw P F) Z L _ (if _ then _ else _)
 split
 ·exact Hyg.bind (Q:=fun _:PUnit=>True) (hyg_runtimePanic _ hZ) fun _ _=>fin
 ·exact fin
theorem hyg_takeDeferred{r:Nat}(hr:¬ Z r):Hyg P (sw P F) Z L (fun ds=>ds= []) (Instr.takeDeferred r):=by
 unfold Instr.takeDeferred
 refine .getObj hr fun o ho=> ?_
 cases ho with
 |deferred=>
  refine Hyg.bind (Q:=fun _:Unit=>True) (s:=setObj r (.deferred none)) (.setObj hr .deferred0 (.pure trivial)) fun _ _=> .pure rfl
 |_=>exact hyg_stuck _
theorem hyg_enterLoop{fn:FuncId}{tmps:Array Value}{params:Array Tmp}{a b:Code}{around:Option Nat}(hp:params.size≠1)(hf:L.f fn)(ht:∀v∈tmps,Av Z L v)(ha:L.k a)(hb:L.k b)(hr:∀l,around=some l->¬ Z l):
  Hyg P (sw P F) Z L (fun x=>¬ Z x.1/\∀d∈x.2,∃r,d={target:= .collected r,args:= #[]}/\¬ Z r) (Instr.enterLoop fn tmps params a b around):=by
 unfold Instr.enterLoop
 have key:∀x:Nat×List Deferred,(¬ Z x.1/\∀d∈x.2,∃r,d={target:= .collected r,args:= #[]}/\¬ Z r)->Hyg P (sw P F) Z L (fun x=>¬ Z x.1/\∀d∈x.2,∃r,d={target:= .collected r,args:= #[]}/\¬ Z r)
   (do let l←newObj (.loop {state:= .ready,pending:=none,fn,tmps,params,assign:=a,body:=b,defers:=x.1});pure (l,x.2)):=by
  intro x hx
  refine .new (.loop hp hf ht ha hb (by simp) hx.1) fun r hr=> .pure ⟨hr,hx.2⟩
 cases around with
 |some l=>
  refine Hyg.bind (hyg_getLoop (hr l rfl)) fun r ho=> ?_
  cases ho with
  |loop a0 a1 a2 a3 a4 a5 a6=>exact key (r.defers,[]) ⟨a6,by simp⟩
 |none=>exact .new .deferred fun r hr=>key (r,[{target:= .collected r,args:= #[]}]) ⟨hr,by intro d hd;simp only [List.mem_singleton]at hd;exact⟨r,hd,hr⟩⟩
end
structure SysF(P:Program)(F:Array Func)(Z:Nat->Prop)(Lb Gb:Nat->Bool):Prop where
 hG:∀g,Gb g=true->¬ Z g
 hZ:¬ Z P.globals.size
 ext:ExtOk P F
 fn:∀f,Lb f=true->∃fn body,F[f]? =some fn/\fn.body=some body/\okCode (okOper P Lb Gb) body=true/\(fn.name== "runtime.NumGoroutine")=false
section
variable {P:Program} {F:Array Func} {Z:Nat->Prop} {Lb Gb:Nat->Bool} {s:Nat}
theorem enter_okF(S:SysF P F Z Lb Gb)(hs:Lb s=false){f:FuncId}(hf:Lb f=true){args:Array Value}(ha:∀v∈args,Av Z (lk Lb (okOper P Lb Gb)) v):
  FOk Z Lb (okOper P Lb Gb) s (Frame.enter (sw P F) f args .normal)/\(Frame.enter (sw P F) f args .normal).mode= .run:=by
 obtain⟨fn,body,h2,h3,h4,h5⟩:=S.fn f hf
 have e:Frame.enter (sw P F) f args .normal={fn:=f,tmps:=args++Array.replicate (fn.ntmps-args.size) undef,todo:= [.code body],defers:= [],mode:= .run,kind:= .normal}:=by
  simp [Frame.enter,h2,h3]
 rw [e]
 refine⟨⟨rfl,by simp,by simp,hf,fun _ x=> ?_,fun v hv=> ?_,fun i hi=> ?_,fun _=>rfl⟩,rfl⟩
 ·simp only at x;rw [x,hs]at hf;cases hf
 ·rcases Array.mem_append.1 hv with m|m
  ·exact ha v m
  ·rw [Array.mem_replicate]at m
   exact m.2▸av_undef
 ·simp only [List.mem_singleton]at hi
  subst hi
  exact⟨h4,trivial⟩
end
theorem ok_noDefer{P:Program}{Lb Gb:Nat->Bool}{o:Oper}(h:okOper P Lb Gb o=true):∀c,o.op≠ .defer c:=by
 intro c e
 unfold okOper at h
 rw [e]at h
 simp [opOk,callOk,extOk]at h
theorem yield_exec(o:Oper){f:Operand}{args:Array Operand}{ats:Array TypeId}(ho:o.op= .call {callee:= .value f,args,argTypes:=ats})(ρ:Operand->Value){l:Nat}(hv:ρ f= .func (.yield l) #[] #[]):
  execOp ρ o=Instr.yield l (#[]++args.map ρ):=by
 unfold execOp
 rw [ho]
 simp only [resolve,hv,Deferred.ofValue]
 rfl
def PanOk(Z:Nat->Prop)(fn:FuncId)(fr:Frame):Prop:=(∃ch,fr.mode= .panicking ch)/\fr.fn=fn/\∀d∈fr.defers,∃r,d={target:= .collected r,args:= #[]}/\¬ Z r
theorem panOk_raise{Z:Nat->Prop}{Lb:Nat->Bool}{ok:Oper->Bool}{s:Nat}{fr:Frame}(h:FOk Z Lb ok s fr)(hm:fr.mode= .run)(ch:List PanicEntry):PanOk Z fr.fn (fr.raise ch):=
 ⟨⟨ch,by simp [Frame.raise,hm]⟩,by simp [Frame.raise,hm],by simpa [Frame.raise,hm]using h.defers⟩
structure SemStep(P:Program)(F:Array Func)(Lb Gb:Nat->Bool)(s:Nat)(Pr:Program->Prop)(fr:Frame)(cs:List Frame){α:Type}(sem:Sem α)(Q:(Nat->Prop)->α->Prop)(R:α->Frame)(C:α->List Frame):Prop where
 hyg:∀Z,(∀g,Gb g=true->¬ Z g)->¬ Z P.globals.size->FOk Z Lb (okOper P Lb Gb) s fr->Hyg P (sw P F) Z (lk Lb (okOper P Lb Gb)) (Q Z) sem
 next:∀Z a,(∀g,Gb g=true->¬ Z g)->¬ Z P.globals.size->FOk Z Lb (okOper P Lb Gb) s fr->(∀c∈cs,FOk Z Lb (okOper P Lb Gb) s c/\c.mode= .run)->Q Z a->FOk Z Lb (okOper P Lb Gb) s (R a)/\(∀c∈C a,FOk Z Lb (okOper P Lb Gb) s c/\c.mode= .run)/\((R a).mode= .run∨(R a).mode= .returning)
 ok:∀Pg,Pr Pg->∀ (main:Bool) (tl:List Frame) (w:World) (a:α) (w':World),(∃Z,Q Z a)->sem.run Pg w= .ok a w'->∃es,stepG Pg main (G fr (cs++tl)) w= .go (G (R a) (C a++tl)) w' es/\∀e∈es,e∈sem.events Pg w #[]
 bad:∀Z,(∀g,Gb g=true->¬ Z g)->¬ Z P.globals.size->FOk Z Lb (okOper P Lb Gb) s fr->∀ (tl:List Frame) (w:World) (h:Halt) (w':World),AvW Z (lk Lb (okOper P Lb Gb)) w->HaltOk h->sem.run (sw P F) w= .halt h w'->
  (∃fr2 es,stepG (sw P F) true (G fr (cs++tl)) w= .go (G fr2 (cs++tl)) w' es/\PanOk Z fr.fn fr2)∨∃oc w'' es,stepG (sw P F) true (G fr (cs++tl)) w= .ended oc w'' es
section
variable {P:Program} {F:Array Func} {Lb Gb:Nat->Bool} {s:Nat} {Pr:Program->Prop} {fr:Frame} {cs:List Frame}
theorem sem_begin{l:Nat}{k:List Item}(hm:fr.mode= .run)(hk:fr.kind= .normal)(hr:fr.roundOf=some l)(ht:fr.todo= .beginRound :: k):
  SemStep P F Lb Gb s Pr fr cs (Instr.beginRound l) (fun _ _=>True) (fun _=>{fr with todo:=k}) (fun _=>cs):=by
 have e:∀ (Pg:Program) (main:Bool) (tl:List Frame) (w:World),stepG Pg main (G fr (cs++tl)) w=stepG.apply Pg true fr (cs++tl) none (do Instr.beginRound l;pure .skip) w:=by
  intro Pg main tl w
  obtain⟨fn,tmps,todo,defers,mode,kind,roundOf⟩:=fr
  simp only at hm hk hr ht
  subst hm hk hr ht
  simp [G,stepG,stepG.exec]
 have hfin:fr.finish undef={fr with todo:=k}:=by simp [Frame.finish,ht]
 refine⟨fun Z hG hZ hf=>hyg_beginRound (hf.round l hr) hZ,fun Z a hG hZ hf hcs _=>⟨hf.lay fun i hi=>hf.todo i (by rw [ht];simp [hi]),hcs,.inl hm⟩,fun Pg _ main tl w a w' _ h=>⟨seen Pg fr.fn ((Instr.beginRound l).events Pg w #[]), ?_,fun e he=>mem_seen he⟩,fun Z hG hZ hf tl w h w' _ hh h2=> ?_⟩
 ·rw [e,apply_skip hk (w':=w') (by simp [h]),hfin]
  simp
 ·rw [e]
  by_cases hp:∃x,h= .panic x
  ·obtain⟨x,rfl⟩:=hp
   obtain⟨es,h3⟩:=apply_panic (cs:=cs++tl) (s:=(do Instr.beginRound l;pure .skip)) (Pg:=sw P F) (w:=w) (w':=w') (x:=x) hk (by simp [h2])
   exact .inl ⟨_,es,h3,panOk_raise hf hm _⟩
  ·exact .inr (apply_stop hk (h:=h) (w':=w') (by simp [h2]) hh fun x e=>hp ⟨x,e⟩)
def jumpOf:List Item->Option (Option Code)
 | []=>some none
 | .code .ret :: _=>some (some .ret)
 | .code (.exit id) :: k=>if exitTo id k=none then some (some (.exit id))else none
 |_=>none
theorem sem_leave{l:Nat}{j:Option Code}{c:Frame}(hm:fr.mode= .run)(hk:fr.kind= .normal)(hr:fr.roundOf=some l)(hj:jumpOf fr.todo=some j):
  SemStep P F Lb Gb s Pr fr (c :: cs) (Instr.endRound l j) (fun Z v=>Av Z (lk Lb (okOper P Lb Gb)) v) (fun v=>c.finish v) (fun _=>cs):=by
 have e:∀ (Pg:Program) (main:Bool) (tl:List Frame) (w:World),stepG Pg main (G fr (c :: cs++tl)) w=GStep.after (seen Pg fr.fn ((Instr.endRound l j).runT Pg w #[]).2) (match((Instr.endRound l j).runT Pg w #[]).1 with
   | .ok v w=>doReturn Pg main fr (c :: cs++tl) none v w
   | .halt _ w=> .ended (.stuck "range over a function: no such loop" (fr.pos Pg)) w):=by
  intro Pg main tl w
  obtain⟨fn,tmps,todo,defers,mode,kind,roundOf⟩:=fr
  simp only at hm hk hr hj
  subst hm hk hr
  unfold jumpOf at hj
  split at hj
  ·cases hj;simp [G,stepG,stepG.exec];rfl
  ·cases hj;simp [G,stepG,stepG.exec];rfl
  ·split at hj
   ·next he=>cases hj;simp [G,stepG,stepG.exec,he];rfl
   ·cases hj
  ·cases hj
 have hjc:∀x,j=some x->okCode (okOper P Lb Gb) x=true:=by
  intro x hx
  subst hx
  unfold jumpOf at hj
  split at hj
  ·cases hj
  ·cases hj;rfl
  ·split at hj
   ·cases hj;rfl
   ·cases hj
  ·cases hj
 refine⟨fun Z hG hZ hf=>hyg_endRound (hf.round l hr) hjc,fun Z a hG hZ hf hcs ha=>⟨(hcs c (by simp)).1.finish ha,fun x hx=>hcs x (by simp [hx]),.inl ?_⟩,fun Pg _ main tl w a w' _ h=>⟨seen Pg fr.fn ((Instr.endRound l j).events Pg w #[]), ?_,fun e he=>mem_seen he⟩,fun Z hG hZ hf tl w h w' _ hh h2=> .inr ?_⟩
 ·have:=(hcs c (by simp)).2
  unfold Frame.finish
  split <;> exact this
 ·rw [e,Sem.runT_eq]
  simp [h,doReturn,hk,GStep.after,G]
 ·rw [e,Sem.runT_eq]
  simp [h2,GStep.after]
theorem sem_end{l:Nat}{k:List Item}(hm:fr.mode= .run)(hk:fr.kind= .normal)(ht:fr.todo= .endRangeFunc l :: k):
  SemStep P F Lb Gb s Pr fr cs (Instr.endLoop l) (fun _ j=>∀c,j=some c->okCode (okOper P Lb Gb) c=true) (fun j=>{fr with todo:=(j.map Item.code).toList++k}) (fun _=>cs):=by
 have e:∀ (Pg:Program) (main:Bool) (tl:List Frame) (w:World),stepG Pg main (G fr (cs++tl)) w=GStep.after (seen Pg fr.fn ((Instr.endLoop l).runT Pg w #[]).2) (match((Instr.endLoop l).runT Pg w #[]).1 with
   | .ok j w=> .go (G {fr with todo:=(j.map Item.code).toList++k} (cs++tl)) w
   | .halt (.panic v) w=> .go (G (fr.raise [{v,recovered:=false}]) (cs++tl)) w
   | .halt _ w=> .ended (.stuck "range over a function: no such loop" (fr.pos Pg)) w):=by
  intro Pg main tl w
  obtain⟨fn,tmps,todo,defers,mode,kind,roundOf⟩:=fr
  simp only at hm hk ht
  subst hm hk ht
  simp [G,stepG,stepG.exec]
  rfl
 refine⟨fun Z hG hZ hf=>hyg_endLoop (hf.todo (.endRangeFunc l) (by rw [ht];simp)).2 hZ,fun Z j hG hZ hf hcs hj=>⟨hf.lay fun i hi=> ?_,hcs,.inl hm⟩,fun Pg _ main tl w a w' _ h=>⟨seen Pg fr.fn ((Instr.endLoop l).events Pg w #[]), ?_,fun e he=>mem_seen he⟩,fun Z hG hZ hf tl w h w' _ hh h2=> ?_⟩
 ·rcases List.mem_append.1 hi with m|m
  ·cases j with
   |none=>simp at m
   |some c=>simp only [Option.map_some,Option.toList_some,List.mem_singleton]at m;subst m;exact⟨hj c rfl,trivial⟩
  ·exact hf.todo i (by rw [ht];simp [m])
 ·rw [e,Sem.runT_eq]
  simp [h,GStep.after]
 ·rw [e,Sem.runT_eq]
  cases hh with
  |panic x=>exact .inl ⟨_,_,by simp [h2,GStep.after];exact⟨rfl,rfl⟩,panOk_raise hf hm _⟩
  |_=>exact .inr (by simp [h2,GStep.after])
theorem sem_defer{r:Nat}{ds:List Deferred}(hm:fr.mode= .returning)(hd:fr.defers={target:= .collected r,args:= #[]} :: ds)(hz:∀Z,FOk Z Lb (okOper P Lb Gb) s fr->¬ Z r):
  SemStep P F Lb Gb s Pr fr cs (Instr.takeDeferred r) (fun _ d=>d= []) (fun d=>{fr with defers:=d++ds}) (fun _=>cs):=by
 have e:∀ (Pg:Program) (main:Bool) (tl:List Frame) (w:World),stepG Pg main (G fr (cs++tl)) w=GStep.after (seen Pg fr.fn ((Instr.takeDeferred r).runT Pg w #[]).2) (match((Instr.takeDeferred r).runT Pg w #[]).1 with
   | .ok d w=> .go (G {fr with defers:=d++ds} (cs++tl)) w
   | .halt _ w=> .ended (.stuck "the deferred calls of a range-over-func loop have been taken" (fr.pos Pg)) w):=by
  intro Pg main tl w
  obtain⟨fn,tmps,todo,defers,mode,kind,roundOf⟩:=fr
  simp only at hm hd
  subst hm hd
  simp [G,stepG,unwind]
  rfl
 refine⟨fun Z hG hZ hf=>hyg_takeDeferred (hz Z hf),fun Z d hG hZ hf hcs hj=>⟨?_,hcs,.inr hm⟩,fun Pg _ main tl w a w' _ h=>⟨seen Pg fr.fn ((Instr.takeDeferred r).events Pg w #[]), ?_,fun e he=>mem_seen he⟩,fun Z hG hZ hf tl w h w' _ hh h2=> .inr ?_⟩
 ·subst hj
  refine⟨hf.kind,hf.round,fun x hx=>hf.defers x ?_,hf.fn,hf.notSat,hf.tmps,hf.todo,hf.ret⟩
  rw [hd]
  simpa using .inr hx
 ·rw [e,Sem.runT_eq]
  simp [h,GStep.after]
 ·rw [e,Sem.runT_eq]
  simp [h2,GStep.after]
theorem sem_yield{ops:Array Oper}{i:Nat}{rest:List Nat}{k:List Item}{o:Oper}{f:Operand}{args:Array Operand}{ats:Array TypeId}{l:Nat}(hm:fr.mode= .run)(hk:fr.kind= .normal)(hn:∀c,o.op≠ .defer c)(ht:fr.todo= .inRegion ops (i :: rest) :: k)(ho:ops[i]? =some o)
  (hw:Region.wanted o (yielded ops fr.tmps)=true) (hop:o.op= .call {callee:= .value f,args,argTypes:=ats}) (hv:fr.eval f= .func (.yield l) #[] #[]) (hz:∀Z,(∀g,Gb g=true->¬ Z g)->FOk Z Lb (okOper P Lb Gb) s fr->¬ Z l)
  (ha:∀Z,(∀g,Gb g=true->¬ Z g)->FOk Z Lb (okOper P Lb Gb) s fr->∀x∈args,Av Z (lk Lb (okOper P Lb Gb)) (fr.eval x)):
  SemStep P F Lb Gb s Pr fr cs (Instr.yield l (#[]++args.map fr.eval)) (fun Z=>NextR Z (lk Lb (okOper P Lb Gb))) (fun n=>match n with| .round l f t a b=>Frame.round l f t a b .normal|_=>fr) (fun _=>fr :: cs):=by
 have e:∀ (Pg:Program) (main:Bool) (tl:List Frame) (w:World),stepG Pg main (G fr (cs++tl)) w=stepG.apply Pg true fr (cs++tl) none (Instr.yield l (#[]++args.map fr.eval)) w:=by
  intro Pg main tl w
  rw [oper_apply hm hn ht ho hw,yield_exec o hop fr.eval hv]
 have hform:∀ (Pg:Program) (w:World) (n:Next) (w':World),(Instr.yield l (#[]++args.map fr.eval)).run Pg w= .ok n w'->∃l f t a b,n= .round l f t a b:=by
  intro Pg w n w' h
  unfold Instr.yield at h
  simp only [Sem.run_bind]at h
  cases h1:(Instr.getLoop l).run Pg w with
  |halt hh w1=>rw [h1]at h;cases h
  |ok r w1=>
   rw [h1]at h
   simp only [Result.andThen_ok]at h
   split at h
   ·cases h
   ·cases h;exact⟨_,_,_,_,_,rfl⟩
 refine⟨fun Z hG hZ hf=> ?_,fun Z n hG hZ hf hcs hq=> ?_,fun Pg _ main tl w n w' _ h=>⟨seen Pg fr.fn ((Instr.yield l (#[]++args.map fr.eval)).events Pg w #[]), ?_,fun e he=>mem_seen he⟩,fun Z hG hZ hf tl w h w' _ hh h2=> ?_⟩
 ·exact hyg_yield (hz Z hG hf) (fun v hv=>by
   simp only [Array.empty_append,Array.mem_map]at hv
   obtain⟨x,hx,rfl⟩:=hv
   exact ha Z hG hf x hx)
 ·obtain⟨l',f',t,a,b,rfl,q1,q2,q3,q4,q5⟩:=hq
  refine⟨⟨rfl,fun x hx=> ?_,by simp [Frame.round],q2,fun hx=>by simp [Frame.round]at hx,q3,fun i hi=> ?_,fun hx=>by simp [Frame.round]at hx⟩,fun c hc=> ?_,.inl rfl⟩
  ·simp only [Frame.round,Option.some.injEq]at hx
   subst hx
   exact q1
  ·simp only [Frame.round,List.mem_cons,List.not_mem_nil,or_false]at hi
   rcases hi with rfl|rfl|rfl
   ·exact⟨q4,trivial⟩
   ·exact⟨rfl,trivial⟩
   ·exact⟨q5,trivial⟩
  ·rcases List.mem_cons.1 hc with rfl|hc
   ·exact⟨hf,hm⟩
   ·exact hcs c hc
 ·obtain⟨l',f',t,a,b,rfl⟩:=hform Pg w n w' h
  rw [e,apply_round hk h]
  rfl
 ·rw [e]
  by_cases hp:∃x,h= .panic x
  ·obtain⟨x,rfl⟩:=hp
   obtain⟨es,h3⟩:=apply_panic (cs:=cs++tl) hk h2
   exact .inl ⟨_,es,h3,panOk_raise hf hm _⟩
  ·exact .inr (apply_stop hk h2 hh fun x e=>hp ⟨x,e⟩)
def callSem(v:Value)(l:Nat):Sem Next:=do
 let d←Deferred.ofValue v #[.func (.yield l) #[] #[]]
 invoke d.target d.args
def rangeFr(fr:Frame)(k:List Item)(x:Nat×List Deferred):Frame:={fr with todo:= .inRangeFunc x.1 :: k,defers:=x.2++fr.defers}
theorem range_eq{f:Operand}{ps:Array Tmp}{a b:Code}{k:List Item}(hm:fr.mode= .run)(ht:fr.todo= .code (.rangeFunc f ps a b) :: k)(Pg:Program)(main:Bool)(tl:List Frame)(w:World):
  stepG Pg main (G fr tl) w=GStep.after (seen Pg fr.fn ((Instr.enterLoop fr.fn fr.tmps ps a b fr.roundOf).events Pg w #[])) (match(Instr.enterLoop fr.fn fr.tmps ps a b fr.roundOf).run Pg w with
   | .ok x w1=>stepG.apply Pg true (rangeFr fr k x) tl none (callSem (fr.eval f) x.1) w1
   | .halt _ w=> .ended (.stuck "range over a function: no such loop" (fr.pos Pg)) w):=by
 obtain⟨fn,tmps,todo,defers,mode,kind,roundOf⟩:=fr
 simp only at hm ht
 subst hm ht
 simp only [G,stepG,stepG.exec,Sem.runT_eq]
 cases (Instr.enterLoop fn tmps ps a b roundOf).run Pg w with
 |halt h w1=>rfl
 | ok x w1=>
  obtain⟨l,mark⟩:=x
  have e:(do let d←resolve ({fn,tmps,todo:= .inRangeFunc l :: k,defers:=mark++defers,mode:= .run,kind,roundOf}:Frame).eval {callee:= .value f,args:= #[.const (.func (.yield l) #[] #[])],argTypes:= #[]} 0;invoke d.target d.args)=
    callSem (({fn,tmps,todo:= .code (.rangeFunc f ps a b) :: k,defers,mode:= .run,kind,roundOf}:Frame).eval f) l:=by
   unfold callSem
   simp only [resolve]
   cases f <;> simp [Frame.eval]
  simp only [e]
  rfl
theorem rangeFr_ok{Z:Nat->Prop}{f:Operand}{ps:Array Tmp}{a b:Code}{k:List Item}(hf:FOk Z Lb (okOper P Lb Gb) s fr)(ht:fr.todo= .code (.rangeFunc f ps a b) :: k){x:Nat×List Deferred}(hx:¬ Z x.1/\∀d∈x.2,∃r,d={target:= .collected r,args:= #[]}/\¬ Z r):
  FOk Z Lb (okOper P Lb Gb) s (rangeFr fr k x):=by
 refine⟨hf.kind,hf.round,fun d hd=> ?_,hf.fn,hf.notSat,hf.tmps,fun i hi=> ?_,hf.ret⟩
 ·rcases List.mem_append.1 hd with m|m
  ·exact hx.2 d m
  ·exact hf.defers d m
 ·simp only [rangeFr,List.mem_cons]at hi
  rcases hi with rfl|hi
  ·exact⟨rfl,hx.1⟩
  ·exact hf.todo i (by rw [ht];simp [hi])
theorem range_code{Z:Nat->Prop}{f:Operand}{ps:Array Tmp}{a b:Code}{k:List Item}(hf:FOk Z Lb (okOper P Lb Gb) s fr)(ht:fr.todo= .code (.rangeFunc f ps a b) :: k):
  ((ps.size≠1/\oprOk Lb Gb f=true)/\okCode (okOper P Lb Gb) a=true)/\okCode (okOper P Lb Gb) b=true:=by
 have h:=(hf.todo _ (by rw [ht];exact List.mem_cons_self ..)).1
 simp only [okItem,okCode,Bool.and_eq_true]at h
 refine⟨⟨⟨by simpa using h.1.1.1, ?_⟩,h.1.2⟩,h.2⟩
 have h1:=h.1.1.2
 unfold okOper at h1
 simpa [opOk,callOk,extOk,tyOk,Op.operands]using h1
theorem hyg_range{Z:Nat->Prop}{f:Operand}{ps:Array Tmp}{a b:Code}{k:List Item}(hf:FOk Z Lb (okOper P Lb Gb) s fr)(ht:fr.todo= .code (.rangeFunc f ps a b) :: k):
  Hyg P (sw P F) Z (lk Lb (okOper P Lb Gb)) (fun x=>¬ Z x.1/\∀d∈x.2,∃r,d={target:= .collected r,args:= #[]}/\¬ Z r) (Instr.enterLoop fr.fn fr.tmps ps a b fr.roundOf):=
 hyg_enterLoop (range_code hf ht).1.1.1 hf.fn hf.tmps (range_code hf ht).1.2 (range_code hf ht).2 hf.round
theorem callSem_func{v:Value}{K:FuncId}{xs ys:Array Value}(hv:v= .func (.func K) xs ys){Pg:Program}{fn:Func}{body:Code}(h1:Pg.funcs[K]? =some fn)(h2:fn.body=some body)(h3:(fn.name== "runtime.NumGoroutine")=false)(l:Nat)(w:World):
  (callSem v l).run Pg w= .ok (.enter K (xs++ #[.func (.yield l) #[] #[]]++ys)) w/\(callSem v l).events Pg w #[]= #[]:=by
 have e:callSem v l=callFunc K (xs++ #[.func (.yield l) #[] #[]]++ys):=by
  unfold callSem
  rw [hv]
  rfl
 have h4:¬ fn.name= "runtime.NumGoroutine" :=by simpa using h3
 rw [e]
 constructor
 ·simp [callFunc,h1,h4,h2]
 ·simp [callFunc,h1,h4,h2]
theorem sem_range{f:Operand}{ps:Array Tmp}{a b:Code}{k:List Item}{K:FuncId}{xs ys:Array Value}(hm:fr.mode= .run)(hk:fr.kind= .normal)(ht:fr.todo= .code (.rangeFunc f ps a b) :: k)(hv:fr.eval f= .func (.func K) xs ys)
  (hxy:∀Z,(∀g,Gb g=true->¬ Z g)->FOk Z Lb (okOper P Lb Gb) s fr->(∀v∈xs,Av Z (lk Lb (okOper P Lb Gb)) v)/\∀v∈ys,Av Z (lk Lb (okOper P Lb Gb)) v)
  (hP:∀Pg,Pr Pg->(∃fn body,Pg.funcs[K]? =some fn/\fn.body=some body/\(fn.name== "runtime.NumGoroutine")=false)/\∀args,Frame.enter Pg K args .normal=Frame.enter (sw P F) K args .normal)
  (hE:∀Z,(∀g,Gb g=true->¬ Z g)->¬ Z P.globals.size->∀args:Array Value,(∀v∈args,Av Z (lk Lb (okOper P Lb Gb)) v)->FOk Z Lb (okOper P Lb Gb) s (Frame.enter (sw P F) K args .normal)/\(Frame.enter (sw P F) K args .normal).mode= .run):
  SemStep P F Lb Gb s Pr fr cs (Instr.enterLoop fr.fn fr.tmps ps a b fr.roundOf) (fun Z x=>¬ Z x.1/\∀d∈x.2,∃r,d={target:= .collected r,args:= #[]}/\¬ Z r)
   (fun x=>Frame.enter (sw P F) K (xs++ #[.func (.yield x.1) #[] #[]]++ys) .normal) (fun x=>rangeFr fr k x :: cs):=by
 refine⟨fun Z hG hZ hf=>hyg_range hf ht,fun Z x hG hZ hf hcs hx=> ?_,fun Pg hPg main tl w x w' _ h=> ?_,fun Z hG hZ hf tl w h w' _ hh h2=> .inr ?_⟩
 ·obtain⟨h1,h2⟩:=hxy Z hG hf
  obtain⟨e1,e2⟩:=hE Z hG hZ (xs++ #[.func (.yield x.1) #[] #[]]++ys) (fun v hv=>by
   rcases Array.mem_append.1 hv with m|m
   ·rcases Array.mem_append.1 m with m|m
    ·exact h1 v m
    ·simp only [List.mem_toArray,List.mem_singleton]at m
     exact m▸ .yield hx.1
   ·exact h2 v m)
  refine⟨e1,fun c hc=> ?_,.inl e2⟩
  rcases List.mem_cons.1 hc with rfl|hc
  ·exact⟨rangeFr_ok hf ht hx,hm⟩
  ·exact hcs c hc
 ·obtain⟨⟨fn,body,p1,p2,p3⟩,p4⟩:=hP Pg hPg
  obtain⟨q1,q2⟩:=callSem_func hv p1 p2 p3 x.1 w'
  refine⟨seen Pg fr.fn ((Instr.enterLoop fr.fn fr.tmps ps a b fr.roundOf).events Pg w #[]), ?_,fun e he=>mem_seen he⟩
  rw [range_eq hm ht,h]
  simp only
  rw [apply_enter (fr:=rangeFr fr k x) hk (by intro d r y q k' e;cases e) q1,q2,p4]
  simp [GStep.after,seen_none]
 ·rw [range_eq hm ht,h2]
  exact⟨_,_,_,rfl⟩
theorem sem_rangeBad{f:Operand}{ps:Array Tmp}{a b:Code}{k:List Item}(hm:fr.mode= .run)(hk:fr.kind= .normal)(ht:fr.todo= .code (.rangeFunc f ps a b) :: k)
  (hb:∀Z,(∀g,Gb g=true->¬ Z g)->¬ Z P.globals.size->FOk Z Lb (okOper P Lb Gb) s fr->∀l,¬ Z l->Hyg P (sw P F) Z (lk Lb (okOper P Lb Gb)) (fun _=>False) (callSem (fr.eval f) l)):
  SemStep P F Lb Gb s Pr fr cs (Instr.enterLoop fr.fn fr.tmps ps a b fr.roundOf>>=fun x=>callSem (fr.eval f) x.1) (fun _ _=>False) (fun _=>fr) (fun _=>cs):=by
 refine⟨fun Z hG hZ hf=>Hyg.bind (hyg_range hf ht) fun x hx=>hb Z hG hZ hf x.1 hx.1,fun Z x hG hZ hf hcs hx=>hx.elim,fun Pg hPg main tl w x w' ⟨_,hx⟩ h=>hx.elim,fun Z hG hZ hf tl w h w' ha hh h2=> ?_⟩
 rw [range_eq hm ht]
 simp only [Sem.run_bind]at h2
 cases h1:(Instr.enterLoop fr.fn fr.tmps ps a b fr.roundOf).run (sw P F) w with
 |halt h3 w1=>exact .inr ⟨_,_,_,rfl⟩
 | ok x w1=>
  rw [h1]at h2
  simp only [Result.andThen_ok]at h2
  have hx:=((hyg_range hf ht).sim lkT (w:=w) (v:=w) #[] x w1 ⟨rfl,rfl,rfl,rfl,rfl,fun _ _=>rfl⟩ ha h1).val
  by_cases hp:∃y,h= .panic y
  ·obtain⟨y,rfl⟩:=hp
   obtain⟨es,e⟩:=apply_panic (fr:=rangeFr fr k x) (cs:=cs++tl) hk h2
   refine .inl ⟨_,_,by simp only;rw [e];rfl,panOk_raise (rangeFr_ok hf ht hx) hm _⟩
  ·obtain⟨oc,w2,es,e⟩:=apply_stop (fr:=rangeFr fr k x) (cs:=cs++tl) hk h2 hh fun y e=>hp ⟨y,e⟩
   exact .inr ⟨oc,w2,_,by simp only;rw [e];rfl⟩
theorem hyg_callYield{Z:Nat->Prop}{L:Lk}{l l':Nat}(hl:¬ Z l'):Hyg P (sw P F) Z L (fun _=>False) (callSem (.func (.yield l') #[] #[]) l):=by
 show Hyg P (sw P F) Z L (fun _=>False) (Instr.yield l' (#[]++ #[.func (.yield l) #[] #[]]))
 unfold Instr.yield
 refine Hyg.bind (hyg_getLoop hl) fun r hr=> ?_
 cases hr with
 |loop a0 a1 a2 a3 a4 a5 a6=>
  have e:(#[]++ #[Value.func (.yield l) #[] #[]]).size≠r.params.size:=by simpa using fun e=>a0 e.symm
  show Hyg P (sw P F) Z L _ (if _ then _ else _)
  rw [if_pos e]
  exact hyg_stuck _
end
end
section
open Go Go.Conc
section
variable {P:Program} {F:Array Func} {Z:Nat->Prop} {Lb Gb:Nat->Bool} {sat:Nat}
theorem quiet_mode{fr fr':Frame}(hm:fr.mode= .run)(h:quietNext fr=some fr'):fr'.mode= .run∨fr'.mode= .returning:=by
 unfold quietNext at h
 split at h
 ·split at h
  ·simp only [Option.some.injEq]at h;subst h;exact .inr rfl
  ·cases h
 ·split at h
  ·simp only [Option.some.injEq]at h;subst h;exact .inr rfl
  ·cases h
 all_goals first
  |(simp only [Option.some.injEq]at h;subst h;exact .inl hm)
  |skip
 ·split at h
  ·simp only [Option.some.injEq]at h;subst h;exact .inl hm
  ·cases h
 ·obtain⟨k',_,rfl⟩:=Option.map_eq_some_iff.1 h;exact .inl hm
 ·split at h
  ·cases h
  ·simp only [Option.some.injEq]at h;subst h
   left
   unfold Frame.finish
   split <;> exact hm
 ·cases h
theorem enter_ok(S:Sys P F Z Lb Gb sat){f:FuncId}(hf:Lb f=true)(hs:f≠sat){args:Array Value}(ha:∀v∈args,Av Z (lk Lb (okOper P Lb Gb)) v):
  FOk Z Lb (okOper P Lb Gb) sat (Frame.enter P f args .normal)/\Frame.enter (sw P F) f args .normal=Frame.enter P f args .normal/\(Frame.enter P f args .normal).mode= .run:=by
 obtain⟨fn,body,h1,h2,h3,h4,h5⟩:=S.fn f hf hs
 have e:∀Pg:Program,Pg.funcs[f]? =some fn->Frame.enter Pg f args .normal={fn:=f,tmps:=args++Array.replicate (fn.ntmps-args.size) undef,todo:= [.code body],defers:= [],mode:= .run,kind:= .normal}:=by
  intro Pg hp
  simp [Frame.enter,hp,h3]
 refine⟨?_, ?_, ?_⟩
 ·rw [e P h1]
  refine⟨rfl,by simp,by simp,hf,fun _=>hs,fun v hv=> ?_,fun i hi=> ?_,fun _=>rfl⟩
  ·rcases Array.mem_append.1 hv with m|m
   ·exact ha v m
   ·rw [Array.mem_replicate]at m
    exact m.2▸av_undef
  ·simp only [List.mem_singleton]at hi
   subst hi
   exact⟨h4,trivial⟩
 ·rw [e P h1,e (sw P F) h2]
 ·rw [e P h1]
theorem av_eval{fr:Frame}(hf:∀v∈fr.tmps,Av Z (lk Lb (okOper P Lb Gb)) v)(hG:∀g,Gb g=true->¬ Z g){x:Operand}(hx:oprOk Lb Gb x=true):Av Z (lk Lb (okOper P Lb Gb)) (fr.eval x):=by
 cases x with
 |tmp t=>
  show Av _ _ (fr.tmps.getD t undef)
  rw [Array.getD_eq_getD_getElem?]
  cases e:fr.tmps[t]? with
  |none=>exact av_undef
  |some v=>exact hf v (Array.mem_of_getElem? e)
 |const v=>exact av_of_avB hx
 |global g=>exact .ptr (hG g hx)
 |func f=>exact .func hx (by simp) (by simp)
structure Went(Z:Nat->Prop)(Lb:Nat->Bool)(ok:Oper->Bool)(w w' v1:World)(es:Array Event):Prop where
 rel:Rel Z w' v1
 av:AvW Z (lk Lb ok) v1
 good:∀e∈es,EvGood Z w'.heap.size e
 size:w.heap.size<=w'.heap.size
 hid:∀b,Z b->w'.heap[b]? =w.heap[b]?
theorem Went.still{ok:Oper->Bool}{w v:World}(hr:Rel Z w v)(ha:AvW Z (lk Lb ok) v):Went Z Lb ok w w v #[]:=⟨hr,ha,by simp,Nat.le_refl _,fun _ _=>rfl⟩
def Simmed (P:Program) (F:Array Func) (Z:Nat->Prop) (Lb Gb:Nat->Bool) (sat:Nat) (fr:Frame) (cs tl tl':List Frame) (w:World) (g1:Goroutine) (v1:World) (main:Bool):Prop:=
  ∃ w' es,Went Z Lb (okOper P Lb Gb) w w' v1 es/\
   ((∃fr' cs',g1=G fr' (cs'++tl')/\FOk Z Lb (okOper P Lb Gb) sat fr'/\(∀c∈cs',FOk Z Lb (okOper P Lb Gb) sat c/\c.mode= .run)/\(fr'.mode= .run∨fr'.mode= .returning)/\
     stepG P main (G fr (cs++tl)) w= .go (G fr' (cs'++tl)) w' es)∨
    (∃fr1 args,FOk Z Lb (okOper P Lb Gb) sat fr1/\fr1.mode= .run/\(∀x∈args,Av Z (lk Lb (okOper P Lb Gb)) x)/\g1=G (Frame.enter (sw P F) sat args .normal) (fr1 :: cs++tl')/\
     stepG P main (G fr (cs++tl)) w= .go (G (Frame.enter P sat args .normal) (fr1 :: cs++tl)) w' es))
theorem out_went{α:Type}{Q:α->Prop}{sem:Sem α}{w:World}{a:α}{v':World}(o:Out Z (lk Lb (okOper P Lb Gb)) Q P sem w #[] a v'){es:List Event->Array Event}:Q a/\∃w',sem.run P w= .ok a w'/\∀es:Array Event,(∀e∈es,e∈sem.events P w #[])->Went Z Lb (okOper P Lb Gb) w w' v' es:=by
 obtain⟨o1,⟨w',new,o2,o3,o4,o5,o6⟩,o7⟩:=o
 rw [Sem.runT_eq]at o2
 simp only [Prod.mk.injEq]at o2
 obtain⟨o2a,o2b⟩:=o2
 refine⟨o1,w',o2a,fun es he=>⟨o3,o7,fun e h=> ?_,o5,o6⟩⟩
 have:=he e h
 rw [o2b]at this
 exact o4 e (by simpa using this)
theorem sim_sem(S:Sys P F Z Lb Gb sat){fr:Frame}{cs tl tl':List Frame}{w v:World}{g1:Goroutine}{v1:World}{es1:Array Event}(main:Bool){α:Type}{sem:Sem α}{Q:(Nat->Prop)->α->Prop}{R:α->Frame}{C:α->List Frame}
  (hs:SemStep P F Lb Gb sat (fun Pg=>Pg=P∨Pg=sw P F) fr cs sem Q R C)
  (hf:FOk Z Lb (okOper P Lb Gb) sat fr) (hcs:∀c∈cs,FOk Z Lb (okOper P Lb Gb) sat c/\c.mode= .run)
  (hr:Rel Z w v) (ha:AvW Z (lk Lb (okOper P Lb Gb)) v) (h:stepG (sw P F) true (G fr (cs++tl')) v= .go g1 v1 es1) (hp:∀ch,g1.frame.mode≠ .panicking ch):Simmed P F Z Lb Gb sat fr cs tl tl' w g1 v1 main:=by
 have hH:=hs.hyg Z S.hG S.hZ hf
 cases hrun:sem.run (sw P F) v with
 | halt hh v'=>
  rcases hs.bad Z S.hG S.hZ hf tl' v hh v' ha (hH.halts lkT _ _ ha hrun) hrun with ⟨fr2,es,e,⟨ch,hch⟩,_⟩|⟨oc,w3,es,e⟩
  ·rw [e]at h
   cases h
   exact absurd hch (hp ch)
  ·rw [e]at h
   cases h
 |ok a v'=>
  obtain⟨q,w',r1,r2⟩:=out_went (hH.sim lkT #[] a v' hr ha hrun) (es:=fun _=> #[])
  obtain⟨esF,e1,_⟩:=hs.ok (sw P F) (.inr rfl) true tl' v a v' ⟨Z,q⟩ hrun
  obtain⟨esP,e2,e3⟩:=hs.ok P (.inl rfl) main tl w a w' ⟨Z,q⟩ r1
  rw [e1]at h
  cases h
  obtain⟨n1,n2,n3⟩:=hs.next Z a S.hG S.hZ hf hcs q
  exact⟨w',esP,r2 esP e3,.inl ⟨R a,C a,rfl,n1,n2,n3,e2⟩⟩
theorem step_op (S:Sys P F Z Lb Gb sat) {fr:Frame} {cs tl tl':List Frame} {w v:World} {g1:Goroutine} {v1:World} {es1:Array Event} (main:Bool) {ops:Array Oper} {i:Nat} {rest:List Nat} {k:List Item} {o:Oper}
  (hf:FOk Z Lb (okOper P Lb Gb) sat fr) (hcs:∀c∈cs,FOk Z Lb (okOper P Lb Gb) sat c/\c.mode= .run) (f1:fr.mode= .run) (f3:fr.todo= .inRegion ops (i :: rest) :: k) (ho:ops[i]? =some o) (hwo':Region.wanted o (yielded ops fr.tmps)=true) (hok:okOper P Lb Gb o=true)
  (hr:Rel Z w v) (ha:AvW Z (lk Lb (okOper P Lb Gb)) v) (h:stepG (sw P F) true (G fr (cs++tl')) v= .go g1 v1 es1) (hp:∀ch,g1.frame.mode≠ .panicking ch):
  Simmed P F Z Lb Gb sat fr cs tl tl' w g1 v1 main:=by
 have f2:=ok_noDefer hok
 have plain:Hyg P (sw P F) Z (lk Lb (okOper P Lb Gb)) (NextV Z (lk Lb (okOper P Lb Gb))) (execOp fr.eval o)->Simmed P F Z Lb Gb sat fr cs tl tl' w g1 v1 main:=by
  intro hH
  cases hrun:(execOp fr.eval o).run (sw P F) v with
  |halt hh w''=>
   obtain⟨ch,hch⟩:=halt_step f1 f2 hf.kind f3 ho hwo' hrun (hH.halts lkT _ _ ha hrun) h
   exact absurd hch (hp ch)
  | ok n v'=>
   obtain⟨o1,w',o2a,o2⟩:=out_went (hH.sim lkT #[] n v' hr ha hrun) (es:=fun _=> #[])
   cases n with
   |value x=>
    rw [value_step f1 f2 hf.kind f3 ho hwo' hrun]at h
    cases h
    refine⟨w',_,o2 _ fun e he=>mem_seen he,.inl ⟨fr.finish x,cs,rfl,hf.finish o1,hcs, ?_,value_step f1 f2 hf.kind f3 ho hwo' o2a⟩⟩
    left;unfold Frame.finish;split <;> exact f1
   |skip=>
    rw [skip_step f1 f2 hf.kind f3 ho hwo' hrun]at h
    cases h
    refine⟨w',_,o2 _ fun e he=>mem_seen he,.inl ⟨fr.finish undef,cs,rfl,hf.finish av_undef,hcs, ?_,skip_step f1 f2 hf.kind f3 ho hwo' o2a⟩⟩
    left;unfold Frame.finish;split <;> exact f1
   |_=>exact o1.elim
 have hok':=hok
 unfold okOper at hok'
 simp only [Bool.and_eq_true,Bool.or_eq_true]at hok'
 rcases hok' with ⟨⟨hkind,hty⟩,hops⟩|hext
 rotate_left
 ·exact plain (hyg_ext S.ext S.hG o fr.eval (fun f=>rfl) (fun x hx=>av_eval hf.tmps S.hG hx) hext)
 have hρ:∀x∈o.op.operands,Av Z (lk Lb (okOper P Lb Gb)) (fr.eval x):=fun x hx=>av_eval hf.tmps S.hG (Array.all_eq_true_iff_forall_mem.1 hops x hx)
 by_cases hcall:callOk o.op=true
 ·
  cases hop:o.op with
  | call c=>
   obtain⟨callee,args,ats⟩:=c
   cases callee with
   | value f=>
    have hfo:∀Z,(∀g,Gb g=true->¬ Z g)->FOk Z Lb (okOper P Lb Gb) sat fr->Av Z (lk Lb (okOper P Lb Gb)) (fr.eval f):=fun Z hG hf=>av_eval hf.tmps hG (Array.all_eq_true_iff_forall_mem.1 hops f (by rw [hop];simp [Op.operands,Call.operands]))
    have hao:∀Z,(∀g,Gb g=true->¬ Z g)->FOk Z Lb (okOper P Lb Gb) sat fr->∀x∈args,Av Z (lk Lb (okOper P Lb Gb)) (fr.eval x):=fun Z hG hf x hx=>av_eval hf.tmps hG (Array.all_eq_true_iff_forall_mem.1 hops x (by rw [hop];simp [Op.operands,Call.operands,hx]))
    have havf:=hfo Z S.hG hf
    by_cases hfn:∃fn xs ys,fr.eval f= .func fn xs ys
    ·obtain⟨fn',xs,ys,hv⟩:=hfn
     rw [hv]at havf
     cases havf with
     | @yield l hz=>
      refine sim_sem S main (sem_yield f1 hf.kind f2 f3 ho hwo' hop hv (fun Z hG hf'=> ?_) hao) hf hcs hr ha h hp
      have:=hfo Z hG hf'
      rw [hv]at this
      cases this with
      |yield hz=>exact hz
     | @func K _ _ hK hxs hys=>
     have hargs:∀x∈xs++args.map fr.eval++ys,Av Z (lk Lb (okOper P Lb Gb)) x:=by
      intro x hx
      rcases Array.mem_append.1 hx with m|m
      ·rcases Array.mem_append.1 m with m|m
       ·exact hxs x m
       ·obtain⟨y,hy,rfl⟩:=Array.mem_map.1 m
        exact hao Z S.hG hf y hy
      ·exact hys x m
     by_cases hK':K=sat
     ·subst hK'
      obtain⟨fnP,bodyP,p1,p2,p3⟩:=S.satP
      obtain⟨fnF,bodyF,q1,q2,q3⟩:=S.satF
      obtain⟨r1,r2⟩:=call_run o hop fr.eval hv P p1 p2 p3 w
      obtain⟨s1,s2⟩:=call_run o hop fr.eval hv (sw P F) q1 q2 q3 v
      rw [enter_step f1 f2 hf.kind f3 ho hwo' s1]at h
      cases h
      refine⟨w,#[],.still hr ha,.inr ⟨fr,_,hf,f1,hargs,rfl, ?_⟩⟩
      rw [enter_step f1 f2 hf.kind f3 ho hwo' r1,r2,seen_none]
      rfl
     ·obtain⟨fnK,bodyK,p1,q1,p2,_,p3⟩:=S.fn K hK hK'
      obtain⟨r1,r2⟩:=call_run o hop fr.eval hv P p1 p2 p3 w
      obtain⟨s1,s2⟩:=call_run o hop fr.eval hv (sw P F) q1 p2 p3 v
      obtain⟨e1,e2,e3⟩:=enter_ok S hK hK' hargs
      rw [enter_step f1 f2 hf.kind f3 ho hwo' s1,e2]at h
      cases h
      refine⟨w,#[],.still hr ha,.inl ⟨_,fr :: cs,rfl,e1,fun c hc=> ?_,.inl e3, ?_⟩⟩
      ·rcases List.mem_cons.1 hc with rfl|hc
       ·exact⟨hf,f1⟩
       ·exact hcs c hc
      ·rw [enter_step f1 f2 hf.kind f3 ho hwo' r1,r2,seen_none]
       rfl
    ·obtain⟨hh,w'',b1,b2⟩:=call_bad o hop fr.eval (fun fn xs ys e=>hfn ⟨fn,xs,ys,e⟩) (sw P F) v
     obtain⟨ch,hch⟩:=halt_step f1 f2 hf.kind f3 ho hwo' b1 b2 h
     exact absurd hch (hp ch)
   |_=>rw [hop]at hcall;simp [callOk]at hcall
  |_=>rw [hop]at hcall;simp [callOk]at hcall
 ·exact plain (hyg_op (fun _ h=>h) lkV o fr.eval hρ (hkind.resolve_right hcall) hty)
def AtBase(fr:Frame)(cs:List Frame):Prop:=cs= []/\((fr.mode= .returning/\fr.defers= [])∨(fr.mode= .run/\fr.roundOf≠none/\jumpOf fr.todo≠none))
theorem step_sim (S:Sys P F Z Lb Gb sat) {fr:Frame} {cs tl tl':List Frame} {w v:World} {g1:Goroutine} {v1:World} {es1:Array Event} (main:Bool)
  (hf:FOk Z Lb (okOper P Lb Gb) sat fr) (hcs:∀c∈cs,FOk Z Lb (okOper P Lb Gb) sat c/\c.mode= .run) (hm:fr.mode= .run∨fr.mode= .returning) (hb:¬ AtBase fr cs)
  (hr:Rel Z w v) (ha:AvW Z (lk Lb (okOper P Lb Gb)) v) (h:stepG (sw P F) true (G fr (cs++tl')) v= .go g1 v1 es1) (hp:∀ch,g1.frame.mode≠ .panicking ch):
  Simmed P F Z Lb Gb sat fr cs tl tl' w g1 v1 main:=by
 rcases hm with hm|hm
 ·
  cases hq:quietNext fr with
  |some fr'=>
   have e:=quiet_step hm hq (sw P F) true (cs++tl') v
   rw [e]at h
   cases h
   exact⟨w,#[],.still hr ha,.inl ⟨fr',cs,rfl,hf.quiet hq,hcs,quiet_mode hm hq,quiet_step hm hq P main (cs++tl) w⟩⟩
  | none =>
   have leave:∀j,jumpOf fr.todo=some j->fr.roundOf≠none->Simmed P F Z Lb Gb sat fr cs tl tl' w g1 v1 main:=by
    intro j hj hro
    obtain⟨l,hl⟩:=Option.ne_none_iff_exists'.1 hro
    cases cs with
    |nil=>exact absurd ⟨rfl,.inr ⟨hm,hro,by rw [hj];simp⟩⟩ hb
    |cons c cs=>exact sim_sem S main (sem_leave hm hf.kind hl hj) hf hcs hr ha h hp
   have htodo:=hf.todo
   rcases et:fr.todo with _|⟨it,k⟩
   ·refine leave none (by rw [et];rfl) fun e=> ?_
    simp [quietNext,et,e]at hq
   rw [et]at htodo
   cases it with
   | code c =>
    cases c with
    |ret=>
     refine leave (some .ret) (by rw [et];rfl) fun e=> ?_
     simp [quietNext,et,e]at hq
    | region id ops d=>
     cases d with
     | true=>
      rw [draw_step hm et]at h
      cases h
      refine⟨{w with drawn:=w.drawn+1},#[],⟨hr.draw,ha.draw _,by simp,Nat.le_refl _,fun _ _=>rfl⟩,.inl ⟨_,cs,rfl,hf.lay fun i hi'=> ?_,hcs,.inl hm, ?_⟩⟩
      ·simp only [List.mem_cons]at hi'
       rcases hi' with rfl|hi'
       ·exact⟨(htodo (.code (.region id ops true)) (by simp)).1,trivial⟩
       ·exact htodo i (by simp [hi'])
      ·rw [draw_step hm et,hr.tape,hr.drawn]
     |false=>simp [quietNext,et]at hq
    | cond c a b=>
     exfalso
     have hne:∀x,fr.eval c≠ .bool x:=by
      intro x e
      simp [quietNext,et,e]at hq
     have:∃oc w' es,stepG (sw P F) true (G fr (cs++tl')) v= .ended oc w' es:=by
      obtain⟨fn,tmps,todo,defers,mode,kind,roundOf⟩:=fr
      simp only at hm et
      subst hm et
      exact⟨.stuck "cond: bool expected" (Frame.pos (sw P F) {fn,tmps,todo:= .code (.cond c a b) :: k,defers,mode:= .run,kind,roundOf}),v,#[],by simp only [stepG,stepG.exec,G]⟩
     obtain⟨oc,w',es,e⟩:=this
     rw [e]at h
     cases h
    | exit id=>
     have hex:exitTo id k=none:=by simpa [quietNext,et]using hq
     by_cases hro:fr.roundOf=none
     ·exfalso
      obtain⟨fn,tmps,todo,defers,mode,kind,roundOf⟩:=fr
      simp only at hm et hro
      subst hm et hro
      simp [stepG,stepG.exec,G,hex]at h
     ·exact leave (some (.exit id)) (by rw [et];simp [jumpOf,hex]) hro
    | rangeFunc f ps a b=>
     have hcode:=range_code hf et
     have hav:∀Z,(∀g,Gb g=true->¬ Z g)->FOk Z Lb (okOper P Lb Gb) sat fr->Av Z (lk Lb (okOper P Lb Gb)) (fr.eval f):=fun Z hG hf=>av_eval hf.tmps hG hcode.1.1.2
     have hv:=hav Z S.hG hf
     have bad:(∀Z,(∀g,Gb g=true->¬ Z g)->¬ Z P.globals.size->FOk Z Lb (okOper P Lb Gb) sat fr->∀l,¬ Z l->Hyg P (sw P F) Z (lk Lb (okOper P Lb Gb)) (fun _=>False) (callSem (fr.eval f) l))->Simmed P F Z Lb Gb sat fr cs tl tl' w g1 v1 main:=
      fun hb=>sim_sem S main (sem_rangeBad hm hf.kind et hb) hf hcs hr ha h hp
     cases hfv:fr.eval f with
     | func fn xs ys=>
      cases fn with
      | func K=>
       have hxy:∀Z,(∀g,Gb g=true->¬ Z g)->FOk Z Lb (okOper P Lb Gb) sat fr->(∀v∈xs,Av Z (lk Lb (okOper P Lb Gb)) v)/\∀v∈ys,Av Z (lk Lb (okOper P Lb Gb)) v:=by
        intro Z hG hf
        have:=hav Z hG hf
        rw [hfv]at this
        cases this with
        |func _ h1 h2=>exact⟨h1,h2⟩
       have hK:Lb K=true:=by
        rw [hfv]at hv
        cases hv with
        |func h1 _ _=>exact h1
       by_cases hKs:K=sat
       ·subst hKs
        obtain⟨fnP,bodyP,p1,p2,p3⟩:=S.satP
        obtain⟨fnF,bodyF,q1,q2,q3⟩:=S.satF
        rw [range_eq hm et]at h
        have hH:=hyg_range (P:=P) (F:=F) (Z:=Z) hf et
        cases hrun:(Instr.enterLoop fr.fn fr.tmps ps a b fr.roundOf).run (sw P F) v with
        |halt hh v'=>rw [hrun]at h;cases h
        | ok x v'=>
         obtain⟨q,w',r1,r2⟩:=out_went (hH.sim lkT #[] x v' hr ha hrun) (es:=fun _=> #[])
         obtain⟨c1,c2⟩:=callSem_func hfv (show(sw P F).funcs[K]? =some fnF from q1) q2 q3 x.1 v'
         obtain⟨d1,d2⟩:=callSem_func hfv p1 p2 p3 x.1 w'
         rw [hrun]at h
         simp only at h
         rw [apply_enter (fr:=rangeFr fr k x) hf.kind (by intro d r y q k' e;cases e) c1,c2]at h
         simp only [GStep.after]at h
         cases h
         refine⟨w',seen P fr.fn ((Instr.enterLoop fr.fn fr.tmps ps a b fr.roundOf).events P w #[]),r2 _ fun e he=>mem_seen he,.inr ⟨rangeFr fr k x,_,rangeFr_ok hf et q,hm, ?_,rfl, ?_⟩⟩
         ·obtain⟨h1,h2⟩:=hxy Z S.hG hf
          intro y hy
          rcases Array.mem_append.1 hy with m|m
          ·rcases Array.mem_append.1 m with m|m
           ·exact h1 y m
           ·simp only [List.mem_toArray,List.mem_singleton]at m
            exact m▸ .yield q.1
          ·exact h2 y m
         ·rw [range_eq hm et,r1]
          simp only
          rw [apply_enter (fr:=rangeFr fr k x) hf.kind (by intro d r y q k' e;cases e) d1,d2]
          simp [GStep.after,seen_none]
       ·obtain⟨fnK,bodyK,p1,q1,p2,p4,p3⟩:=S.fn K hK hKs
        refine sim_sem S main (sem_range hm hf.kind et hfv hxy (fun Pg hPg=> ?_) fun Z hG hZ args hargs=> ?_) hf hcs hr ha h hp
        ·rcases hPg with rfl|rfl
         ·refine⟨⟨fnK,bodyK,p1,p2,p3⟩,fun args=> ?_⟩
          have q1':(sw Pg F).funcs[K]? =some fnK:=q1
          simp [Frame.enter,p1,q1']
         ·exact⟨⟨fnK,bodyK,q1,p2,p3⟩,fun _=>rfl⟩
        ·obtain⟨e1,e2,e3⟩:=enter_ok (⟨hG,hZ,S.ext,S.fn,S.satP,S.satF⟩:Sys P F Z Lb Gb sat) hK hKs hargs
         rw [e2]
         exact⟨e1,e3⟩
      |yield l'=>
       refine bad fun Z hG hZ hf l hl=> ?_
       have:=hav Z hG hf
       rw [hfv]at this⊢
       cases this with
       |yield hz=>exact hyg_callYield hz
      |_=>rw [hfv]at hv;cases hv
     |nilFunc=>
      refine bad fun Z hG hZ hf l hl=> ?_
      rw [hfv]
      show Hyg P (sw P F) Z _ _ (runtimePanic .nilDeref)
      exact hyg_runtimePanic _ hZ
     |_=>
      refine bad fun Z hG hZ hf l hl=> ?_
      rw [hfv]
      exact hyg_stuck _
    |refuse why=>
     exfalso
     obtain⟨fn,tmps,todo,defers,mode,kind,roundOf⟩:=fr
     simp only at hm et
     subst hm et
     simp [stepG,stepG.exec,G]at h
    |goto=>exfalso;have:=(htodo _ (List.mem_cons_self ..)).1;simp [okItem,okCode]at this
    |_=>simp [quietNext,et]at hq
   | inRegion ops l=>
    cases l with
    |nil=>simp [quietNext,et]at hq
    | cons i rest=>
     by_cases hw:((ops[i]?).map (Region.wanted · (yielded ops fr.tmps))).getD false=true
     rotate_left
     ·simp [quietNext,et,hw]at hq
     ·obtain⟨o,ho,hwo⟩:∃o,ops[i]? =some o/\Region.wanted o (yielded ops fr.tmps)=true:=by
       cases e:ops[i]? with
       |none=>rw [e]at hw;simp at hw
       |some o=>rw [e]at hw;exact⟨o,rfl,by simpa using hw⟩
      have hok:okOper P Lb Gb o=true:=by
       have:=(htodo _ (List.mem_cons_self ..)).1
       simp only [okItem]at this
       exact Array.all_eq_true_iff_forall_mem.1 this o (Array.mem_of_getElem? ho)
      exact step_op S main hf hcs hm et ho hwo hok hr ha h hp
   |inRangeFunc l=>
    exfalso
    obtain⟨fn,tmps,todo,defers,mode,kind,roundOf⟩:=fr
    simp only at hm et
    subst hm et
    simp [stepG,stepG.exec,G]at h
   |endRangeFunc l=>exact sim_sem S main (sem_end hm hf.kind et) hf hcs hr ha h hp
   | beginRound=>
    cases hro:fr.roundOf with
    |some l=>exact sim_sem S main (sem_begin hm hf.kind hro et) hf hcs hr ha h hp
    |none=>
     exfalso
     obtain⟨fn,tmps,todo,defers,mode,kind,roundOf⟩:=fr
     simp only at hm et hro
     subst hm et hro
     simp [stepG,stepG.exec,G,stepG.apply,stuck,Sem.run,GStep.after]at h
   |call=>exfalso;have:=(htodo _ (List.mem_cons_self ..)).1;simp [okItem]at this
   |extern=>exfalso;have:=(htodo _ (List.mem_cons_self ..)).1;simp [okItem]at this
   |_=>simp [quietNext,et]at hq
 ·
  cases hd:fr.defers with
  |cons d ds=>
   obtain⟨r,rfl,_⟩:=hf.defers d (by rw [hd];simp)
   refine sim_sem S main (sem_defer hm hd fun Z hf=> ?_) hf hcs hr ha h hp
   obtain⟨r',e,hz⟩:=hf.defers _ (by rw [hd];exact List.mem_cons_self ..)
   cases e
   exact hz
  | nil=>
   cases cs with
   |nil=>exact absurd ⟨rfl,.inl ⟨hm,hd⟩⟩ hb
   | cons c cs=>
    obtain⟨fn,body,h1,h2,_,_,_⟩:=S.fn fr.fn hf.fn (hf.notSat (hf.ret hm))
    have hH:Hyg P (sw P F) Z (lk Lb (okOper P Lb Gb)) (Av Z (lk Lb (okOper P Lb Gb))) (results fn fr.tmps):=hyg_results S.hZ fn hf.tmps
    cases hrun:(results fn fr.tmps).run (sw P F) v with
    |halt hh w''=>
     obtain⟨oc,w3,es3,e3⟩:=leave_halt (Pg:=sw P F) (main:=true) (cs:=(c :: cs)++tl') hm hd (show(sw P F).funcs[fr.fn]? =some fn from h2) hrun
     rw [e3]at h
     cases h
    |ok x v'=>
     rw [List.cons_append,leave_run hm hd hf.kind (show(sw P F).funcs[fr.fn]? =some fn from h2) hrun]at h
     cases h
     obtain⟨o1,w',o2a,o2⟩:=out_went (hH.sim lkT #[] x _ hr ha hrun) (es:=fun _=> #[])
     obtain⟨c1,c2⟩:=hcs c (by simp)
     refine⟨w',_,o2 _ fun e he=>mem_seen he,.inl ⟨c.finish x,cs,rfl,c1.finish o1,fun y hy=>hcs y (by simp [hy]), ?_,leave_run hm hd hf.kind h1 o2a⟩⟩
     left;unfold Frame.finish;split <;> exact c2
end
end
section
open Go Go.Conc
inductive Runs(P:Program)(Q:Goroutine->World->Prop):Nat->Goroutine->World->Prop
 |zero {g:Goroutine} {v:World}:Q g v->Runs P Q 0 g v
 |succ {n:Nat} {g g1:Goroutine} {v v1:World} {es:Array Event}:stepG P true g v= .go g1 v1 es->Runs P Q n g1 v1->Runs P Q (n+1) g v
inductive Wins(P:Program)(Q:Goroutine->World->Prop):Goroutine->World->Prop
 |done {g:Goroutine} {v:World}:Q g v->Wins P Q g v
 |step {g:Goroutine} {v:World}:(∀τ d,∃g1 v1 es,stepG P true g (tp v τ d)= .go g1 v1 es)->(∀τ d g1 v1 es,stepG P true g (tp v τ d)= .go g1 v1 es->Wins P Q g1 v1)->Wins P Q g v
theorem Wins.runs{P:Program}{Q:Goroutine->World->Prop}{g:Goroutine}{v:World}(h:Wins P Q g v):∃n,Runs P Q n g v:=by
 induction h with
 |done h=>exact⟨0,.zero h⟩
 | @step g v hg _ ih=>
  obtain⟨g1,v1,es,h1⟩:=hg v.tape v.drawn
  obtain⟨n,h2⟩:=ih _ _ _ _ _ h1
  exact⟨n+1,.succ h1 h2⟩
structure LocalStep(P:Program)(Q:Goroutine->World->Prop)(g:Goroutine)(v:World)(c:Nat):Prop where
 re:∀τ d,Agree c τ d v.tape v.drawn->∀g1 v1 es,stepG P true g (tp v τ d)= .go g1 v1 es->(∀n,¬ Runs P Q n g1 v1)∨∃v2 es2,stepG P true g v= .go g1 v2 es2/\v1=tp v2 τ (d+c)
section
variable {P:Program} {Q J:Goroutine->World->Prop}
open Classical in
theorem wins_of_runs(hQ:∀g v τ d,Q g v->Q g (tp v τ d))(hJ:∀g v τ d,J g v->J g (tp v τ d))
  (hloc:∀g v,J g v->¬ Q g v->∃c,LocalStep P Q g v c) (hpres:∀g v g1 v1 es,J g v->stepG P true g v= .go g1 v1 es->J g1 v1∨∀n,¬ Runs P Q n g1 v1)
  {g:Goroutine} {v:World} (h0:J g v) (hr:∀τ d,∃n,Runs P Q n g (tp v τ d)):Wins P Q g v:=by
 apply byContradiction
 intro hw
 -- at a state that doesn't win, a tape that leads to no winning state
 have pick:∀s:Goroutine×World,∃x:(Nat->Question->Nat)×Nat,¬ Wins P Q s.1 s.2->∀g1 v1 es,stepG P true s.1 (tp s.2 x.1 x.2)= .go g1 v1 es->¬ Wins P Q g1 v1:=by
  intro s
  by_cases hs:Wins P Q s.1 s.2
  ·exact⟨(fun _ _=>0,0),fun h=>absurd hs h⟩
  ·have:∃τ d,∀g1 v1 es,stepG P true s.1 (tp s.2 τ d)= .go g1 v1 es->¬ Wins P Q g1 v1:=by
    apply byContradiction
    intro hn
    have key:∀τ d,∃g1 v1 es,stepG P true s.1 (tp s.2 τ d)= .go g1 v1 es/\Wins P Q g1 v1:=by
     intro τ d
     apply byContradiction
     intro hn2
     exact hn ⟨τ,d,fun g1 v1 es e w=>hn2 ⟨g1,v1,es,e,w⟩⟩
    refine hs (.step (fun τ d=> ?_) fun τ d g1 v1 es e=> ?_)
    ·obtain⟨g1,v1,es,e,_⟩:=key τ d;exact⟨g1,v1,es,e⟩
    ·obtain⟨g2,v2,es2,e2,hw⟩:=key τ d
     rw [e]at e2
     cases e2
     exact hw
   obtain⟨τ,d,h⟩:=this
   exact⟨(τ,d),fun _=>h⟩
 let X:Goroutine×World->(Nat->Question->Nat)×Nat:=fun s=>Classical.choose (pick s)
 have hX:∀s,¬ Wins P Q s.1 s.2->∀g1 v1 es,stepG P true s.1 (tp s.2 (X s).1 (X s).2)= .go g1 v1 es->¬ Wins P Q g1 v1:=fun s=>Classical.choose_spec (pick s)
 let nx:Goroutine×World->Goroutine×World:=fun s=>match stepG P true s.1 (tp s.2 (X s).1 (X s).2)with
  | .go g1 v1 _=>(g1,v1)
  |_=>s
 let C:Goroutine×World->Nat:=fun s=>if h:∃c,LocalStep P Q s.1 (tp s.2 (X s).1 (X s).2) c then Classical.choose h else 0
 have hC:∀s,J s.1 s.2->¬ Q s.1 s.2->LocalStep P Q s.1 (tp s.2 (X s).1 (X s).2) (C s):=by
  intro s hs hq
  have h:∃c,LocalStep P Q s.1 (tp s.2 (X s).1 (X s).2) c:=hloc _ _ (hJ _ _ _ _ hs) (fun q=>hq (by have:=hQ _ _ s.2.tape s.2.drawn q;rwa [tp_tp,tp_self]at this))
  show LocalStep P Q s.1 (tp s.2 (X s).1 (X s).2) (if h:∃c,LocalStep P Q s.1 (tp s.2 (X s).1 (X s).2) c then Classical.choose h else 0)
  rw [dif_pos h]
  exact Classical.choose_spec h
 let seq:Nat->Goroutine×World:=fun k=>Nat.rec (g,v) (fun _ s=>nx s) k
 let D:Nat->Nat:=fun k=>Nat.rec 0 (fun j n=>n+C (seq j)) k
 have hD:∀k,D (k+1)=D k+C (seq k):=fun k=>rfl
 have hseq:∀k,seq (k+1)=nx (seq k):=fun k=>rfl
 have hmono:∀j k,j<=k->D j<=D k:=by
  intro j k h
  induction h with
  |refl=>exact Nat.le_refl _
  |step _ ih=>exact Nat.le_trans ih (by rw [hD];omega)
 -- the tape that lays the picked ones end to end
 let σ:Nat->Question->Nat:=fun n q=>if h:∃k,D k<=n/\n<D (k+1)then(X (seq (Classical.choose h))).1 ((X (seq (Classical.choose h))).2+(n-D (Classical.choose h))) q else 0
 have hσ:∀k,Agree (C (seq k)) σ (D k) (X (seq k)).1 (X (seq k)).2:=by
  intro k j hj q
  have h:∃m,D m<=D k+j/\D k+j<D (m+1):=⟨k,by omega,by rw [hD];omega⟩
  obtain⟨h1,h2⟩:=Classical.choose_spec h
  have hk:Classical.choose h=k:=by
   rcases Nat.lt_trichotomy (Classical.choose h) k with hl|he|hg
   ·have:=hmono (Classical.choose h+1) k hl
    omega
   ·exact he
   ·have:=hmono (k+1) (Classical.choose h) hg
    rw [hD]at this
    omega
  show(if h:∃m,D m<=D k+j/\D k+j<D (m+1)then _ else _)=_
  rw [dif_pos h]
  rw [hk]
  rw [show D k+j-D k=j by omega]
 have key:∀m k,J (seq k).1 (seq k).2->¬ Wins P Q (seq k).1 (seq k).2->Runs P Q m (seq k).1 (tp (seq k).2 σ (D k))->False:=by
  intro m
  induction m with
  |zero=>
   intro k hj hn hr
   cases hr with
   |zero hq=>exact hn (.done (by have:=hQ _ _ (seq k).2.tape (seq k).2.drawn hq;rwa [tp_tp,tp_self]at this))
  | succ m ih=>
   intro k hj hn hr
   cases hr with
   | @succ _ _ g1 _ v1 es hs hr'=>
    have hq:¬ Q (seq k).1 (seq k).2:=fun q=>hn (.done q)
    obtain⟨v2,es2,e1,e2⟩:=((hC _ hj hq).re σ (D k) (hσ k) g1 v1 es hs).resolve_left fun h=>h _ hr'
    have hn1:=hX _ hn _ _ _ e1
    have hnx:seq (k+1)=(g1,v2):=by
     rw [hseq]
     show(match stepG P true (seq k).1 (tp (seq k).2 (X (seq k)).1 (X (seq k)).2)with| .go g1 v1 _=>(g1,v1)|_=>seq k)=_
     rw [e1]
    rcases hpres _ _ _ _ _ (hJ _ _ _ _ hj) e1 with hj1|hdead
    ·refine ih (k+1) ?_ ?_ ?_
     ·rw [hnx];exact hj1
     ·rw [hnx];exact hn1
     ·rw [hnx,hD]
      subst e2
      exact hr'
    ·rcases hpres _ _ _ _ _ (hJ _ _ _ _ hj) hs with hj1|hdead'
     ·have:=hJ _ _ v2.tape v2.drawn hj1
      rw [e2,tp_tp,tp_self]at this
      refine ih (k+1) ?_ ?_ ?_
      ·rw [hnx];exact this
      ·rw [hnx];exact hn1
      ·rw [hnx,hD]
       subst e2
       exact hr'
     ·exact hdead' _ hr'
 obtain⟨n,hn⟩:=hr σ 0
 exact key n 0 h0 hw hn
end
end
section
open Go Go.Conc
section
variable {P:Program} {F:Array Func} {Z:Nat->Prop} {Lb Gb:Nat->Bool}
inductive Cls(P:Program)(F:Array Func)(Z:Nat->Prop)(Lb Gb:Nat->Bool)(s:Nat)(fr:Frame)(cs:List Frame):Prop
 |still (fr':Frame) (cs':List Frame):FOk Z Lb (okOper P Lb Gb) s fr'->(∀c∈cs',FOk Z Lb (okOper P Lb Gb) s c/\c.mode= .run)->(fr'.mode= .run∨fr'.mode= .returning)->(∀ (tl:List Frame) (w:World),∃es,stepG (sw P F) true (G fr (cs++tl)) w= .go (G fr' (cs'++tl)) w es)->Cls P F Z Lb Gb s fr cs
 |draw (id:Nat) (ops:Array Oper) (k:List Item):fr.mode= .run->fr.todo= .code (.region id ops true) :: k->Cls P F Z Lb Gb s fr cs
 | op (ops:Array Oper) (i:Nat) (rest:List Nat) (k:List Item) (o:Oper):fr.mode= .run->fr.todo= .inRegion ops (i :: rest) :: k->ops[i]? =some o->Region.wanted o (yielded ops fr.tmps)=true->(∀c,o.op≠ .defer c)->
   (∀Z':Nat->Prop,(∀g,Gb g=true->¬ Z' g)->(∀x∈fr.tmps,Av Z' (lk Lb (okOper P Lb Gb)) x)->Hyg P (sw P F) Z' (lk Lb (okOper P Lb Gb)) (NextV Z' (lk Lb (okOper P Lb Gb))) (execOp fr.eval o))->Hyg P (sw P F) Z (lk Lb (okOper P Lb Gb)) (NextV Z (lk Lb (okOper P Lb Gb))) (execOp fr.eval o)->Cls P F Z Lb Gb s fr cs
 |sem {α:Type} (sm:Sem α) (Q:(Nat->Prop)->α->Prop) (R:α->Frame) (C:α->List Frame):SemStep P F Lb Gb s (fun Pg=>Pg=sw P F) fr cs sm Q R C->Cls P F Z Lb Gb s fr cs
 |leave (fn:Func) (c:Frame) (cs':List Frame):fr.mode= .returning->fr.defers= []->cs=c :: cs'->(sw P F).funcs[fr.fn]? =some fn->Hyg P (sw P F) Z (lk Lb (okOper P Lb Gb)) (Av Z (lk Lb (okOper P Lb Gb))) (results fn fr.tmps)->Cls P F Z Lb Gb s fr cs
 |panics (ch:List PanicEntry):fr.mode= .run->(∀ (tl:List Frame) (w:World),∃es,stepG (sw P F) true (G fr (cs++tl)) w= .go (G (fr.raise ch) (cs++tl)) w es)->Cls P F Z Lb Gb s fr cs
 |stops:(∀ (tl:List Frame) (w:World),∃oc w' es,stepG (sw P F) true (G fr (cs++tl)) w= .ended oc w' es)->Cls P F Z Lb Gb s fr cs
theorem cls (S:SysF P F Z Lb Gb) {s:Nat} (hs:Lb s=false) {fr:Frame} {cs:List Frame}
  (hf:FOk Z Lb (okOper P Lb Gb) s fr) (hcs:∀c∈cs,FOk Z Lb (okOper P Lb Gb) s c/\c.mode= .run) (hm:fr.mode= .run∨fr.mode= .returning) (hb:¬ AtBase fr cs):Cls P F Z Lb Gb s fr cs:=by
 rcases hm with hm|hm
 ·cases hq :quietNext fr with
  |some fr'=>exact .still fr' cs (hf.quiet hq) hcs (quiet_mode hm hq) fun tl w=>⟨_,quiet_step hm hq (sw P F) true (cs++tl) w⟩
  | none =>
   have leave:∀j,jumpOf fr.todo=some j->fr.roundOf≠none->Cls P F Z Lb Gb s fr cs:=by
    intro j hj hro
    obtain⟨l,hl⟩:=Option.ne_none_iff_exists'.1 hro
    cases cs with
    |nil=>exact absurd ⟨rfl,.inr ⟨hm,hro,by rw [hj];simp⟩⟩ hb
    |cons c cs=>exact .sem _ _ _ _ (sem_leave hm hf.kind hl hj)
   have htodo:=hf.todo
   rcases et:fr.todo with _|⟨it,k⟩
   ·refine leave none (by rw [et];rfl) fun e=> ?_
    simp [quietNext,et,e]at hq
   rw [et]at htodo
   cases it with
   | code c=>
    cases c with
    |ret=>
     refine leave (some .ret) (by rw [et];rfl) fun e=> ?_
     simp [quietNext,et,e]at hq
    |region id ops d=>
     cases d with
     |true=>exact .draw id ops k hm et
     |false=>simp [quietNext,et]at hq
    | cond c a b=>
     have hne:∀x,fr.eval c≠ .bool x:=by
      intro x e
      simp [quietNext,et,e]at hq
     refine .stops fun tl w=> ?_
     obtain⟨fn,tmps,todo,defers,mode,kind,roundOf⟩:=fr
     simp only at hm et
     subst hm et
     exact⟨.stuck "cond: bool expected" (Frame.pos (sw P F) {fn,tmps,todo:= .code (.cond c a b) :: k,defers,mode:= .run,kind,roundOf}),w,#[],by simp only [stepG,stepG.exec,G]⟩
    | exit id=>
     have hex:exitTo id k=none:=by simpa [quietNext,et]using hq
     by_cases hro:fr.roundOf=none
     ·refine .stops fun tl w=> ?_
      obtain⟨fn,tmps,todo,defers,mode,kind,roundOf⟩:=fr
      simp only at hm et hro
      subst hm et hro
      exact⟨_,_,_,by simp [stepG,stepG.exec,G,hex];exact⟨rfl,rfl,rfl⟩⟩
     ·exact leave (some (.exit id)) (by rw [et];simp [jumpOf,hex]) hro
    | rangeFunc f ps a b=>
     have hcode:=range_code hf et
     have hav:∀Z,(∀g,Gb g=true->¬ Z g)->FOk Z Lb (okOper P Lb Gb) s fr->Av Z (lk Lb (okOper P Lb Gb)) (fr.eval f):=fun Z hG hf=>av_eval hf.tmps hG hcode.1.1.2
     have hv:=hav Z S.hG hf
     have bad:(∀Z,(∀g,Gb g=true->¬ Z g)->¬ Z P.globals.size->FOk Z Lb (okOper P Lb Gb) s fr->∀l,¬ Z l->Hyg P (sw P F) Z (lk Lb (okOper P Lb Gb)) (fun _=>False) (callSem (fr.eval f) l))->Cls P F Z Lb Gb s fr cs:=
      fun hb=> .sem _ _ _ _ (sem_rangeBad hm hf.kind et hb)
     cases hfv:fr.eval f with
     | func fn xs ys=>
      cases fn with
      | func K=>
       have hxy:∀Z,(∀g,Gb g=true->¬ Z g)->FOk Z Lb (okOper P Lb Gb) s fr->(∀v∈xs,Av Z (lk Lb (okOper P Lb Gb)) v)/\∀v∈ys,Av Z (lk Lb (okOper P Lb Gb)) v:=by
        intro Z hG hf
        have:=hav Z hG hf
        rw [hfv]at this
        cases this with
        |func _ h1 h2=>exact⟨h1,h2⟩
       have hK:Lb K=true:=by
        rw [hfv]at hv
        cases hv with
        |func h1 _ _=>exact h1
       obtain⟨fnK,bodyK,q1,p2,p4,p3⟩:=S.fn K hK
       refine .sem _ _ _ _ (sem_range hm hf.kind et hfv hxy (fun Pg hPg=> ?_) fun Z hG hZ args hargs=>enter_okF (⟨hG,hZ,S.ext,S.fn⟩:SysF P F Z Lb Gb) hs hK hargs)
       subst hPg
       exact⟨⟨fnK,bodyK,q1,p2,p3⟩,fun _=>rfl⟩
      |yield l'=>
       refine bad fun Z hG hZ hf l hl=> ?_
       have:=hav Z hG hf
       rw [hfv]at this⊢
       cases this with
       |yield hz=>exact hyg_callYield hz
      |_=>rw [hfv]at hv;cases hv
     |nilFunc=>
      refine bad fun Z hG hZ hf l hl=> ?_
      rw [hfv]
      show Hyg P (sw P F) Z _ _ (runtimePanic .nilDeref)
      exact hyg_runtimePanic _ hZ
     |_=>
      refine bad fun Z hG hZ hf l hl=> ?_
      rw [hfv]
      exact hyg_stuck _
    |refuse why=>
     refine .stops fun tl w=> ?_
     obtain⟨fn,tmps,todo,defers,mode,kind,roundOf⟩:=fr
     simp only at hm et
     subst hm et
     exact⟨_,_,_,by simp [stepG,stepG.exec,G];exact⟨rfl,rfl,rfl⟩⟩
    |goto=>exfalso;have:=(htodo _ (List.mem_cons_self ..)).1;simp [okItem,okCode]at this
    |_=>simp [quietNext,et]at hq
   | inRegion ops l=>
    cases l with
    |nil=>simp [quietNext,et]at hq
    | cons i rest=>
     by_cases hw:((ops[i]?).map (Region.wanted · (yielded ops fr.tmps))).getD false=true
     rotate_left
     ·simp [quietNext,et,hw]at hq
     obtain⟨o,ho,hwo'⟩:∃o,ops[i]? =some o/\Region.wanted o (yielded ops fr.tmps)=true:=by
      cases e:ops[i]? with
      |none=>rw [e]at hw;simp at hw
      |some o=>rw [e]at hw;exact⟨o,rfl,by simpa using hw⟩
     have hok:okOper P Lb Gb o=true:=by
      have:=(htodo _ (List.mem_cons_self ..)).1
      simp only [okItem]at this
      exact Array.all_eq_true_iff_forall_mem.1 this o (Array.mem_of_getElem? ho)
     have f2:=ok_noDefer hok
     unfold okOper at hok
     simp only [Bool.and_eq_true,Bool.or_eq_true]at hok
     rcases hok with ⟨⟨hkind,hty⟩,hops⟩|hext
     rotate_left
     ·exact .op ops i rest k o hm et ho hwo' f2 (fun Z' hg ht=>hyg_ext S.ext hg o fr.eval (fun f=>rfl) (fun x hx=>av_eval ht hg hx) hext) (hyg_ext S.ext S.hG o fr.eval (fun f=>rfl) (fun x hx=>av_eval hf.tmps S.hG hx) hext)
     have hρ:∀x∈o.op.operands,Av Z (lk Lb (okOper P Lb Gb)) (fr.eval x):=fun x hx=>av_eval hf.tmps S.hG (Array.all_eq_true_iff_forall_mem.1 hops x hx)
     by_cases hcall:callOk o.op=true
     ·cases hop:o.op with
      | call c=>
       obtain⟨callee,args,ats⟩:=c
       cases callee with
       | value f=>
        have hfo:∀Z,(∀g,Gb g=true->¬ Z g)->FOk Z Lb (okOper P Lb Gb) s fr->Av Z (lk Lb (okOper P Lb Gb)) (fr.eval f):=fun Z hG hf=>av_eval hf.tmps hG (Array.all_eq_true_iff_forall_mem.1 hops f (by rw [hop];simp [Op.operands,Call.operands]))
        have hao:∀Z,(∀g,Gb g=true->¬ Z g)->FOk Z Lb (okOper P Lb Gb) s fr->∀x∈args,Av Z (lk Lb (okOper P Lb Gb)) (fr.eval x):=fun Z hG hf x hx=>av_eval hf.tmps hG (Array.all_eq_true_iff_forall_mem.1 hops x (by rw [hop];simp [Op.operands,Call.operands,hx]))
        by_cases hfn:∃fn xs ys,fr.eval f= .func fn xs ys
        ·obtain⟨fn',xs,ys,hv⟩:=hfn
         have havf:=hfo Z S.hG hf
         rw [hv]at havf
         cases havf with
         | @yield l hz=>
          refine .sem _ _ _ _ (sem_yield hm hf.kind f2 et ho hwo' hop hv (fun Z hG hf'=> ?_) hao)
          have:=hfo Z hG hf'
          rw [hv]at this
          cases this with
          |yield hz=>exact hz
         | @func K _ _ hK hxs hys=>
         have hargs:∀x∈xs++args.map fr.eval++ys,Av Z (lk Lb (okOper P Lb Gb)) x:=by
          intro x hx
          rcases Array.mem_append.1 hx with m|m
          ·rcases Array.mem_append.1 m with m|m
           ·exact hxs x m
           ·obtain⟨y,hy,rfl⟩:=Array.mem_map.1 m
            exact hao Z S.hG hf y hy
          ·exact hys x m
         obtain⟨fnK,bodyK,q1,p2,_,p3⟩:=S.fn K hK
         obtain⟨e1,e3⟩:=enter_okF S hs hK hargs
         refine .still _ (fr :: cs) e1 (fun c hc=> ?_) (.inl e3) fun tl w=> ?_
         ·rcases List.mem_cons.1 hc with rfl|hc
          ·exact⟨hf,hm⟩
          ·exact hcs c hc
         ·obtain⟨s1,_⟩:=call_run o hop fr.eval hv (sw P F) q1 p2 p3 w
          exact⟨_,enter_step hm f2 hf.kind et ho hwo' s1⟩
        ·have e:execOp fr.eval o=(Deferred.ofValue (fr.eval f) (args.map fr.eval)>>=fun d=>invoke d.target d.args):=by
          unfold execOp
          rw [hop]
          simp only [resolve]
         cases hv:fr.eval f with
         |func fn xs ys=>exact absurd ⟨_,_,_,hv⟩ hfn
         |nilFunc=>
          refine .panics [{v:= .iface P.rt.errorString (strVal "invalid memory address or nil pointer dereference"),recovered:=false}] hm fun tl w=> ?_
          exact panic_step hm f2 hf.kind et ho hwo' (by rw [e,hv];rfl)
         |_=>exact .stops fun tl w=>stop_step hm f2 hf.kind et ho hwo' (w':=w) (h:= .stuck "call: function value expected") (by rw [e,hv];rfl) (.stuck _) (by simp)
       |_=>rw [hop]at hcall;simp [callOk]at hcall
      |_=>rw [hop]at hcall;simp [callOk]at hcall
     ·exact .op ops i rest k o hm et ho hwo' f2 (fun Z' hg ht=>hyg_op (fun _ h=>h) lkV o fr.eval (fun x hx=>av_eval ht hg (Array.all_eq_true_iff_forall_mem.1 hops x hx)) (hkind.resolve_right hcall) hty) (hyg_op (fun _ h=>h) lkV o fr.eval hρ (hkind.resolve_right hcall) hty)
   |inRangeFunc l=>
    refine .stops fun tl w=> ?_
    obtain⟨fn,tmps,todo,defers,mode,kind,roundOf⟩:=fr
    simp only at hm et
    subst hm et
    exact⟨_,_,_,by simp [stepG,stepG.exec,G];exact⟨rfl,rfl,rfl⟩⟩
   |endRangeFunc l=>exact .sem _ _ _ _ (sem_end hm hf.kind et)
   | beginRound=>
    cases hro:fr.roundOf with
    |some l=>exact .sem _ _ _ _ (sem_begin hm hf.kind hro et)
    |none=>
     refine .stops fun tl w=> ?_
     obtain⟨fn,tmps,todo,defers,mode,kind,roundOf⟩:=fr
     simp only at hm et hro
     subst hm et hro
     exact⟨_,_,_,by simp [stepG,stepG.exec,G,stepG.apply,stuck,Sem.run,GStep.after];exact⟨rfl,rfl,rfl⟩⟩
   |call=>exfalso;have:=(htodo _ (List.mem_cons_self ..)).1;simp [okItem]at this
   |extern=>exfalso;have:=(htodo _ (List.mem_cons_self ..)).1;simp [okItem]at this
   |_=>simp [quietNext,et]at hq
 ·cases hd:fr.defers with
  |cons d ds=>
   obtain⟨r,rfl,_⟩:=hf.defers d (by rw [hd];simp)
   refine .sem _ _ _ _ (sem_defer hm hd fun Z hf=> ?_)
   obtain⟨r',e,hz⟩:=hf.defers _ (by rw [hd];exact List.mem_cons_self ..)
   cases e
   exact hz
  | nil=>
   cases cs with
   |nil=>exact absurd ⟨rfl,.inl ⟨hm,hd⟩⟩ hb
   |cons c cs=>
    obtain⟨fn,body,h2,_,_,_⟩:=S.fn fr.fn hf.fn
    exact .leave fn c cs hm hd rfl (show(sw P F).funcs[fr.fn]? =some fn from h2) (hyg_results S.hZ fn hf.tmps)
end
end
section
open Go Go.Conc
def bomb(F:Array Func):Frame:={fn:=F.size,tmps:= #[],todo:= [.call default false "fmt's door, shut" #[]],defers:= [],mode:= .run,kind:= .normal}
theorem bomb_done(P:Program)(F:Array Func)(x:Value)(v:World):∃o v' es,stepG (sw P F) true (G ((bomb F).finish x) []) v= .ended o v' es:=by
 have hn:Extern.next "fmt's door, shut" =none:=by rfl
 have h:∃p,stepG (sw P F) true (G ((bomb F).finish x) []) v= .ended (.stuck "no extern row fmt's door, shut" p) v #[]:=by
  simp [stepG,stepG.exec,G,bomb,Frame.finish,hn]
 obtain⟨p,h⟩:=h
 exact⟨_,_,_,h⟩
theorem bomb_panics(P:Program)(F:Array Func)(ch:List PanicEntry)(v:World):∃o v' es,stepG (sw P F) true (G ((bomb F).raise ch) []) v= .ended o v' es:=by
 have hc:((bomb F).raise ch).catches (sw P F)=true:=by
  simp [bomb,Frame.raise,Frame.catches]
 refine⟨.unsupported (.noEntry "a panic or Goexit out of a method that fmt calls behind a cut's door") (((bomb F).raise ch).pos (sw P F)),v,#[], ?_⟩
 have hd:((bomb F).raise ch).defers= []:=rfl
 have hm:((bomb F).raise ch).mode= .panicking ch:=rfl
 simp only [stepG,G,hm,unwind,hd]
 exact if_pos hc
section
variable {P:Program} {F:Array Func} {Z:Nat->Prop} {Lb Gb:Nat->Bool} {s:Nat}
def DefOk(Z:Nat->Prop)(fr:Frame):Prop:=∀d∈fr.defers,∃r,d={target:= .collected r,args:= #[]}/\¬ Z r
inductive Lost(P:Program)(F:Array Func)(Z:Nat->Prop)(Lb Gb:Nat->Bool):Goroutine->World->Prop
 |pan {fr:Frame} {cs:List Frame} {ch:List PanicEntry} {v:World}:fr.mode= .panicking ch->DefOk Z fr->fr.fn<F.size->(∀c∈cs,DefOk Z c/\c.fn<F.size/\c.mode= .run)->AvW Z (lk Lb (okOper P Lb Gb)) v->Lost P F Z Lb Gb (G fr (cs++ [bomb F])) v
 |back (x:Value) (v:World):Lost P F Z Lb Gb (G ((bomb F).finish x) []) v
 |up (ch:List PanicEntry) (v:World):Lost P F Z Lb Gb (G ((bomb F).raise ch) []) v
theorem Lost.step{g:Goroutine}{v:World}(h:Lost P F Z Lb Gb g v):(∃g1 v1 es,stepG (sw P F) true g v= .go g1 v1 es/\Lost P F Z Lb Gb g1 v1/\g1.status= .running)∨∃o v' es,stepG (sw P F) true g v= .ended o v' es:=by
 cases h with
 |back x=>exact .inr (bomb_done P F x v)
 |up ch=>exact .inr (bomb_panics P F ch v)
 | @pan fr cs ch _ hm hd hf hcs ha=>
  cases hdf:fr.defers with
  | cons d ds=>
   obtain⟨r,rfl,hz⟩:=hd d (by rw [hdf];simp)
   have hH:Hyg P (sw P F) Z (lk Lb (okOper P Lb Gb)) (fun d=>d= []) (Instr.takeDeferred r):=hyg_takeDeferred hz
   cases hrun:(Instr.takeDeferred r).run (sw P F) v with
   |halt hh w=>exact .inr (by simp [stepG,G,hm,unwind,hdf,Sem.runT_eq,hrun,GStep.after])
   |ok d w=>
    have o:=hH.sim lkT #[] d w (w:=v) ⟨rfl,rfl,rfl,rfl,rfl,fun _ _=>rfl⟩ ha hrun
    obtain rfl:d= []:=o.val
    refine .inl ⟨G {fr with defers:= []++ds} (cs++ [bomb F]),w,seen (sw P F) fr.fn ((Instr.takeDeferred r).events (sw P F) v #[]), ?_,.pan (ch:=ch) (by exact hm) (fun x hx=>hd x ?_) hf hcs o.av,rfl⟩
    ·simp [stepG,G,hm,unwind,hdf,Sem.runT_eq,hrun,GStep.after]
    ·rw [hdf];simpa using .inr hx
  |nil=>
  left
  have hc:fr.catches (sw P F)=false:=by
   unfold Frame.catches
   have:(sw P F).funcs[fr.fn]? =some F[fr.fn]:=Array.getElem?_eq_getElem hf
   rw [this]
  cases cs with
  |nil=>
   refine⟨G ((bomb F).raise ch) [],v,#[], ?_,.up ch v,rfl⟩
   simp only [List.nil_append,stepG,G,hm,unwind,hdf]
   exact if_neg (by rw [hc];simp)
  | cons c cs=>
   obtain⟨c1,c2,c3⟩:=hcs c (by simp)
   refine⟨G (c.raise ch) (cs++ [bomb F]),v,#[], ?_,.pan (ch:=ch) (by simp [Frame.raise,c3]) ?_ ?_ (fun x hx=>hcs x (by simp [hx])) ha,rfl⟩
   ·simp only [List.cons_append,stepG,G,hm,unwind,hdf]
    exact if_neg (by rw [hc];simp)
   ·unfold DefOk;simp only [Frame.raise];split <;> exact c1
   ·simp only [Frame.raise];split <;> exact c2
def Qb(P:Program)(F:Array Func)(Z:Nat->Prop)(Lb Gb:Nat->Bool)(s:Nat)(Rx:Value->World->Prop)(g:Goroutine)(v:World):Prop:=
 ∃fr fn x,g=G fr [bomb F]/\fr.mode= .returning/\fr.defers= []/\FOk Z Lb (okOper P Lb Gb) s fr/\F[fr.fn]? =some fn/\(results fn fr.tmps).run (sw P F) v= .ok x v/\Rx x v/\AvW Z (lk Lb (okOper P Lb Gb)) v
def Jb(P:Program)(F:Array Func)(Z:Nat->Prop)(Lb Gb:Nat->Bool)(s:Nat)(g:Goroutine)(v:World):Prop:=
 ∃fr cs,g=G fr (cs++ [bomb F])/\FOk Z Lb (okOper P Lb Gb) s fr/\(∀c∈cs,FOk Z Lb (okOper P Lb Gb) s c/\c.mode= .run)/\(fr.mode= .run∨fr.mode= .returning)/\AvW Z (lk Lb (okOper P Lb Gb)) v
theorem Lost.noQ{g:Goroutine}{v:World}(h:Lost P F Z Lb Gb g v):∀fr,g=G fr [bomb F]->fr.mode≠ .returning:=by
 intro fr e hm
 cases h with
 |pan h1=>simp only [G,Goroutine.mk.injEq]at e;rw [e.1,hm]at h1;cases h1
 |back x=>simp [G]at e
 |up ch=>simp [G]at e
theorem Lost.noRuns{Rx:Value->World->Prop}:∀ (n:Nat) {g:Goroutine} {v:World},Lost P F Z Lb Gb g v->∀Z',¬ Runs (sw P F) (Qb P F Z' Lb Gb s Rx) n g v
 |0,g,v,h,Z',hr=>by
  cases hr with
  |zero hq=>obtain⟨fr,fn,x,e,hm,_⟩:=hq;exact h.noQ fr e hm
 | n+1,g,v,h,Z',hr=>by
  cases hr with
  |succ hs hr'=>
   rcases h.step with ⟨g1,v1,es,e,h1,_⟩|⟨o,v',es,e⟩
   ·rw [e]at hs;cases hs;exact Lost.noRuns n h1 Z' hr'
   ·rw [e]at hs;cases hs
theorem lt_of_fn(S:SysF P F Z Lb Gb){f:Nat}(h:Lb f=true):f<F.size:=by
 obtain⟨fn,_,h,_⟩:=S.fn f h
 exact(Array.getElem?_eq_some_iff.1 h).1
theorem lost_of_pan(S:SysF P F Z Lb Gb){fr fr2:Frame}{cs:List Frame}{v:World}(hf:FOk Z Lb (okOper P Lb Gb) s fr)(hcs:∀c∈cs,FOk Z Lb (okOper P Lb Gb) s c/\c.mode= .run)(hp:PanOk Z fr.fn fr2)(ha:AvW Z (lk Lb (okOper P Lb Gb)) v):
  Lost P F Z Lb Gb (G fr2 (cs++ [bomb F])) v:=by
 obtain⟨⟨ch,h1⟩,h2,h3⟩:=hp
 exact .pan (ch:=ch) h1 h3 (by rw [h2];exact lt_of_fn S hf.fn) (fun c hc=>⟨(hcs c hc).1.defers,lt_of_fn S (hcs c hc).1.fn,(hcs c hc).2⟩) ha
theorem sem_jb(S:SysF P F Z Lb Gb){fr:Frame}{cs tl:List Frame}{v:World}{α:Type}{sm:Sem α}{Q:(Nat->Prop)->α->Prop}{R:α->Frame}{C:α->List Frame}
  (hsm:SemStep P F Lb Gb s (fun Pg=>Pg=sw P F) fr cs sm Q R C) (hf:FOk Z Lb (okOper P Lb Gb) s fr) (ha:AvW Z (lk Lb (okOper P Lb Gb)) v):
  (∃a v1 es,stepG (sw P F) true (G fr (cs++tl)) v= .go (G (R a) (C a++tl)) v1 es/\Q Z a/\AvW Z (lk Lb (okOper P Lb Gb)) v1)∨
  (∃fr2 v1 es,stepG (sw P F) true (G fr (cs++tl)) v= .go (G fr2 (cs++tl)) v1 es/\PanOk Z fr.fn fr2/\AvW Z (lk Lb (okOper P Lb Gb)) v1)∨
  ∃o v' es,stepG (sw P F) true (G fr (cs++tl)) v= .ended o v' es:=by
 have hH:=hsm.hyg Z S.hG S.hZ hf
 cases hrun:sm.run (sw P F) v with
 |halt hh v'=>
  rcases hsm.bad Z S.hG S.hZ hf tl v hh v' ha (hH.halts lkT _ _ ha hrun) hrun with ⟨fr2,es,e,h⟩|h
  ·exact .inr (.inl ⟨fr2,v',es,e,h,hH.haltAv lkT _ _ ha hrun⟩)
  ·exact .inr (.inr h)
 |ok a v'=>
  have o:=hH.sim lkT #[] a v' (w:=v) ⟨rfl,rfl,rfl,rfl,rfl,fun _ _=>rfl⟩ ha hrun
  obtain⟨es,e,_⟩:=hsm.ok (sw P F) rfl true tl v a v' ⟨Z,o.val⟩ hrun
  exact .inl ⟨a,v',es,e,o.val,o.av⟩
theorem sem_local(S:SysF P F Z Lb Gb){Rx:Value->World->Prop}{fr:Frame}{cs tl:List Frame}{v:World}{α:Type}{sm:Sem α}{Q:(Nat->Prop)->α->Prop}{R:α->Frame}{C:α->List Frame}
  (hsm:SemStep P F Lb Gb s (fun Pg=>Pg=sw P F) fr cs sm Q R C) (hf:FOk Z Lb (okOper P Lb Gb) s fr) (ha:AvW Z (lk Lb (okOper P Lb Gb)) v)
  (hl:∀fr2 w',PanOk Z fr.fn fr2->AvW Z (lk Lb (okOper P Lb Gb)) w'->Lost P F Z Lb Gb (G fr2 (cs++tl)) w'):∃c,LocalStep (sw P F) (Qb P F Z Lb Gb s Rx) (G fr (cs++tl)) v c:=by
 have hH:=hsm.hyg Z S.hG S.hZ hf
 obtain⟨c,hc⟩:=hH.local lkT v ha
 refine⟨c,⟨fun τ d hg g2 v1 es e=> ?_⟩⟩
 have hre:=hc.re τ d hg
 cases hrun:sm.run (sw P F) v with
 | halt hh v'=>
  rw [hrun]at hre
  have ht:=ha.tp τ d
  rcases hsm.bad Z S.hG S.hZ hf tl _ hh _ ht (hH.halts lkT _ _ ht hre) hre with ⟨fr2,es2,e2,h⟩|⟨o,w2,es2,e2⟩
  ·rw [e2]at e
   cases e
   exact .inl fun n=>(hl fr2 _ h (hH.haltAv lkT _ _ ht hre)).noRuns n _
  ·rw [e2]at e
   cases e
 |ok a v'=>
  rw [hrun]at hre
  have o:=hH.sim lkT #[] a v' (w:=v) ⟨rfl,rfl,rfl,rfl,rfl,fun _ _=>rfl⟩ ha hrun
  obtain⟨es1,e1,_⟩:=hsm.ok (sw P F) rfl true tl v a v' ⟨Z,o.val⟩ hrun
  obtain⟨es2,e2,_⟩:=hsm.ok (sw P F) rfl true tl _ a _ ⟨Z,o.val⟩ hre
  rw [e2]at e
  cases e
  exact .inr ⟨v',es1,e1,rfl⟩
theorem jb_step(S:SysF P F Z Lb Gb)(hs:Lb s=false){g:Goroutine}{v:World}(h:Jb P F Z Lb Gb s g v):
  (∃g1 v1 es,stepG (sw P F) true g v= .go g1 v1 es/\g1.status= .running/\(Jb P F Z Lb Gb s g1 v1∨Lost P F Z Lb Gb g1 v1))∨∃o v' es,stepG (sw P F) true g v= .ended o v' es:=by
 obtain⟨fr,cs,rfl,hf,hcs,hm,ha⟩:=h
 have lostAll:∀ch v',fr.mode= .run->AvW Z (lk Lb (okOper P Lb Gb)) v'->Lost P F Z Lb Gb (G (fr.raise ch) (cs++ [bomb F])) v':=fun ch v' hm ha=>lost_of_pan S hf hcs (panOk_raise hf hm ch) ha
 by_cases hbase:AtBase fr cs
 ·obtain⟨rfl,⟨hm',hd⟩|⟨hm',hro,hj⟩⟩:=hbase
  ·obtain⟨fn,body,h2,_,_,_⟩:=S.fn fr.fn hf.fn
   cases hrun:(results fn fr.tmps).run (sw P F) v with
   |halt hh w''=>exact .inr (leave_halt (main:=true) (cs:= []++ [bomb F]) hm' hd (show(sw P F).funcs[fr.fn]? =some fn from h2) hrun)
   |ok x v'=>exact .inl ⟨_,_,_,leave_run hm' hd hf.kind (show(sw P F).funcs[fr.fn]? =some fn from h2) hrun,rfl,.inr (.back x _)⟩
  ·obtain⟨l,hl⟩:=Option.ne_none_iff_exists'.1 hro
   obtain⟨j,hj⟩:=Option.ne_none_iff_exists'.1 hj
   rcases sem_jb (tl:= []) S (sem_leave (P:=P) (F:=F) (Lb:=Lb) (Gb:=Gb) (s:=s) (Pr:=fun Pg=>Pg=sw P F) (c:=bomb F) (cs:= []) hm' hf.kind hl hj) hf ha with ⟨a,v1,es,e,_,_⟩|⟨fr2,v1,es,e,h,h'⟩|h
   ·exact .inl ⟨_,_,_,e,rfl,.inr (.back a v1)⟩
   ·exact .inl ⟨_,_,_,e,rfl,.inr (lost_of_pan (cs:= []) S hf (by simp) h h')⟩
   ·exact .inr h
 cases cls S hs hf hcs hm hbase with
 |still fr' cs' h1 h2 h3 h4=>
  obtain⟨es,e⟩:=h4 [bomb F] v
  exact .inl ⟨_,_,_,e,rfl,.inl ⟨fr',cs',rfl,h1,h2,h3,ha⟩⟩
 |draw id ops k h1 h2=>
  refine .inl ⟨_,_,_,draw_step h1 h2,rfl,.inl ⟨_,cs,rfl,hf.lay fun i hi=> ?_,hcs,.inl h1,ha.draw _⟩⟩
  have ht:=hf.todo
  rw [h2]at ht
  simp only [List.mem_cons]at hi
  rcases hi with rfl|hi
  ·exact ht (.code (.region id ops true)) (by simp)
  ·exact ht i (by simp [hi])
 | op ops i rest k o h1 h2 h3 h4 h5 _ hH=>
  cases hrun:(execOp fr.eval o).run (sw P F) v with
  | halt hh w''=>
   have hok:=hH.halts lkT _ _ ha hrun
   by_cases hp:∃x,hh= .panic x
   ·obtain⟨x,rfl⟩:=hp
    obtain⟨es,e⟩:=panic_step (main:=true) (cs:=cs++ [bomb F]) h1 h5 hf.kind h2 h3 h4 hrun
    exact .inl ⟨_,_,_,e,rfl,.inr (lostAll _ _ h1 (hH.haltAv lkT _ _ ha hrun))⟩
   ·exact .inr (stop_step (main:=true) (cs:=cs++ [bomb F]) h1 h5 hf.kind h2 h3 h4 hrun hok fun x e=>hp ⟨x,e⟩)
  | ok n v'=>
   obtain⟨o1,_,o7⟩:=hH.sim lkT #[] n v' (w:=v) ⟨rfl,rfl,rfl,rfl,rfl,fun _ _=>rfl⟩ ha hrun
   cases n with
   |value x=>
    refine .inl ⟨_,_,_,value_step h1 h5 hf.kind h2 h3 h4 hrun,rfl,.inl ⟨fr.finish x,cs,rfl,hf.finish o1,hcs, ?_,o7⟩⟩
    left;unfold Frame.finish;split <;> exact h1
   |skip=>
    refine .inl ⟨_,_,_,skip_step h1 h5 hf.kind h2 h3 h4 hrun,rfl,.inl ⟨fr.finish undef,cs,rfl,hf.finish av_undef,hcs, ?_,o7⟩⟩
    left;unfold Frame.finish;split <;> exact h1
   |_=>exact o1.elim
 | sem sm Q R C hsm=>
  rcases sem_jb (tl:= [bomb F]) S hsm hf ha with ⟨a,v1,es,e,q,h'⟩|⟨fr2,v1,es,e,h,h'⟩|h
  ·obtain⟨n1,n2,n3⟩:=hsm.next Z a S.hG S.hZ hf hcs q
   exact .inl ⟨_,_,_,e,rfl,.inl ⟨R a,C a,rfl,n1,n2,n3,h'⟩⟩
  ·exact .inl ⟨_,_,_,e,rfl,.inr (lost_of_pan S hf hcs h h')⟩
  ·exact .inr h
 | leave fn c cs' h1 hd h2 h3 hH=>
  subst h2
  cases hrun:(results fn fr.tmps).run (sw P F) v with
  |halt hh w''=>exact .inr (leave_halt (main:=true) (cs:=(c :: cs')++ [bomb F]) h1 hd h3 hrun)
  |ok x v'=>
   obtain⟨o1,_,o7⟩:=hH.sim lkT #[] x v' (w:=v) ⟨rfl,rfl,rfl,rfl,rfl,fun _ _=>rfl⟩ ha hrun
   obtain⟨c1,c2⟩:=hcs c (by simp)
   refine .inl ⟨_,_,_,leave_run h1 hd hf.kind h3 hrun,rfl,.inl ⟨c.finish x,cs',rfl,c1.finish o1,fun y hy=>hcs y (by simp [hy]), ?_,o7⟩⟩
   left;unfold Frame.finish;split <;> exact c2
 |panics ch h1 h2=>
  obtain⟨es,e⟩:=h2 [bomb F] v
  exact .inl ⟨_,_,_,e,rfl,.inr (lostAll _ _ h1 ha)⟩
 |stops h=>exact .inr (h [bomb F] v)
theorem local_leave{Q:Goroutine->World->Prop}{fr c0:Frame}{cs0:List Frame}{v:World}{fn:Func}(hH:Hyg P (sw P F) Z (lk Lb (okOper P Lb Gb)) (Av Z (lk Lb (okOper P Lb Gb))) (results fn fr.tmps))(ha:AvW Z (lk Lb (okOper P Lb Gb)) v)(hm:fr.mode= .returning)(hd:fr.defers= [])(hk:fr.kind= .normal)(hfn:(sw P F).funcs[fr.fn]? =some fn):
  ∃c,LocalStep (sw P F) Q (G fr (c0 :: cs0)) v c:=by
 obtain⟨c,hl⟩:=hH.local lkT v ha
 refine⟨c,⟨fun τ d hg g2 v1 es e=> ?_⟩⟩
 have hre:=hl.re τ d hg
 cases hrun:(results fn fr.tmps).run (sw P F) v with
 |halt hh w''=>
  rw [hrun]at hre
  obtain⟨oc,w3,es3,e3⟩:=leave_halt (main:=true) (cs:=c0 :: cs0) hm hd hfn hre
  rw [e3]at e
  cases e
 |ok x v'=>
  rw [hrun]at hre
  rw [leave_run hm hd hk hfn hre]at e
  cases e
  exact .inr ⟨v',_,leave_run hm hd hk hfn hrun,rfl⟩
theorem jb_local(S:SysF P F Z Lb Gb)(hs:Lb s=false){Rx:Value->World->Prop}{g:Goroutine}{v:World}(h:Jb P F Z Lb Gb s g v):∃c,LocalStep (sw P F) (Qb P F Z Lb Gb s Rx) g v c:=by
 obtain⟨fr,cs,rfl,hf,hcs,hm,ha⟩:=h
 have same:∀g1:Goroutine,(∀w:World,∃es,stepG (sw P F) true (G fr (cs++ [bomb F])) w= .go g1 w es)->∃c,LocalStep (sw P F) (Qb P F Z Lb Gb s Rx) (G fr (cs++ [bomb F])) v c:=by
  intro g1 h
  refine⟨0,⟨fun τ d _ g2 v1 es e=> ?_⟩⟩
  obtain⟨es1,e1⟩:=h (tp v τ d)
  obtain⟨es2,e2⟩:=h v
  rw [e1]at e
  cases e
  exact .inr ⟨v,es2,e2,rfl⟩
 by_cases hbase:AtBase fr cs
 ·obtain⟨rfl,⟨hm',hd⟩|⟨hm',hro,hj⟩⟩:=hbase
  ·obtain⟨fn,body,h2,_,_,_⟩:=S.fn fr.fn hf.fn
   exact local_leave (hyg_results S.hZ fn hf.tmps) ha hm' hd hf.kind (show(sw P F).funcs[fr.fn]? =some fn from h2)
  ·obtain⟨l,hl⟩:=Option.ne_none_iff_exists'.1 hro
   obtain⟨j,hj⟩:=Option.ne_none_iff_exists'.1 hj
   exact sem_local (tl:= []) S (sem_leave (P:=P) (F:=F) (Lb:=Lb) (Gb:=Gb) (s:=s) (Pr:=fun Pg=>Pg=sw P F) (c:=bomb F) (cs:= []) hm' hf.kind hl hj) hf ha fun fr2 w' h h'=>lost_of_pan (cs:= []) S hf (by simp) h h'
 cases cls S hs hf hcs hm hbase with
 |still fr' cs' h1 h2 h3 h4=>exact same _ (h4 [bomb F])
 |sem sm Q R C hsm=>exact sem_local (tl:= [bomb F]) S hsm hf ha fun fr2 w' h h'=>lost_of_pan S hf hcs h h'
 |leave fn c cs' h1 hd h2 h3 hH=>
  subst h2
  exact local_leave hH ha h1 hd hf.kind h3
 |panics ch h1 h2=>exact same _ (h2 [bomb F])
 |stops h=>
  refine⟨0,⟨fun τ d _ g2 v1 es e=> ?_⟩⟩
  obtain⟨o,w',es1,e1⟩:=h [bomb F] (tp v τ d)
  rw [e1]at e
  cases e
 |draw id ops k h1 h2=>
  refine⟨1,⟨fun τ d hg g2 v1 es e=> ?_⟩⟩
  rw [draw_step h1 h2]at e
  cases e
  refine .inr ⟨{v with drawn:=v.drawn+1},#[], ?_,rfl⟩
  rw [draw_step h1 h2]
  have:=hg 0 (by omega) (.order fr.fn id)
  simp only [Nat.add_zero]at this
  show _=GStep.go (G {fr with todo:= .inRegion ops (Region.schedule ((sw P F).follows .mixedOrders) ops (τ d (.order fr.fn id))) :: k} _) _ _
  rw [this]
 | op ops i rest k o h1 h2 h3 h4 h5 _ hH=>
  obtain⟨c,hl⟩:=hH.local lkT v ha
  refine⟨c,⟨fun τ d hg g2 v1 es e=> ?_⟩⟩
  have hre:=hl.re τ d hg
  cases hrun:(execOp fr.eval o).run (sw P F) v with
  | halt hh w''=>
   rw [hrun]at hre
   have hok:=hH.halts lkT _ _ ha hrun
   by_cases hp:∃x,hh= .panic x
   ·obtain⟨x,rfl⟩:=hp
    obtain⟨es1,e1⟩:=panic_step (main:=true) (cs:=cs++ [bomb F]) h1 h5 hf.kind h2 h3 h4 hre
    obtain⟨es2,e2⟩:=panic_step (main:=true) (cs:=cs++ [bomb F]) h1 h5 hf.kind h2 h3 h4 hrun
    rw [e1]at e
    cases e
    exact .inr ⟨w'',es2,e2,rfl⟩
   ·obtain⟨oc,w3,es1,e1⟩:=stop_step (main:=true) (cs:=cs++ [bomb F]) h1 h5 hf.kind h2 h3 h4 hre hok fun x e=>hp ⟨x,e⟩
    rw [e1]at e
    cases e
  | ok n v'=>
   rw [hrun]at hre
   obtain⟨o1,_,o7⟩:=hH.sim lkT #[] n v' (w:=v) ⟨rfl,rfl,rfl,rfl,rfl,fun _ _=>rfl⟩ ha hrun
   cases n with
   |value x=>
    rw [value_step h1 h5 hf.kind h2 h3 h4 hre]at e
    cases e
    exact .inr ⟨v',_,value_step h1 h5 hf.kind h2 h3 h4 hrun,rfl⟩
   |skip=>
    rw [skip_step h1 h5 hf.kind h2 h3 h4 hre]at e
    cases e
    exact .inr ⟨v',_,skip_step h1 h5 hf.kind h2 h3 h4 hrun,rfl⟩
   |_=>exact o1.elim
theorem step_solo_ended{Pg:Program}{fr:Frame}{cs:List Frame}{w w':World}{o:Outcome}{es:Array Event}(h:stepG Pg true (G fr cs) w= .ended o w' es):step Pg (solo (G fr cs) w)= .ended o w':=
 step_lone_ended (by show(stepG Pg true (G fr cs) w).bare=_;rw [h];rfl)
theorem lost_form{g:Goroutine}{v:World}(h:Lost P F Z Lb Gb g v):∃fr cs,g=G fr cs:=by
 cases h with
 | @pan fr cs=>exact⟨fr,_,rfl⟩
 |back x=>exact⟨_,_,rfl⟩
 |up x=>exact⟨_,_,rfl⟩
theorem runs_of_machine(S:SysF P F Z Lb Gb)(hs:Lb s=false){Rx:Value->World->Prop}:∀ (n:Nat) {g:Goroutine} {v:World} {fr:Frame} {v':World} {x:Value},(Jb P F Z Lb Gb s g v∨Lost P F Z Lb Gb g v)->
  runN (sw P F) n (solo g v)= .next (solo (G fr [bomb F]) v')->fr.leaving (sw P F) v' (.returned x)->Rx x v'->∃m,Runs (sw P F) (Qb P F Z Lb Gb s Rx) m g v
 | 0,g,v,fr,v',x,hj,hrun,hl,hx=>by
  simp only [runN,Stepped.next.injEq]at hrun
  have e1:g=G fr [bomb F]:=by have:=congrArg (fun m:Machine=>m.gs[0]?) hrun;simpa [solo]using this
  have e2:v=v':=by have:=congrArg (fun m:Machine=>m.world) hrun;simpa [solo]using this
  subst e2
  obtain⟨hm,hd,hk,fn,hfn,hres⟩:=hl
  rcases hj with hj|hj
  ·obtain⟨fr2,cs,e3,hf,hcs,_,ha⟩:=hj
   rw [e1]at e3
   simp only [G,Goroutine.mk.injEq,true_and,and_true]at e3
   obtain⟨rfl,e4⟩:=e3
   exact⟨0,.zero ⟨fr,fn,x,e1,hm,hd,hf,hfn,hres,hx,ha⟩⟩
  ·exact absurd hm (hj.noQ fr e1)
 | n+1,g,v,fr,v',x,hj,hrun,hl,hx=>by
  have hform:∃fr cs,g=G fr cs:=by
   rcases hj with ⟨fr,cs,e,_⟩|hj
   ·exact⟨fr,_,e⟩
   ·exact lost_form hj
  obtain⟨fr0,cs0,rfl⟩:=hform
  have hstep:(∃g1 v1 es,stepG (sw P F) true (G fr0 cs0) v= .go g1 v1 es/\g1.status= .running/\(Jb P F Z Lb Gb s g1 v1∨Lost P F Z Lb Gb g1 v1))∨∃o v' es,stepG (sw P F) true (G fr0 cs0) v= .ended o v' es:=by
   rcases hj with hj|hj
   ·exact jb_step S hs hj
   ·rcases hj.step with ⟨g1,v1,es,e,h1,h2⟩|h
    ·exact .inl ⟨g1,v1,es,e,h2,.inr h1⟩
    ·exact .inr h
  rcases hstep with ⟨g1,v1,es,e,hrn,h1⟩|⟨o,v2,es,e⟩
  ·have e2:=step_solo_go (a:=G fr0 cs0) rfl e
   simp only [runN,e2]at hrun
   obtain⟨m,hm⟩:=runs_of_machine S hs n h1 hrun hl hx
   exact⟨m+1,.succ e hm⟩
  ·have e2:=step_solo_ended e
   simp only [runN,e2]at hrun
   cases hrun
theorem qb_tp(S:SysF P F Z Lb Gb){Rx:Value->World->Prop}(hR:∀x v τ d,Rx x v->Rx x (tp v τ d)){g:Goroutine}{v:World}{τ:Nat->Question->Nat}{d:Nat}(h:Qb P F Z Lb Gb s Rx g v):Qb P F Z Lb Gb s Rx g (tp v τ d):=by
 obtain⟨fr,fn,x,h1,h2,hd,h3,h4,h5,h6,h7⟩:=h
 obtain⟨c,hl⟩:=(hyg_results (P:=P) (F:=F) (Z:=Z) S.hZ fn h3.tmps).local lkT v h7
 have hc:c=0:=by have:=(hl.ok x v h5).2;omega
 subst hc
 have hre:=hl.re τ d (fun j hj=>by omega)
 rw [h5]at hre
 exact⟨fr,fn,x,h1,h2,hd,h3,h4,hre,hR _ _ _ _ h6,h7.tp τ d⟩
theorem wins_of_calls(S:SysF P F Z Lb Gb)(hs:Lb s=false){f:FuncId}{args:Array Value}{v:World}(hf:Lb f=true)(hargs:∀x∈args,Av Z (lk Lb (okOper P Lb Gb)) x)(hv:AvW Z (lk Lb (okOper P Lb Gb)) v)
  {Rx:Value->World->Prop} (hR:∀x v τ d,Rx x v->Rx x (tp v τ d)) (hc:∀τ d,Calls (sw P F) f args (tp v τ d) fun e w'=>∃x,e= .returned x/\Rx x w'):
  Wins (sw P F) (Qb P F Z Lb Gb s Rx) (G (Frame.enter (sw P F) f args .normal) [bomb F]) v:=by
 obtain⟨e1,e2⟩:=enter_okF S hs hf hargs
 have h0:Jb P F Z Lb Gb s (G (Frame.enter (sw P F) f args .normal) [bomb F]) v:=⟨_,[],rfl,e1,by simp,.inl e2,hv⟩
 have hJ:∀g v τ d,Jb P F Z Lb Gb s g v->Jb P F Z Lb Gb s g (tp v τ d):=fun g v τ d ⟨fr,cs,a,b,c,m,w⟩=>⟨fr,cs,a,b,c,m,w.tp τ d⟩
 refine wins_of_runs (J:=Jb P F Z Lb Gb s) (fun g v τ d h=>qb_tp S hR h) hJ (fun g v h _=>jb_local S hs h) (fun g v g1 v1 es h e=> ?_) h0 fun τ d=> ?_
 ·rcases jb_step S hs h with ⟨g2,v2,es2,e3,_,h1⟩|⟨o,v2,es2,e3⟩
  ·rw [e3]at e;cases e
   exact h1.imp id fun hl n=>hl.noRuns n _
  ·rw [e3]at e;cases e
 ·obtain⟨e,w',fr,⟨x,rfl,hx⟩,hcomes,_,hl⟩:=hc τ d [bomb F]
  obtain⟨n,hn⟩:=hcomes
  exact runs_of_machine S hs n (.inl (hJ _ _ _ _ h0)) hn hl hx
end
end
end Go.Sq
