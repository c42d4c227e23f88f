import Derived.Conc.Beside
import Derived.Conc.LoneCalls
set_option maxHeartbeats 8000000
set_option maxRecDepth 100000
set_option linter.unusedSectionVars false
set_option linter.unusedSimpArgs false
set_option linter.unusedVariables false
namespace Go
theorem vO{p:Prop}(h:p:=by omega):p:=h
theorem vS{p:Prop}(h:p:=by simp):p:=h
theorem vD{p:Prop}(h:p:=by decide):p:=h
theorem vG{p:Prop}(h:p:=by simp [go_sem]):p:=h
theorem tQ{p:Prop}(h:p:=by assumption):p:=h
theorem vQ{p:Prop}(h:p:=by (simp;omega)):p:=h
theorem vK{p:Prop}(h:p:=by kernel_rfl):p:=h
abbrev vV:=Value
instance:Coe Int Value:=⟨.int .i64⟩
instance:Coe Bool Value:=⟨.bool⟩
instance:Coe ByteArray Value:=⟨.string⟩
end Go
namespace Go.Sq
section
open Go
abbrev sw(P:Program)(F:Array Func):Program:=⟨P.toTables,F⟩
structure Lk where
 f:Nat->Prop
 t:TypeId->Prop
 x:Nat->Option Obj
inductive Av(Z:Nat->Prop)(L:Lk):Value->Prop
 |bool (b:Bool):Av Z L (.bool b)
 |int (k:IntKind) (n:Int):Av Z L (.int k n)
 |string (s:ByteArray):Av Z L (.string s)
 |ptr0:Av Z L (.pointer none)
 |ptr {a:Addr}:¬ Z a.block->Av Z L (.pointer (some a))
 |slice0 (l c:Nat):Av Z L (.slice none l c)
 |slice {a:Addr} (l c:Nat):¬ Z a.block->Av Z L (.slice (some a) l c)
 |map0:Av Z L (.map none)
 |map {r:Nat}:¬ Z r->Av Z L (.map (some r))
 |chan0:Av Z L (.chan none)
 |chan {r:Nat}:¬ Z r->Av Z L (.chan (some r))
 |func {f:FuncId} {xs ys:Array Value}:L.f f->(∀v∈xs,Av Z L v)->(∀v∈ys,Av Z L v)->Av Z L (.func (.func f) xs ys)
 |nilFunc:Av Z L .nilFunc
 |nilIface:Av Z L .nilIface
 |iface {t:TypeId} {v:Value}:Av Z L v->Av Z L (.iface t v)
 |agg {cs:Array Value}:(∀v∈cs,Av Z L v)->Av Z L (.agg cs)
 |tuple {cs:Array Value}:(∀v∈cs,Av Z L v)->Av Z L (.tuple cs)
inductive AvO(Z:Nat->Prop)(L:Lk):Obj->Prop
 |cells {c:Array Value} {t:TypeId} {f:Nat×Nat}:(∀v∈c,Av Z L v)->AvO Z L (.cells c t f)
 |map {es:Array MapEntry} {k:Nat}:(∀e∈es,Av Z L e.key/\Av Z L e.val)->AvO Z L (.map es k)
 |number {a:Addr} {b:Bool}:¬ Z a.block->AvO Z L (.number a b)
 |iter (s:ByteArray) (n:Nat):AvO Z L (.stringIter s n)
 |view {a:Addr} {t:TypeId}:¬ Z a.block->L.t t->AvO Z L (.view a t)
structure AvW(Z:Nat->Prop)(L:Lk)(w:World):Prop where
 obj:∀b o,¬ Z b->w.1[b]? =some o->AvO Z L o
 low:∀b,Z b->b<w.1.size
 win:∀b o,L.x b=some o->Z b/\w.1[b]? =some o
inductive iP:Halt->Prop
 |panic (v:Value):iP (.panic v)
 |stuck (s:String):iP (.stuck s)
 |noEntry (s:String):iP (.unsupported (.noEntry s))
 |addr:iP (.unsupported .addressObserved)
 |unsf (s:String):iP (.unsupported (.unsafePointer s))
 |limit (s:String):iP (.unsupported (.resourceLimit s))
def MkOk(m:Mark):Prop:=m= .noRoom∨∃f,m= .extern f
inductive Hyg(P P':Program)(Z:Nat->Prop)(L:Lk){α:Type}(Q:α->Prop):Sem α->Prop
 |pure {a:α}:Q a->Hyg P P' Z L Q (.pure a)
 |load {a:Addr} {k:Value->Sem α}:¬ Z a.block->(∀v,Av Z L v->Hyg P P' Z L Q (k v))->Hyg P P' Z L Q (.load .plain a k)
 |store {a:Addr} {v:Value} {k:Sem α}:¬ Z a.block->Av Z L v->Hyg P P' Z L Q k->Hyg P P' Z L Q (.store .plain a v k)
 |new {o:Obj} {k:Nat->Sem α}:AvO Z L o->(∀r,¬ Z r->Hyg P P' Z L Q (k r))->Hyg P P' Z L Q (.new o k)
 |shape {r:Nat} {k:Option (TypeId×Nat)->Sem α}:¬ Z r->(∀s,Hyg P P' Z L Q (k s))->Hyg P P' Z L Q (.shape r k)
 |frozen {a:Addr} {k:Bool->Sem α}:¬ Z a.block->(∀b,Hyg P P' Z L Q (k b))->Hyg P P' Z L Q (.frozen a k)
 |freeze {a:Addr} {n:Nat} {k:Sem α}:¬ Z a.block->Hyg P P' Z L Q k->Hyg P P' Z L Q (.freeze a n k)
 |getObj {r:Nat} {k:Obj->Sem α}:¬ Z r->(∀o,AvO Z L o->Hyg P P' Z L Q (k o))->Hyg P P' Z L Q (.getObj r k)
 |setObj {r:Nat} {o:Obj} {k:Sem α}:¬ Z r->AvO Z L o->Hyg P P' Z L Q k->Hyg P P' Z L Q (.setObj r o k)
 |choose {q:Question} {k:Nat->Sem α}:(∀n,Hyg P P' Z L Q (k n))->Hyg P P' Z L Q (.choose q k)
 |program {k:Program->Sem α}:k P'=k P->Hyg P P' Z L Q (k P)->Hyg P P' Z L Q (.program k)
 |noRoom {m:Mark} {k:Sem α}:MkOk m->Hyg P P' Z L Q k->Hyg P P' Z L Q (.mark m k)
 |env {k:SysRet->Sem α}:(∀r,Hyg P P' Z L Q (k r))->(∀r w a w',(k r).run P' w≠ .ok a w')->Hyg P P' Z L Q (.sys .env k)
 |halt {h:Halt}:iP h->Hyg P P' Z L Q (.halt h)
section
variable {P P':Program} {Z:Nat->Prop} {L:Lk} {α β:Type} {Q:α->Prop} {R:β->Prop}
theorem Hyg.mono{Q':α->Prop}{s:Sem α}(h:Hyg P P' Z L Q s)(hq:∀a,Q a->Q' a):Hyg P P' Z L Q' s:=by
 induction h with
 |pure h=>exact .pure (hq _ h)
 |load h _ ih=>exact .load h ih
 |store h hv _ ih=>exact .store h hv ih
 |new h _ ih=>exact .new h ih
 |shape h _ ih=>exact .shape h ih
 |frozen h _ ih=>exact .frozen h ih
 |freeze h _ ih=>exact .freeze h ih
 |getObj h _ ih=>exact .getObj h ih
 |setObj h ho _ ih=>exact .setObj h ho ih
 |choose _ ih=>exact .choose ih
 |program h _ ih=>exact .program h ih
 |noRoom hm _ ih=>exact .noRoom hm ih
 |env _ h2 ih=>exact .env ih h2
 |halt h=>exact .halt h
theorem Hyg.bind{s:Sem α}{f:α->Sem β}(h:Hyg P P' Z L Q s)(hf:∀a,Q a->Hyg P P' Z L R (f a)):Hyg P P' Z L R (s>>=f):=by
 show Hyg P P' Z L R (Sem.bind s f)
 induction h with
 |pure h=>exact hf _ h
 |load h _ ih=>exact .load h ih
 |store h hv _ ih=>exact .store h hv ih
 |new h _ ih=>exact .new h ih
 |shape h _ ih=>exact .shape h ih
 |frozen h _ ih=>exact .frozen h ih
 |freeze h _ ih=>exact .freeze h ih
 |getObj h _ ih=>exact .getObj h ih
 |setObj h ho _ ih=>exact .setObj h ho ih
 |choose _ ih=>exact .choose ih
 | @program k e _ ih=>exact .program (show(k P').bind f=(k P).bind f by rw [e]) ih
 |noRoom hm _ ih=>exact .noRoom hm ih
 | @env k _ h2 ih=>
  refine .env ih fun r w b w' e=> ?_
  have e':=(Sem.run_bind' P' (k r) f w).symm.trans e
  cases hk:(k r).run P' w with
  |ok a w1=>exact h2 r w a w1 hk
  |halt h w1=>rw [hk]at e';cases e'
 |halt h=>exact .halt h
end
theorem Xp(os:Os):Kernel.perform .env os= .done (.strings os.env,os):=by rfl
theorem GD(w:World):w.sys .env=(.strings w.os.env,w):=by
 unfold World.sys
 rw [Xp]
 rfl
structure Rel(Z:Nat->Prop)(w v:World):Prop where
 size:w.1.size=v.1.size
 tape:w.tape=v.tape
 drawn:w.drawn=v.drawn
 os:w.os=v.os
 output:w.output=v.output
 same:∀b,¬ Z b->w.1[b]? =v.1[b]?
def Bq(Z:Nat->Prop)(n:Nat)(e:Event):Prop:=
 (∃a wr,e=⟨.cell a,wr,false⟩/\a.block<n/\¬ Z a.block)∨(∃r wr,e=⟨.obj r,wr,false⟩/\r<n/\¬ Z r)∨∃m,MkOk m/\e=⟨.mark m,false,true⟩
theorem Bq.mono{Z:Nat->Prop}{n m:Nat}{e:Event}(h:Bq Z n e)(hn:n<=m):Bq Z m e:=by
 rcases h with ⟨a,wr,rfl,h1,h2⟩|⟨a,wr,rfl,h1,h2⟩|⟨m,hm,rfl⟩
 ·exact .inl ⟨a,wr,rfl,vO,h2⟩
 ·exact .inr (.inl ⟨a,wr,rfl,vO,h2⟩)
 ·exact .inr (.inr ⟨m,hm,rfl⟩)
theorem Ra{Z:Nat->Prop}{w v:World}(h:Rel Z w v){a:Addr}(ha:¬ Z a.block):w.cell? a=v.cell? a:=by
 unfold World.cell?
 rw [h.same _ ha]
theorem Ir{Z:Nat->Prop}{w v:World}(h:Rel Z w v){a:Addr}(ha:¬ Z a.block):w.frozen? a=v.frozen? a:=by
 unfold World.frozen?
 rw [h.same _ ha]
structure Out{α:Type}(Z:Nat->Prop)(L:Lk)(Q:α->Prop)(P:Program)(s:Sem α)(w:World)(es:Array Event)(a:α)(v':World):Prop where
 val:Q a
 run:∃w' new,s.runT P w es=(.ok a w',es++new)/\Rel Z w' v'/\(∀e∈new,Bq Z w'.1.size e)/\w.1.size<=w'.1.size/\(∀b,Z b->w'.1[b]? =w.1[b]?)
 av:AvW Z L v'
theorem jc(w:World)(a:Addr)(x:Value):(w.setCell a x).1.size=w.1.size:=by simp [World.setCell]
theorem iV(w:World)(a:Addr)(x:Value){b:Nat}(h:b≠a.block):(w.setCell a x).1[b]? =w.1[b]? :=by
 simp [World.setCell,Array.getElem?_modify,Ne.symm h]
theorem jX(w:World)(a:Addr)(x:Value):(w.setCell a x).1[a.block]? =(w.1[a.block]?).map fun| .cells c elem frozen=> .cells (if a.spot.isSome then c else c.setIfInBounds a.off x) elem frozen|o=>o:=by
 simp only [World.setCell,Array.getElem?_modify,if_true]
 congr 1
theorem Hl{α:Type}(es new:Array α)(e:α):es.push e++new=es++(#[e]++new):=by
 apply Array.toList_inj.1
 simp
theorem mI(w:World)(a:Addr)(n:Nat):(w.freeze a n).1.size=w.1.size:=by
 unfold World.freeze;split <;> simp
theorem oZ(w:World)(a:Addr)(n:Nat){b:Nat}(h:b≠a.block):(w.freeze a n).1[b]? =w.1[b]? :=by
 unfold World.freeze
 split
 ·rfl
 ·simp [Array.getElem?_modify,Ne.symm h]
theorem Rel.setCell{Z:Nat->Prop}{w v:World}(h:Rel Z w v)(a:Addr)(x:Value)(ha:¬ Z a.block):Rel Z (w.setCell a x) (v.setCell a x):=by
 refine⟨by rw [jc,jc,h.size],h.tape,h.drawn,h.os,h.output,fun b hb=> ?_⟩
 by_cases e:b=a.block
 ·subst e
  rw [jX,jX,h.same _ ha]
 ·rw [iV _ _ _ e,iV _ _ _ e,h.same _ hb]
theorem Rel.freeze{Z:Nat->Prop}{w v:World}(h:Rel Z w v)(a:Addr)(n:Nat)(ha:¬ Z a.block):Rel Z (w.freeze a n) (v.freeze a n):=by
 refine⟨by rw [mI,mI,h.size], ?_, ?_, ?_, ?_,fun b hb=> ?_⟩
 ·unfold World.freeze;split <;> exact h.tape
 ·unfold World.freeze;split <;> exact h.drawn
 ·unfold World.freeze;split <;> exact h.os
 ·unfold World.freeze;split <;> exact h.output
 ·by_cases e:b=a.block
  ·subst e
   unfold World.freeze
   split
   ·exact h.same _ ha
   ·simp only [Array.getElem?_modify,if_true];rw [h.same _ ha]
  ·rw [oZ _ _ _ e,oZ _ _ _ e,h.same _ hb]
theorem Rel.push{Z:Nat->Prop}{w v:World}(h:Rel Z w v)(o:Obj):Rel Z {w with heap:=w.1.push o} {v with heap:=v.1.push o}:=by
 refine⟨by simp [h.size],h.tape,h.drawn,h.os,h.output,fun b hb=> ?_⟩
 simp only [Array.getElem?_push,h.size]
 split
 ·rfl
 ·exact h.same _ hb
theorem Rel.setObj{Z:Nat->Prop}{w v:World}(h:Rel Z w v)(r:Nat)(o:Obj):Rel Z {w with heap:=w.heap.setIfInBounds r o} {v with heap:=v.heap.setIfInBounds r o}:=by
 refine⟨by simp [h.size],h.tape,h.drawn,h.os,h.output,fun b hb=> ?_⟩
 by_cases e:r=b
 ·subst e
  simp only [Array.getElem?_setIfInBounds_self,h.size]
 ·rw [Array.getElem?_setIfInBounds_ne e,Array.getElem?_setIfInBounds_ne e,h.same _ hb]
theorem Rel.draw{Z:Nat->Prop}{w v:World}(h:Rel Z w v):Rel Z {w with drawn:=w.drawn+1} {v with drawn:=v.drawn+1}:=
 ⟨h.size,h.tape,by simp [h.drawn],h.os,h.output,h.same⟩
section
variable {Z:Nat->Prop} {L:Lk} {v:World}
theorem AvW.cell(h:AvW Z L v){a:Addr}{x:Value}(ha:¬ Z a.block)(hx:v.cell? a=some x):Av Z L x:=by
 unfold World.cell? at hx
 split at hx
 ·next c t f e=>
  split at hx
  ·cases hx
  ·have:=h.obj _ _ ha e
   cases this with
   |cells hc=>exact hc _ (Array.mem_of_getElem? hx)
 ·cases hx
theorem AvW.setCell(h:AvW Z L v)(a:Addr)(hz:¬ Z a.block){x:Value}(hx:Av Z L x):AvW Z L (v.setCell a x):=by
 refine⟨fun b o hb e=> ?_,fun b hb=>by rw [jc];exact h.low b hb,fun b o e=>⟨(h.win b o e).1,by rw [iV _ _ _ fun e'=>hz (e'▸(h.win b o e).1)];exact(h.win b o e).2⟩⟩
 by_cases eb:b=a.block
 ·subst eb
  rw [jX]at e
  obtain⟨o',ho',rfl⟩:=Option.map_eq_some_iff.1 e
  have:=h.obj _ _ hb ho'
  cases this with
  | cells hc=>
   refine .cells fun y hy=> ?_
   split at hy
   ·exact hc y hy
   ·rcases Array.mem_or_eq_of_mem_setIfInBounds hy with m|m
    ·exact hc y m
    ·exact m▸hx
  |map hm=>exact .map hm
  |number hm=>exact .number hm
  |iter s n=>exact .iter s n
  |view hm ht=>exact .view hm ht
 ·rw [iV _ _ _ eb]at e
  exact h.obj b o hb e
theorem AvW.freeze(h:AvW Z L v)(a:Addr)(n:Nat)(hz:¬ Z a.block):AvW Z L (v.freeze a n):=by
 refine⟨fun b o hb e=> ?_,fun b hb=>by rw [mI];exact h.low b hb,fun b o e=>⟨(h.win b o e).1,by rw [oZ _ _ _ fun e'=>hz (e'▸(h.win b o e).1)];exact(h.win b o e).2⟩⟩
 unfold World.freeze at e
 split at e
 ·exact h.obj b o hb e
 ·simp only [Array.getElem?_modify]at e
  split at e
  ·obtain⟨o',ho',rfl⟩:=Option.map_eq_some_iff.1 e
   have:=h.obj _ _ hb ho'
   cases this with
   |cells hc=>exact .cells hc
   |map hm=>exact .map hm
   |number hm=>exact .number hm
   |iter s n=>exact .iter s n
   |view hm ht=>exact .view hm ht
  ·exact h.obj b o hb e
theorem AvW.push(h:AvW Z L v){o:Obj}(ho:AvO Z L o):AvW Z L {v with heap:=v.1.push o}:=by
 refine⟨fun b o' hb e=> ?_,fun b hb=>by simp only [Array.size_push];have:=h.low b hb;omega,fun b o' e=>⟨(h.win b o' e).1,by have:=h.low b (h.win b o' e).1;simp only [Array.getElem?_push];rw [if_neg vO];exact(h.win b o' e).2⟩⟩
 simp only [Array.getElem?_push]at e
 split at e
 ·cases e;exact ho
 ·exact h.obj b o' hb e
theorem AvW.setObj(h:AvW Z L v)(r:Nat)(hz:¬ Z r){o:Obj}(ho:AvO Z L o):AvW Z L {v with heap:=v.heap.setIfInBounds r o}:=by
 refine⟨fun b o' hb e=> ?_,fun b hb=>by simp only [Array.size_setIfInBounds];exact h.low b hb,fun b o' e=>⟨(h.win b o' e).1,by simp only [Array.getElem?_setIfInBounds_ne (show r≠b from fun e'=>hz (e'▸(h.win b o' e).1))];exact(h.win b o' e).2⟩⟩
 by_cases eb:r=b
 ·subst eb
  simp only [Array.getElem?_setIfInBounds_self]at e
  split at e
  ·cases e;exact ho
  ·cases e
 ·rw [Array.getElem?_setIfInBounds_ne eb]at e
  exact h.obj b o' hb e
theorem AvW.draw(h:AvW Z L v)(d:Nat):AvW Z L {v with drawn:=d}:=⟨h.obj,h.low,h.win⟩
end
theorem lt_of_heap{w:World}{b:Nat}{o:Obj}(h:w.1[b]? =some o):b<w.1.size:=(Array.getElem?_eq_some_iff.1 h).1
theorem lt_of_cell{w:World}{a:Addr}{x:Value}(h:w.cell? a=some x):a.block<w.1.size:=by
 unfold World.cell? at h
 split at h
 ·next e=>exact lt_of_heap e
 ·cases h
def sM(p:Program)(w:World)(a:Addr):Except Halt (Value×List Addr):=match w.cell? a with
 |some v=> .ok (v,[a])
 |none=>w.farLoad p a false
def qw(p:Program)(w:World)(a:Addr)(x:Value):Except Halt (World×List Addr):=match w.cell? a with
 |some _=>if w.frozen? a then .error (.unsupported (.unsafePointer "a write to bytes that a string shares"))else .ok (w.setCell a x,[a])
 |none=>w.farStore p a x false
theorem run_load{α:Type}(p:Program)(a:Addr)(k:Value->Sem α)(w:World):Sem.run p (.load .plain a k) w=match sM p w a with
  | .ok (v,_)=>(k v).run p w
  | .error h=> .halt h w:=by
 simp only [Sem.run,sM]
 cases w.cell? a <;> rfl
theorem Vx{α:Type}(p:Program)(a:Addr)(k:Value->Sem α)(w:World)(es:Array Event):Sem.runT p (.load .plain a k) w es=match sM p w a with
  | .ok (v,t)=>(k v).runT p w (es++t.toArray.map (⟨.cell ·,false,false⟩))
  | .error h=>(.halt h w,es):=by
 simp only [Sem.runT,sM]
 cases w.cell? a with
 |some v=>simp;rfl
 |none=>rfl
theorem run_store{α:Type}(p:Program)(a:Addr){x:Value}(hne:(∀c,x≠ .agg c)/\∀c,x≠ .tuple c)(k:Sem α)(w:World):Sem.run p (.store .plain a x k) w=match qw p w a x with
  | .ok (w',_)=>k.run p w'
  | .error h=> .halt h w:=by
 have e:Sem.run p (.store .plain a x k) w=(match w.cell? a with
  |some _=>if w.frozen? a then Result.halt (.unsupported (.unsafePointer "a write to bytes that a string shares")) w else k.run p (w.setCell a x)
  |none=>match w.farStore p a x (Mode.plain==Mode.atomic)with
   | .ok (w,_)=>k.run p w
   | .error h=> .halt h w):=by
  cases x <;> first|rfl|exact absurd rfl (hne.1 _)|exact absurd rfl (hne.2 _)
 rw [e,qw]
 cases w.cell? a with
 |some v=>dsimp only;split <;> rfl
 |none=>rfl
theorem Uw{α:Type}(p:Program)(a:Addr){x:Value}(hne:(∀c,x≠ .agg c)/\∀c,x≠ .tuple c)(k:Sem α)(w:World)(es:Array Event):Sem.runT p (.store .plain a x k) w es=match qw p w a x with
  | .ok (w',t)=>k.runT p w' (es++t.toArray.map (⟨.cell ·,true,false⟩))
  | .error h=>(.halt h w,es):=by
 have e:Sem.runT p (.store .plain a x k) w es=(match w.cell? a with
  |some _=>if w.frozen? a then(.halt (.unsupported (.unsafePointer "a write to bytes that a string shares")) w,es)else k.runT p (w.setCell a x) (es.push ⟨.cell a,true,false⟩)
  |none=>match w.farStore p a x false with
   | .ok (w,touched)=>k.runT p w (es++touched.toArray.map (⟨.cell ·,true,false⟩))
   | .error h=>(.halt h w,es)):=by
  cases x <;> first|rfl|exact absurd rfl (hne.1 _)|exact absurd rfl (hne.2 _)
 rw [e,qw]
 cases w.cell? a with
 |some v=>dsimp only;split <;> simp
 |none=>rfl
theorem iZ{P:Program}{F:Array Func}:(sw P F).depth=P.depth:=rfl
section
variable (P:Program) (F:Array Func)
theorem fJ(t:TypeId):(sw P F).underlying t=P.underlying t:=rfl
theorem iN(t:TypeId):(sw P F).cellsOf t=P.cellsOf t:=rfl
theorem lG(t:TypeId):(sw P F).bytesOf t=P.bytesOf t:=rfl
theorem jO:∀ (d:Nat) (t:TypeId) (o:Nat),byteOfCell (sw P F) d t o=byteOfCell P d t o
 |0,_,_=>by unfold byteOfCell;rfl
 |d+1,t,o=>by
  unfold byteOfCell
  simp only [fJ,iN,lG,jO d]
  rfl
theorem uW:∀ (d:Nat) (t:TypeId) (o:Nat),cellHolding (sw P F) d t o=cellHolding P d t o
 |0,_,_=>by unfold cellHolding;rfl
 |d+1,t,o=>by
  unfold cellHolding
  simp only [fJ,iN,lG,uW d]
  rfl
theorem uo:∀ (d:Nat) (t:TypeId) (o:Nat),plainCell (sw P F) d t o=plainCell P d t o
 |0,_,_=>by unfold plainCell;rfl
 |d+1,t,o=>by
  unfold plainCell
  simp only [fJ,iN,uo d]
  rfl
theorem Qk:∀ (d:Nat) (t:TypeId),tight (sw P F) d t=tight P d t
 |0,_=>by unfold tight;rfl
 |d+1,t=>by
  unfold tight
  simp only [fJ,lG,Qk d]
theorem Db(c:Array Value)(e:TypeId):∀ (f x stop:Nat),seenCells (sw P F) c e f x stop=seenCells P c e f x stop
 |0,_,_=>by unfold seenCells;rfl
 |f+1,x,stop=>by
  unfold seenCells
  simp only [iN,lG,uW,iZ,Db c e f]
theorem P8{w v:World}{s:Addr}(h:w.1[s.block]? =v.1[s.block]?)(u:TypeId)(k:Addr)(b:Bool):w.seen P s u k b=v.seen (sw P F) s u k b:=by
 unfold World.seen
 simp only [h,uo,jO,Db,iZ,iN,lG]
 rfl
end
theorem U2{p:Program}{w:World}{s:Addr}{u:TypeId}{k:Addr}{b:Bool}{c:Array Value}{e:TypeId}{fz:Nat×Nat}{first:Nat}{like:Value}{r:List (Nat×Nat×List UInt8)}(h:w.seen p s u k b= .ok (c,e,fz,first,like,r)):w.1[s.block]? =some (.cells c e fz)/\plainCell p p.depth u k.off=some like:=by
 revert h
 simp only [World.seen,bind,Except.bind,pure,Except.pure,throw,throwThe,MonadExceptOf.throw]
 intro h
 repeat' split at h
 all_goals first
  |(cases h;done)
  |(simp only [Except.ok.injEq,Prod.mk.injEq]at h;obtain⟨rfl,rfl,rfl,_,rfl,_⟩:=h;exact⟨tQ,tQ⟩)
def Ez:Value->Prop
 | .bool _| .int _ _=>True
 |_=>False
def I7(P:Program)(u:TypeId):Prop:=∀off x,plainCell P P.depth u off=some x->Ez x
theorem Lf{x y:Value}{bs:List UInt8}(h:Value.ofBytes x bs=some y)(hx:Ez x):Ez y:=by
 unfold Value.ofBytes at h
 repeat' split at h
 all_goals first
  |(cases h;done)
  |(cases h;trivial)
  |exact hx.elim
theorem Tf{Z:Nat->Prop}{L:Lk}{x y:Value}{bs:List UInt8}(h:Value.ofBytes x bs=some y)(hx:Av Z L x):Av Z L y:=by
 unfold Value.ofBytes at h
 repeat' split at h
 all_goals first
  |(cases h;done)
  |(cases h;exact .bool _)
  |(cases h;exact .int _ _)
  |cases hx
theorem MO{P:Program}{F:Array Func}{w v:World}{s:Addr}(h:w.1[s.block]? =v.1[s.block]?)(u:TypeId)(k:Addr)(b:Bool):w.viewLoad P s u k b=v.viewLoad (sw P F) s u k b:=by
 unfold World.viewLoad
 rw [P8 P F h]
theorem Q0{p:Program}{w:World}{s:Addr}{u:TypeId}{k:Addr}{b:Bool}{x:Value}{t:List Addr}(hT:I7 p u)(h:w.viewLoad p s u k b= .ok (x,t)):Ez x/\∀a∈t,a.block=s.block/\s.block<w.1.size:=by
 unfold World.viewLoad at h
 cases e:w.seen p s u k b with
 |error _=>rw [e]at h;cases h
 | ok r=>
  obtain⟨c,e',fz,first,like,cells⟩:=r
  obtain⟨hs,hp⟩:=U2 e
  rw [e]at h
  simp only [bind,Except.bind,pure,Except.pure,throw,throwThe,MonadExceptOf.throw]at h
  split at h
  ·cases h
   refine⟨Lf tQ (hT _ _ hp),fun a ha=> ?_⟩
   obtain⟨y,_,rfl⟩:=List.mem_map.1 ha
   exact⟨rfl,(Array.getElem?_eq_some_iff.1 hs).1⟩
  ·cases h
theorem Iu{α β ε:Type}(f:β->α->Except ε β)(I:β->Prop)(hf:∀b a b',I b->f b a= .ok b'->I b'):∀ (l:List α) (b b':β),I b->l.foldlM f b= .ok b'->I b'
 | [],b,b',h,e=>by rw [List.foldlM_nil]at e;cases e;exact h
 |a :: l,b,b',h,e=>by
  rw [List.foldlM_cons]at e
  cases e1:f b a with
  |error _=>rw [e1]at e;cases e
  |ok b1=>rw [e1]at e;exact Iu f I hf l b1 b' (hf _ _ _ h e1) e
theorem um {p:Program} {w w':World} {s:Addr} {u:TypeId} {k:Addr} {x:Value} {b:Bool} {t:List Addr} (h:w.viewStore p s u k x b= .ok (w',t)):
  ∃c e fz c',w.1[s.block]? =some (.cells c e fz)/\w'={w with heap:=w.heap.setIfInBounds s.block (.cells c' e fz)}/\(∀Z L,(∀v∈c,Av Z L v)->∀v∈c',Av Z L v)/\(∀a∈t,a.block=s.block)/\
   ∀ (P:Program) (F:Array Func) (v:World),p=sw P F->v.1[s.block]? =w.1[s.block]? ->v.viewStore P s u k x b= .ok ({v with heap:=v.heap.setIfInBounds s.block (.cells c' e fz)},t):=by
 unfold World.viewStore at h
 simp only [bind,Except.bind,pure,Except.pure,throw,throwThe,MonadExceptOf.throw]at h
 split at h
 ·cases h
 ·next htg =>
  cases e0:w.seen p s u k b with
  |error _=>rw [e0]at h;cases h
  | ok r=>
   obtain⟨c,e,fz,first,like,cells⟩:=r
   have hs:=(U2 e0).1
   rw [e0]at h
   dsimp only at h
   cases hb:x.bytes? with
   |none=>rw [hb]at h;cases h
   | some bytes=>
    rw [hb]at h
    dsimp only at h
    split at h
    ·cases h
    ·next hsz=>
     split at h
     ·cases h
     ·next c' hf=>
      simp only [Except.ok.injEq,Prod.mk.injEq]at h
      obtain⟨rfl,rfl⟩:=h
      refine⟨c,e,fz,c',hs,rfl,fun Z L hc=> ?_,fun a ha=> ?_,fun P F v hp hv=> ?_⟩
      ·refine Iu _ (fun c'=>∀v∈c',Av Z L v) (fun cs y cs' hI hy=> ?_) _ _ _ hc hf
       repeat' split at hy
       all_goals first
        |(cases hy;done)
        | (cases hy
           intro v hv
           rcases Array.mem_or_eq_of_mem_setIfInBounds hv with m|m
           · exact hI v m
           · exact m▸Tf tQ (hI _ (Array.mem_of_getElem? tQ)))
      ·obtain⟨y,_,rfl⟩:=List.mem_map.1 ha
       rfl
      ·subst hp
       unfold World.viewStore
       rw [P8 P F hv,e0]
       simp only [Qk,iZ]at htg
       simp only [bind,Except.bind,pure,Except.pure,throw,throwThe,MonadExceptOf.throw,if_neg htg,hb,if_neg hsz]
       rw [hf]
section
variable {Z:Nat->Prop} {L:Lk}
theorem Yy{x:Value}(h:Ez x):Av Z L x:=by
 cases x with
 |bool b=>exact .bool b
 |int k n=>exact .int k n
 |_=>exact h.elim
theorem Dp{v:World}{p:Program}(hT:∀u,L.t u->I7 p u)(hobj:∀b o,¬ Z b->v.1[b]? =some o->AvO Z L o){a:Addr}{x:Value}{t:List Addr}(ha:¬ Z a.block)(e:sM p v a= .ok (x,t)):Av Z L x/\∀b∈t,¬ Z b.block/\b.block<v.1.size:=by
 unfold sM at e
 split at e
 ·next y hc=>
  cases e
  refine⟨?_,fun b hb=> ?_⟩
  ·unfold World.cell? at hc
   split at hc
   ·next c t f e=>
    split at hc
    ·cases hc
    ·have:=hobj _ _ ha e
     cases this with
     |cells hcs=>exact hcs _ (Array.mem_of_getElem? hc)
   ·cases hc
  ·simp only [List.mem_singleton]at hb
   subst hb
   exact⟨ha,lt_of_cell hc⟩
 ·unfold World.farLoad at e
  split at e
  ·next s u hh=>
   have ho:=hobj _ _ ha hh
   cases ho with
   | view hz ht=>
    split at e
    ·next r hv=>
     cases e
     obtain⟨h1,h2⟩:=Q0 (hT _ ht) hv
     exact⟨Yy h1,fun b hb=>by rw [(h2 b hb).1];exact⟨hz,(h2 b hb).2⟩⟩
    ·cases e
  ·cases e
theorem aaw{P:Program}{F:Array Func}{w v:World}(hr:Rel Z w v)(hobj:∀b o,¬ Z b->v.1[b]? =some o->AvO Z L o){a:Addr}(ha:¬ Z a.block):sM P w a=sM (sw P F) v a:=by
 unfold sM
 rw [Ra hr ha]
 cases v.cell? a with
 |some y=>rfl
 | none=>
  unfold World.farLoad World.noCell
  dsimp only
  rw [hr.same _ ha]
  cases hh:v.1[a.block]? with
  |none=>rfl
  | some o=>
   cases o with
   |view s u=>
    have ho:=hobj _ _ ha hh
    cases ho with
    |view hz=>dsimp only;rw [MO (F:=F) (hr.same _ hz)]
   |_=>rfl
theorem Zt{v:World}(hobj:∀b o,¬ Z b->v.1[b]? =some o->AvO Z L o){p:Program}{a:Addr}{h:Halt}(ha:¬ Z a.block)(e:sM p v a= .error h):iP h:=by
 unfold sM at e
 split at e
 ·cases e
 ·unfold World.farLoad at e
  split at e
  ·split at e
   ·cases e
   ·cases e;exact .unsf _
  ·cases e
   unfold World.noCell
   split
   ·next hh=>have:=hobj _ _ ha hh;cases this
   ·exact .unsf _
   ·exact .stuck _
theorem Jo{v v':World}(ha:AvW Z L v){p:Program}{a:Addr}{x:Value}{t:List Addr}(hz:¬ Z a.block)(hx:Av Z L x)(e:qw p v a x= .ok (v',t)):
  AvW Z L v'/\v'.1.size=v.1.size/\(∀b∈t,¬ Z b.block/\b.block<v.1.size)/\v'.tape=v.tape/\v'.drawn=v.drawn:=by
 unfold qw at e
 split at e
 ·next y hc=>
  split at e
  ·cases e
  ·cases e
   refine⟨ha.setCell a hz hx,jc _ _ _,fun b hb=> ?_,rfl,rfl⟩
   simp only [List.mem_singleton]at hb
   subst hb
   exact⟨hz,lt_of_cell hc⟩
 ·unfold World.farStore at e
  split at e
  ·next s u hh=>
   have ho:=ha.obj _ _ hz hh
   cases ho with
   | view hz2=>
    split at e
    ·next r hv=>
     obtain⟨v2,t2⟩:=r
     cases e
     obtain⟨c,e',fz,c',h1,rfl,h3,h4,_⟩:=um hv
     have hc:=ha.obj _ _ hz2 h1
     cases hc with
     |cells hc=>
     exact⟨ha.setObj _ hz2 (.cells (h3 Z L hc)),vS,fun b hb=>by rw [h4 b hb];exact⟨hz2,lt_of_heap h1⟩,rfl,rfl⟩
    ·cases e
  ·cases e
theorem Zd{P:Program}{F:Array Func}{w v v':World}(hr:Rel Z w v)(ha:AvW Z L v){a:Addr}{x:Value}{t:List Addr}(hz:¬ Z a.block)(e:qw (sw P F) v a x= .ok (v',t)):
  ∃w',qw P w a x= .ok (w',t)/\Rel Z w' v'/\w'.1.size=w.1.size/\∀b,Z b->w'.1[b]? =w.1[b]? :=by
 unfold qw at e⊢
 rw [Ra hr hz,Ir hr hz]
 split at e
 ·split at e
  ·cases e
  ·next hf=>
   cases e
   rw [if_neg hf]
   exact⟨_,rfl,hr.setCell a x hz,jc _ _ _,fun b hb=>iV _ _ _ (fun e=>hz (e▸hb))⟩
 ·unfold World.farStore at e⊢
  rw [hr.same _ hz]
  split at e
  ·next s u hh=>
   have ho:=ha.obj _ _ hz hh
   cases ho with
   | view hz2=>
    split at e
    ·next r hv=>
     obtain⟨v2,t2⟩:=r
     cases e
     obtain⟨c,e',fz,c',h1,rfl,h3,h4,h5⟩:=um hv
     rw [h5 P F w rfl (hr.same _ hz2)]
     exact⟨_,rfl,hr.setObj _ _,vS,fun b hb=>by simp only [Array.getElem?_setIfInBounds_ne (show s.block≠b from fun e=>hz2 (e▸hb))]⟩
    ·cases e
  ·cases e
theorem aaf{v:World}(ha:AvW Z L v){p:Program}{a:Addr}{x:Value}{h:Halt}(hz:¬ Z a.block)(e:qw p v a x= .error h):iP h:=by
 unfold qw at e
 split at e
 ·split at e
  ·cases e;exact .unsf _
  ·cases e
 ·unfold World.farStore at e
  split at e
  ·split at e
   ·cases e
   ·cases e;exact .unsf _
  ·cases e
   unfold World.noCell
   split
   ·next hh=>have:=ha.obj _ _ hz hh;cases this
   ·exact .unsf _
   ·exact .stuck _
end
theorem sU{P:Program}(F:Array Func){u:TypeId}(h:I7 P u):I7 (sw P F) u:=fun off x e=>h off x (by rwa [uo,iZ]at e)
theorem Hyg.sim{P:Program}{F:Array Func}{Z:Nat->Prop}{L:Lk}(hT:∀u,L.t u->I7 P u){α:Type}{Q:α->Prop}{s:Sem α}(h:Hyg P (sw P F) Z L Q s):
  ∀{w v:World} (es:Array Event) (a:α) (v':World),Rel Z w v->AvW Z L v->s.run (sw P F) v= .ok a v'->Out Z L Q P s w es a v':=by
 induction h with
 |pure hq=>
  intro w v es a v' hr ha e
  simp only [Sem.run,Result.ok.injEq]at e
  obtain⟨rfl,rfl⟩:=e
  exact⟨hq,⟨w,#[],by simp [Sem.runT],hr,vS,Nat.le_refl _,fun _ _=>rfl⟩,ha⟩
 | @load a k hz _ ih=>
  intro w v es x v' hr ha e
  rw [run_load]at e
  cases hg:sM (sw P F) v a with
  |error h=>rw [hg]at e;cases e
  | ok r=>
   obtain⟨y,t⟩:=r
   rw [hg]at e
   obtain⟨q1,q2⟩:=Dp (fun u hu=>sU F (hT u hu)) ha.obj hz hg
   have hw:sM P w a= .ok (y,t):=(aaw hr ha.obj hz).trans hg
   obtain⟨o1,⟨w',new,o2,o3,o4,o5,o6⟩,o7⟩:=ih y q1 (es++t.toArray.map (⟨.cell ·,false,false⟩)) x v' hr ha e
   refine⟨o1,⟨w',t.toArray.map (⟨.cell ·,false,false⟩)++new, ?_,o3,fun e he=> ?_,o5,o6⟩,o7⟩
   ·rw [Vx,hw]
    exact o2.trans (by rw [Array.append_assoc])
   ·rcases Array.mem_append.1 he with m|m
    ·obtain⟨b,hb,rfl⟩:=Array.mem_map.1 m
     obtain⟨z1,z2⟩:=q2 b (by simpa using hb)
     exact .inl ⟨b,false,rfl,Nat.lt_of_lt_of_le (by rw [hr.size];exact z2) o5,z1⟩
    ·exact o4 e m
 | @store a x k hz hx _ ih=>
  intro w v es y v' hr ha e
  have hne:(∀c,x≠ .agg c)/\(∀c,x≠ .tuple c):=by
   constructor <;> · rintro c rfl;simp [Sem.run]at e
  rw [run_store _ _ hne]at e
  cases hg:qw (sw P F) v a x with
  |error h=>rw [hg]at e;cases e
  | ok r=>
   obtain⟨v1,t⟩:=r
   rw [hg]at e
   obtain⟨q1,q2,q3,_⟩:=Jo ha hz hx hg
   obtain⟨w1,p1,p2,p3,p4⟩:=Zd (F:=F) hr ha hz hg
   obtain⟨o1,⟨w',new,o2,o3,o4,o5,o6⟩,o7⟩:=ih (es++t.toArray.map (⟨.cell ·,true,false⟩)) y v' p2 q1 e
   rw [p3]at o5
   refine⟨o1,⟨w',t.toArray.map (⟨.cell ·,true,false⟩)++new, ?_,o3,fun e he=> ?_,o5,fun b hb=>by rw [o6 b hb,p4 b hb]⟩,o7⟩
   ·rw [Uw _ _ hne,p1]
    exact o2.trans (by rw [Array.append_assoc])
   ·rcases Array.mem_append.1 he with m|m
    ·obtain⟨b,hb,rfl⟩:=Array.mem_map.1 m
     obtain⟨z1,z2⟩:=q3 b (by simpa using hb)
     exact .inl ⟨b,true,rfl,Nat.lt_of_lt_of_le (by rw [hr.size];exact z2) o5,z1⟩
    ·exact o4 e m
 | @new o k ho _ ih=>
  intro w v es x v' hr ha e
  have hn:¬ Z v.1.size:=fun hz=>absurd (ha.low _ hz) (Nat.lt_irrefl _)
  obtain⟨o1,⟨w',new,o2,o3,o4,o5,o6⟩,o7⟩:=ih v.1.size hn es x v' (hr.push o) (ha.push ho) (by simpa [Sem.run]using e)
  simp only [Array.size_push]at o5
  refine⟨o1,⟨w',new,by simp only [Sem.runT];rw [hr.size];exact o2,o3,o4,vO,fun b hb=> ?_⟩,o7⟩
  rw [o6 b hb]
  have:=ha.low b hb
  simp only [Array.getElem?_push,hr.size]
  rw [if_neg vO]
 | @shape r k hz _ ih=>
  intro w v es x v' hr ha e
  obtain⟨o1,⟨w',new,o2,o3⟩,o7⟩:=ih (v.shape? r) es x v' hr ha (by simpa [Sem.run]using e)
  have:w.shape? r=v.shape? r:=by unfold World.shape?;rw [hr.same _ hz]
  exact⟨o1,⟨w',new,by simp only [Sem.runT];rw [this];exact o2,o3⟩,o7⟩
 | @frozen a k hz _ ih=>
  intro w v es x v' hr ha e
  obtain⟨o1,⟨w',new,o2,o3⟩,o7⟩:=ih (v.frozen? a) es x v' hr ha (by simpa [Sem.run]using e)
  exact⟨o1,⟨w',new,by simp only [Sem.runT];rw [Ir hr hz];exact o2,o3⟩,o7⟩
 | @freeze a n k hz _ ih=>
  intro w v es x v' hr ha e
  obtain⟨o1,⟨w',new,o2,o3,o4,o5,o6⟩,o7⟩:=ih es x v' (hr.freeze a n hz) (ha.freeze a n hz) (by simpa [Sem.run]using e)
  rw [mI]at o5
  exact⟨o1,⟨w',new,by simp only [Sem.runT];exact o2,o3,o4,o5,fun b hb=>by rw [o6 b hb,oZ _ _ _ (fun e=>hz (e▸hb))]⟩,o7⟩
 | @getObj r k hz _ ih=>
  intro w v es x v' hr ha e
  simp only [Sem.run]at e
  cases hc:v.1[r]? with
  |none=>rw [hc]at e;cases e
  | some o=>
   have ho:=ha.obj _ _ hz hc
   rw [hc]at e
   have key:∀ (hncells:∀c t f,o≠ .cells c t f) (hch:o.isChan=false),(k o).run (sw P F) v= .ok x v'->Out Z L Q P (.getObj r k) w es x v':=by
    intro hn hch e
    obtain⟨o1,⟨w',new,o2,o3,o4,o5,o6⟩,o7⟩:=ih _ ho (es.push ⟨.obj r,false,o.isChan⟩) x v' hr ha e
    have hw:w.1[r]? =some o:=(hr.same _ hz).trans hc
    refine⟨o1,⟨w',#[⟨.obj r,false,o.isChan⟩]++new, ?_,o3,fun e he=> ?_,o5,o6⟩,o7⟩
    ·have:Sem.runT P (.getObj r k) w es=(k o).runT P w (es.push ⟨.obj r,false,o.isChan⟩):=by
      simp only [Sem.runT,hw] <;> (cases o <;> first|rfl|exact absurd rfl (hn _ _ _))
     rw [this,o2,Hl]
    ·rcases Array.mem_append.1 he with m|m
     ·simp only [List.mem_toArray,List.mem_singleton]at m
      subst m
      exact .inr (.inl ⟨r,false,by rw [hch],Nat.lt_of_lt_of_le (lt_of_heap hw) o5,hz⟩)
     ·exact o4 e m
   cases ho with
   |cells=>cases e
   |map hm=>exact key (by intros;simp) rfl e
   |number hm=>exact key (by intros;simp) rfl e
   |iter s n=>exact key (by intros;simp) rfl e
   |view=>exact key (by intros;simp) rfl e
 | @setObj r o k hz ho _ ih=>
  intro w v es x v' hr ha e
  simp only [Sem.run]at e
  cases hc:v.1[r]? with
  |none=>rw [hc]at e;cases e
  | some o'=>
   have ho':=ha.obj _ _ hz hc
   rw [hc]at e
   have hch:o.isChan=false:=by cases ho <;> rfl
   have key:∀ (hncells:∀c t f,o'≠ .cells c t f),k.run (sw P F) {v with heap:=v.heap.setIfInBounds r o}= .ok x v'->Out Z L Q P (.setObj r o k) w es x v':=by
    intro hn e
    obtain⟨o1,⟨w',new,o2,o3,o4,o5,o6⟩,o7⟩:=ih (es.push ⟨.obj r,true,o.isChan⟩) x v' (hr.setObj r o) (ha.setObj r hz ho) e
    have hw:w.1[r]? =some o':=(hr.same _ hz).trans hc
    simp only [Array.size_setIfInBounds]at o5
    refine⟨o1,⟨w',#[⟨.obj r,true,o.isChan⟩]++new, ?_,o3,fun e he=> ?_,o5,fun b hb=> ?_⟩,o7⟩
    ·have:Sem.runT P (.setObj r o k) w es=k.runT P {w with heap:=w.heap.setIfInBounds r o} (es.push ⟨.obj r,true,o.isChan⟩):=by
      simp only [Sem.runT,hw] <;> (cases o' <;> first|rfl|exact absurd rfl (hn _ _ _))
     rw [this,o2,Hl]
    ·rcases Array.mem_append.1 he with m|m
     ·simp only [List.mem_toArray,List.mem_singleton]at m
      subst m
      exact .inr (.inl ⟨r,true,by rw [hch],Nat.lt_of_lt_of_le (lt_of_heap hw) o5,hz⟩)
     ·exact o4 e m
    ·rw [o6 b hb]
     simp only [Array.getElem?_setIfInBounds_ne (show r≠b from fun e=>hz (e▸hb))]
   cases ho' with
   |cells=>cases e
   |map hm=>exact key (by intros;simp) e
   |number hm=>exact key (by intros;simp) e
   |iter s n=>exact key (by intros;simp) e
   |view=>exact key (by intros;simp) e
 | @choose q k _ ih=>
  intro w v es x v' hr ha e
  simp only [Sem.run]at e
  split at e
  ·next hq=>
   obtain⟨o1,⟨w',new,o2,o3⟩,o7⟩:=ih _ es x v' hr ha e
   exact⟨o1,⟨w',new,by simp only [Sem.runT,hq,if_true];exact o2,o3⟩,o7⟩
  ·next hq=>
   obtain⟨o1,⟨w',new,o2,o3⟩,o7⟩:=ih _ es x v' hr.draw (ha.draw _) e
   exact⟨o1,⟨w',new,by
    have hq':q.forced=false:=by simpa using hq
    simp only [Sem.runT,hq',Bool.false_eq_true,if_false]
    rw [hr.tape,hr.drawn]
    have e1:({w with drawn:=v.drawn+1,tape:=v.tape}:World)={w with drawn:=w.drawn+1}:=by rw [←hr.tape,←hr.drawn]
    exact(congrArg (fun u=>(k (q.cut (v.tape v.drawn q))).runT P u es) e1).trans o2,o3⟩,o7⟩
 | @program k hk _ ih=>
  intro w v es x v' hr ha e
  simp only [Sem.run]at e
  rw [hk]at e
  obtain⟨o1,⟨w',new,o2,o3⟩,o7⟩:=ih es x v' hr ha e
  exact⟨o1,⟨w',new,by simp only [Sem.runT];exact o2,o3⟩,o7⟩
 | @noRoom mk k hmk _ ih=>
  intro w v es x v' hr ha e
  obtain⟨o1,⟨w',new,o2,o3,o4,o5⟩,o7⟩:=ih (es.push ⟨.mark mk,false,true⟩) x v' hr ha (by simpa [Sem.run]using e)
  refine⟨o1,⟨w',#[⟨.mark mk,false,true⟩]++new, ?_,o3,fun e he=> ?_,o5⟩,o7⟩
  ·simp only [Sem.runT]
   rw [o2,Hl]
  ·rcases Array.mem_append.1 he with m|m
   ·simp only [List.mem_toArray,List.mem_singleton]at m
    exact .inr (.inr ⟨mk,hmk,m⟩)
   ·exact o4 e m
 |env _ h2 _=>
  intro w v es x v' hr ha e
  simp only [Sem.run]at e
  exact(h2 _ _ _ _ e).elim
 |halt _=>
  intro w v es x v' hr ha e
  simp [Sem.run]at e
theorem Hyg.FC{P:Program}{F:Array Func}{Z:Nat->Prop}{L:Lk}(hT:∀u,L.t u->I7 P u){α:Type}{Q:α->Prop}{s:Sem α}(h:Hyg P (sw P F) Z L Q s):
  ∀{v:World} (x:Halt) (v':World),AvW Z L v->s.run (sw P F) v= .halt x v'->iP x:=by
 induction h with
 |pure hq=>intro v x v' ha e;simp [Sem.run]at e
 | @load a k hz _ ih=>
  intro v x v' ha e
  rw [run_load]at e
  cases hg:sM (sw P F) v a with
  |error h=>rw [hg]at e;cases e;exact Zt ha.obj hz hg
  |ok r=>rw [hg]at e;exact ih _ (Dp (fun u hu=>sU F (hT u hu)) ha.obj hz hg).1 x v' ha e
 | @store a y k hz hy _ ih=>
  intro v x v' ha e
  by_cases hne:(∀c:Array Value,y≠ .agg c)/\(∀c:Array Value,y≠ .tuple c)
  ·rw [run_store _ _ hne]at e
   cases hg:qw (sw P F) v a y with
   |error h=>rw [hg]at e;cases e;exact aaf ha hz hg
   |ok r=>rw [hg]at e;exact ih x v' (Jo ha hz hy hg).1 e
  ·cases y with
   |agg=>simp only [Sem.run,Result.halt.injEq]at e;rw [←e.1];exact .stuck _
   |tuple=>simp only [Sem.run,Result.halt.injEq]at e;rw [←e.1];exact .stuck _
   |_=>exact absurd ⟨fun _=>by simp,fun _=>by simp⟩ hne
 | @new o k ho _ ih=>
  intro v x v' ha e
  have hn:¬ Z v.1.size:=fun hz=>absurd (ha.low _ hz) (Nat.lt_irrefl _)
  exact ih v.1.size hn x v' (ha.push ho) (by simpa [Sem.run]using e)
 |shape hz _ ih=>intro v x v' ha e;exact ih _ x v' ha (by simpa [Sem.run]using e)
 |frozen hz _ ih=>intro v x v' ha e;exact ih _ x v' ha (by simpa [Sem.run]using e)
 | @freeze a n k hz _ ih=>intro v x v' ha e;exact ih x v' (ha.freeze a n hz) (by simpa [Sem.run]using e)
 | @getObj r k hz _ ih=>
  intro v x v' ha e
  simp only [Sem.run]at e
  split at e
  ·cases e;exact .stuck _
  ·next o hn hc=>exact ih _ (ha.obj _ _ hz hc) x v' ha e
  ·cases e;exact .stuck _
 | @setObj r o k hz ho _ ih=>
  intro v x v' ha e
  simp only [Sem.run]at e
  split at e
  ·cases e;exact .stuck _
  ·exact ih x v' (ha.setObj r hz ho) e
  ·cases e;exact .stuck _
 | @choose q k _ ih=>
  intro v x v' ha e
  simp only [Sem.run]at e
  split at e
  ·exact ih _ x v' ha e
  ·exact ih _ x v' (ha.draw _) e
 | @program k hk _ ih=>
  intro v x v' ha e
  simp only [Sem.run]at e
  rw [hk]at e
  exact ih x v' ha e
 |noRoom _ _ ih=>intro v x v' ha e;exact ih x v' ha (by simpa [Sem.run]using e)
 |env _ _ ih=>intro v x v' ha e;exact ih _ x v' ha (by simpa only [Sem.run,GD]using e)
 |halt hh=>intro v x v' ha e;simp only [Sem.run,Result.halt.injEq]at e;rw [←e.1];exact hh
end
section
open Go
section
variable {P:Program} {F:Array Func} {Z:Nat->Prop} {L:Lk} {α β:Type} {Q:α->Prop} {R:β->Prop}
theorem ak(s:String):Hyg P (sw P F) Z L Q (stuck s):= .halt (.stuck s)
theorem iy(s:String):Hyg P (sw P F) Z L Q (unsupported (.noEntry s)):= .halt (.noEntry s)
theorem fq:Hyg P (sw P F) Z L Q (unsupported .addressObserved):= .halt .addr
theorem dS(s:String):Hyg P (sw P F) Z L Q (unsupported (.unsafePointer s)):= .halt (.unsf s)
theorem lI(s:String):Hyg P (sw P F) Z L Q (unsupported (.resourceLimit s)):= .halt (.limit s)
theorem jh(v:Value):Hyg P (sw P F) Z L Q (goPanic v):= .halt (.panic v)
theorem dP{f:Program->Sem β}(e:f (sw P F)=f P)(h:Hyg P (sw P F) Z L R (f P)):Hyg P (sw P F) Z L R (program>>=f):= .program e h
theorem fM(q:Question):Hyg P (sw P F) Z L (fun _=>True) (choose q):= .choose fun _=> .pure trivial
theorem aP{c:Prop}[Decidable c]{s t:Sem α}(h:c->Hyg P (sw P F) Z L Q s)(h':¬ c->Hyg P (sw P F) Z L Q t):Hyg P (sw P F) Z L Q (if c then s else t):=by
 by_cases hc:c
 ·rw [if_pos hc];exact h hc
 ·rw [if_neg hc];exact h' hc
theorem dL(t:TypeId):Hyg P (sw P F) Z L (fun i=>P.info? t=some i) (typeInfo t):=by
 unfold typeInfo
 refine dP rfl ?_
 split
 ·exact .pure tQ
 ·exact ak _
theorem aG(t:TypeId):Hyg P (sw P F) Z L (fun d=>P.underlying t=some d) (underlying t):=by
 unfold underlying
 refine dP rfl ?_
 split
 ·exact .pure tQ
 ·exact ak _
theorem bK(t:TypeId):Hyg P (sw P F) Z L (fun _=>True) (sizeOf t):=by
 unfold sizeOf
 exact Hyg.bind (dL t) fun _ _=> .pure trivial
theorem LZ(t:TypeId):Hyg P (sw P F) Z L (fun _=>True) (isAgg t):=by
 unfold isAgg
 refine Hyg.bind (aG t) fun d _=> ?_
 split <;> exact .pure trivial
theorem add_block(a:Addr)(n:Nat):(a.add n).block=a.block:=by unfold Addr.add;split <;> rfl
theorem Av.cells{v:Value}(h:Av Z L v):∀c∈v.cells,Av Z L c:=by
 cases h with
 |agg h=>exact h
 |_=>intro c hc;simp only [Value.cells,List.mem_toArray,List.mem_singleton]at hc;subst hc;constructor <;> assumption
theorem yj{a:Addr}(ha:¬ Z a.block):Hyg P (sw P F) Z L (Av Z L) (load a):= .load ha fun _ hv=> .pure hv
theorem pV{a:Addr}(ha:¬ Z a.block):∀ (n i:Nat) (acc:Array Value),(∀v∈acc,Av Z L v)->Hyg P (sw P F) Z L (fun cs=>∀v∈cs,Av Z L v) (loadCellsFrom a i n acc)
 |0,_,_,h=> .pure h
 |n+1,i,acc,h=>by
  unfold loadCellsFrom
  refine Hyg.bind (yj (by rw [add_block];exact ha)) fun v hv=> ?_
  refine pV ha n (i+1) _ fun c hc=> ?_
  rcases Array.mem_push.1 hc with m|m
  ·exact h c m
  ·exact m▸hv
theorem qB{a:Addr}(ha:¬ Z a.block)(n:Nat):Hyg P (sw P F) Z L (fun cs=>∀v∈cs,Av Z L v) (loadCells a n):=pV ha n 0 #[] vS
theorem kG{a:Addr}(ha:¬ Z a.block):∀ (vs:List Value) (i:Nat),(∀v∈vs,Av Z L v)->Hyg P (sw P F) Z L (fun _=>True) (storeCells a vs i)
 | [],_,_=>by unfold storeCells;exact .pure trivial
 |v :: vs,i,h=>by
  unfold storeCells
  refine .store (by rw [add_block];exact ha) (h v vS) ?_
  exact kG ha vs (i+1) fun c hc=>h c (by simp [hc])
theorem EJ(t:TypeId){a:Addr}(ha:¬ Z a.block):Hyg P (sw P F) Z L (Av Z L) (loadVar t a):=by
 unfold loadVar
 refine Hyg.bind (LZ t) fun b _=> ?_
 split
 ·refine Hyg.bind (bK t) fun n _=> ?_
  exact Hyg.bind (qB ha n) fun cs hcs=> .pure (.agg hcs)
 ·exact yj ha
theorem ML(t:TypeId){a:Addr}(ha:¬ Z a.block){v:Value}(hv:Av Z L v):Hyg P (sw P F) Z L (fun _=>True) (storeVar t a v):=by
 unfold storeVar
 refine Hyg.bind (bK t) fun n _=> ?_
 split
 ·exact ak _
 ·exact kG ha _ _ fun c hc=>hv.cells c (by simpa using hc)
theorem kg(t:TypeId){cs:Array Value}(h:∀v∈cs,Av Z L v):Hyg P (sw P F) Z L (fun a=>¬ Z a.block) (newRow t cs):=by
 unfold newRow newObj
 exact .new (.cells h) fun r hr=> .pure hr
theorem ou(t:TypeId){v:Value}(h:Av Z L v):Hyg P (sw P F) Z L (fun a=>¬ Z a.block) (newVar t v):=kg t h.cells
theorem sQ(t:TypeId):Hyg P (sw P F) Z L (fun _=>True) (elemOf t):=by
 unfold elemOf
 refine Hyg.bind (aG t) fun d _=> ?_
 split
 ·exact .pure trivial
 ·exact ak _
theorem mem_extract{cs:Array Value}{i j:Nat}{v:Value}(h:v∈cs.extract i j):v∈cs:=by
 obtain⟨k,hk,rfl⟩:=Array.mem_iff_getElem.1 h
 rw [Array.getElem_extract]
 exact Array.getElem_mem _
theorem jS(t:TypeId){cs:Array Value}(h:∀v∈cs,Av Z L v)(off:Nat):Hyg P (sw P F) Z L (Av Z L) (part t cs off):=by
 unfold part
 refine Hyg.bind (LZ t) fun b _=> ?_
 split
 ·exact Hyg.bind (bK t) fun n _=> .pure (.agg fun v hv=>h v (mem_extract hv))
 ·split
  ·next e=>exact .pure (h _ (Array.mem_of_getElem? e))
  ·exact ak _
theorem ED(t:TypeId)(hZ:¬ Z P.globals.size):Av Z L (typeHandle P t):= .ptr hZ
theorem dU(e:RuntimeError)(hZ:¬ Z P.globals.size):Hyg P (sw P F) Z L Q (runtimePanic e):=by
 unfold runtimePanic
 refine dP rfl ?_
 cases e with
 |bounds x y s c=>exact jh _
 |error m=>exact jh _
 |plain m=>exact jh _
 |nilDeref=>exact jh _
 | typeAssertion i c a m=>
  refine Hyg.bind (sQ _) fun t _=> ?_
  refine Hyg.bind (ou t (.agg fun v hv=> ?_)) fun r _=>jh _
  simp only [List.mem_toArray,List.mem_cons,List.not_mem_nil,or_false]at hv
  rcases hv with rfl|rfl|rfl|rfl
  ·split
   ·exact ED _ hZ
   ·exact .ptr0
  ·split
   ·exact ED _ hZ
   ·exact .ptr0
  ·exact ED _ hZ
  ·exact .string _
 |panicNil=>
  refine Hyg.bind (sQ _) fun t _=> ?_
  exact Hyg.bind (ou t (.agg fun v hv=>by simp at hv)) fun r _=>jh _
 |unhashable t=>exact jh _
theorem mO(v:Value):Hyg P (sw P F) Z L (fun _=>True) (asIntOf v):=by
 unfold asIntOf
 split
 ·exact .pure trivial
 ·exact fq
 ·exact ak _
theorem lS(v:Value):Hyg P (sw P F) Z L (fun _=>True) (asInt v):=by
 unfold asInt
 exact Hyg.bind (mO v) fun _ _=> .pure trivial
theorem Bg(v:Value):Hyg P (sw P F) Z L (fun _=>True) (asBool v):=by
 unfold asBool
 split
 ·exact .pure trivial
 ·exact ak _
theorem V5{v:Value}(h:Av Z L v):Hyg P (sw P F) Z L (fun cs=>∀c∈cs,Av Z L c) (asAgg v):=by
 unfold asAgg
 split
 ·cases h with|agg h=>exact .pure h
 ·exact ak _
theorem kW{v:Value}(h:Av Z L v):Hyg P (sw P F) Z L (fun a=>¬ Z a.block) (Instr.sureAddr v):=by
 unfold Instr.sureAddr
 split
 ·cases h with|ptr h=>exact .pure h
 ·exact ak _
theorem Uu{v:Value}(h:Av Z L v)(hZ:¬ Z P.globals.size):Hyg P (sw P F) Z L (fun a=>¬ Z a.block) (asAddr v):=by
 unfold asAddr
 split
 ·cases h with|ptr h=>exact .pure h
 ·exact dU _ hZ
 ·exact ak _
theorem ug{r:Nat}(hr:¬ Z r):Hyg P (sw P F) Z L (fun o=>∀x,o=some x->¬ Z x.1.block) (viewAt r):=by
 unfold viewAt
 refine .shape hr fun s=> ?_
 show Hyg P (sw P F) Z L _ (if s.isSome=true then _ else _)
 split
 ·exact .pure (by rintro x ⟨⟩)
 ·refine .getObj hr fun o ho=> ?_
  cases ho with
  |view h _=>exact .pure (by rintro x ⟨⟩;exact h)
  |_=>exact .pure (by rintro x ⟨⟩)
theorem Dc{r:Nat}(hr:¬ Z r):Hyg P (sw P F) Z L (fun o=>∀x,o=some x->¬ Z x.1.block) (numberAt r):=by
 unfold numberAt
 refine .shape hr fun s=> ?_
 show Hyg P (sw P F) Z L _ (if s.isSome=true then _ else _)
 split
 ·exact .pure (by rintro x ⟨⟩)
 ·refine .getObj hr fun o ho=> ?_
  cases ho with
  |cells=>exact .pure (by rintro x ⟨⟩)
  |map=>exact .pure (by rintro x ⟨⟩)
  |number h=>exact .pure (by rintro x ⟨⟩;exact h)
  |iter s n=>exact .pure (by rintro x ⟨⟩)
  |view=>exact .pure (by rintro x ⟨⟩)
theorem bS{n:Addr}(hn:¬ Z n.block):Hyg P (sw P F) Z L (fun x=>¬ Z x.1.block) (behindNumber n):=by
 unfold behindNumber
 refine Hyg.bind (Dc hn) fun o ho=> .pure ?_
 cases o with
 |none=>exact hn
 |some x=>exact ho x rfl
theorem BM{a:Addr}(ha:¬ Z a.block)(l:Bool):Hyg P (sw P F) Z L (Av Z L) (asNumber a l):=by
 unfold asNumber newObj
 exact .new (.number ha) fun r hr=> .pure (.ptr hr)
theorem Ba{a:Addr}(ha:¬ Z a.block):Hyg P (sw P F) Z L (fun _=>True) (noView a):=by
 unfold noView
 exact Hyg.bind (ug ha) fun o _=>aP (fun _=>dS _) fun _=> .pure trivial
theorem fZ{r:Nat}(hr:¬ Z r):Hyg P (sw P F) Z L (fun _=>True) (shape r):= .shape hr fun _=> .pure trivial
theorem nU{a:Addr}(ha:¬ Z a.block):Hyg P (sw P F) Z L (fun _=>True) (frozen a):= .frozen ha fun _=> .pure trivial
theorem j4{a:Addr}(ha:¬ Z a.block):Hyg P (sw P F) Z L (fun _=>True) (byteOf a):=by
 unfold byteOf
 cases a.spot with
 |some s=>exact .pure trivial
 | none=>
  refine dP ?_ ?_
  ·simp only [iN,jO,lG,iZ]
  refine Hyg.bind (Ba ha) fun _ _=> ?_
  refine Hyg.bind (fZ ha) fun s _=> ?_
  split
  ·dsimp only
   split
   ·exact .pure trivial
   ·split
    ·exact .pure trivial
    ·exact ak _
  ·exact ak _
theorem Tp{a:Addr}(ha:¬ Z a.block)(c b:Nat):Hyg P (sw P F) Z L (fun a=>¬ Z a.block) (partAt a c b):=by
 unfold partAt
 refine Hyg.bind (j4 ha) fun _ _=> ?_
 refine Hyg.bind (j4 (a:={block:=a.block,off:=a.off+c}) ha) fun _ _=> .pure ?_
 split <;> exact ha
theorem JD{a:Addr}(ha:¬ Z a.block)(f:Field):Hyg P (sw P F) Z L (fun a=>¬ Z a.block) (fieldPlace a f):=by
 unfold fieldPlace
 refine Hyg.bind (bK _) fun n _=> ?_
 split
 ·exact Tp ha _ _
 ·exact .pure (by rw [add_block];exact ha)
end
end
section
open Go
def avS:Value->Bool
 | .bool _| .int _ _| .string _| .pointer none| .slice none _ _| .map none| .chan none| .nilFunc| .nilIface=>true
 |_=>false
def avB:Value->Bool
 | .agg cs=>cs.all avS
 | .tuple cs=>cs.all avS
 |v=>avS v
theorem Et{Z:Nat->Prop}{L:Lk}{v:Value}(h:avS v=true):Av Z L v:=by
 cases v with
 |bool b=>exact .bool b
 |int k n=>exact .int k n
 |string s=>exact .string s
 |pointer a=>cases a with|none=>exact .ptr0|some a=>simp [avS]at h
 |slice a l c=>cases a with|none=>exact .slice0 l c|some a=>simp [avS]at h
 |map r=>cases r with|none=>exact .map0|some a=>simp [avS]at h
 |chan r=>cases r with|none=>exact .chan0|some a=>simp [avS]at h
 |nilFunc=>exact .nilFunc
 |nilIface=>exact .nilIface
 |_=>simp [avS]at h
theorem zY{Z:Nat->Prop}{L:Lk}{v:Value}(h:avB v=true):Av Z L v:=by
 cases v with
 |agg cs=>exact .agg fun c hc=>Et (Array.all_eq_true_iff_forall_mem.1 h c hc)
 |tuple cs=>exact .tuple fun c hc=>Et (Array.all_eq_true_iff_forall_mem.1 h c hc)
 |_=>exact Et h
def zOk(P:Program)(t:TypeId):Bool:=match P.info? t with
 |some i=>match i.zero with
  |some v=>avB v
  |none=>true
 |none=>true
section
variable {P:Program} {F:Array Func} {Z:Nat->Prop} {L:Lk} {α β:Type} {Q:α->Prop} {R:β->Prop}
theorem oJ{t:TypeId}(h:zOk P t=true):Hyg P (sw P F) Z L (Av Z L) (zeroValue t):=by
 unfold zeroValue
 refine Hyg.bind (dL t) fun i hi=> ?_
 split
 ·next v e=>
  refine .pure (zY ?_)
  unfold zOk at h
  rw [hi]at h
  simpa [e]using h
 ·exact lI _
def O8:RuntimeError->Bool
 | .bounds .. | .error _| .plain _| .nilDeref=>true
 |_=>false
theorem qz{e:RuntimeError}(h:O8 e=true):Hyg P (sw P F) Z L Q (runtimePanic e):=by
 unfold runtimePanic
 refine dP rfl ?_
 cases e <;> first|exact jh _|simp [O8]at h
theorem Ib(k:IntKind)(x y:Int)(c:BoundsCode):Hyg P (sw P F) Z L Q (boundsPanic k x y c):=by
 unfold boundsPanic
 dsimp only
 split
 ·refine Hyg.bind (Q:=fun _=>True) ?_ fun _ _=>qz rfl
  exact Hyg.bind (fM _) fun _ _=> .pure trivial
 ·exact Hyg.bind (Q:=fun _=>True) (.pure trivial) fun _ _=>qz rfl
theorem yh{γ σ:Type}(xs:List γ)(f:γ->σ->Sem (ForInStep σ))(h:∀x∈xs,∀s,Hyg P (sw P F) Z L (fun _=>True) (f x s)):
  ∀init:σ,Hyg P (sw P F) Z L (fun _=>True) (forIn xs init f):=by
 induction xs with
 |nil=>intro init;exact .pure trivial
 |cons x xs ih=>
  intro init
  rw [List.forIn_cons]
  refine Hyg.bind (h x vS init) fun r _=> ?_
  split
  ·exact .pure trivial
  ·exact ih (fun y hy=>h y (by simp [hy])) _
theorem mW{γ σ:Type}(xs:Array γ)(f:γ->σ->Sem (ForInStep σ))(h:∀x∈xs,∀s,Hyg P (sw P F) Z L (fun _=>True) (f x s))(init:σ):
  Hyg P (sw P F) Z L (fun _=>True) (forIn xs init f):=by
 rw [←Array.forIn_toList]
 exact yh _ _ (fun x hx=>h x (by simpa using hx)) _
theorem uQ{σ:Type}(r:Std.Legacy.Range)(f:Nat->σ->Sem (ForInStep σ))(h:∀x s,Hyg P (sw P F) Z L (fun _=>True) (f x s))(init:σ):
  Hyg P (sw P F) Z L (fun _=>True) (forIn r init f):=by
 rw [Std.Legacy.Range.forIn_eq_forIn_range']
 exact yh _ _ (fun x _=>h x) _
theorem AJ{a:Addr}(ha:¬ Z a.block):Hyg P (sw P F) Z L (fun _=>True) (stringish a):=by
 unfold stringish
 refine Hyg.bind (nU ha) fun b _=> ?_
 cases b with
 |true=>exact .pure trivial
 |false=>
  refine Hyg.bind (fZ ha) fun s _=> ?_
  split
  ·next t n=>exact nU (a:={block:=a.block,off:=n}) ha
  ·exact .pure trivial
theorem Nf{a b:Addr}(ha:¬ Z a.block)(hb:¬ Z b.block):Hyg P (sw P F) Z L (fun _=>True) (mayBeOne a b):=by
 unfold mayBeOne
 refine Hyg.bind (Q:=fun _=>True) ?_ fun _ _=> ?_
 ·exact AJ ha
 refine Hyg.bind (Q:=fun _=>True) (AJ hb) fun _ _=> ?_
 dsimp only
 refine Hyg.bind (Q:=fun _=>True) (Hyg.bind (fZ ha) fun _ _=> .pure trivial) fun _ _=> ?_
 exact Hyg.bind (Q:=fun _=>True) (Hyg.bind (fZ hb) fun _ _=> .pure trivial) fun _ _=> .pure trivial
theorem NJ{a b:Addr}(ha:¬ Z a.block)(hb:¬ Z b.block):Hyg P (sw P F) Z L (fun _=>True) (sameAddr a b):=by
 unfold sameAddr
 split
 ·exact .pure trivial
 refine Hyg.bind (nU ha) fun x _=> ?_
 refine Hyg.bind (nU hb) fun y _=> ?_
 split
 ·exact fq
 refine Hyg.bind (Ba ha) fun _ _=> ?_
 refine Hyg.bind (Ba hb) fun _ _=> ?_
 refine Hyg.bind (Nf ha hb) fun x _=> ?_
 split
 ·exact Hyg.bind (fM _) fun _ _=> .pure trivial
 ·exact .pure trivial
end
end
section
open Go
section
variable {P:Program} {F:Array Func} {Z:Nat->Prop} {L:Lk} {α β:Type} {Q:α->Prop} {R:β->Prop}
theorem Px(t:TypeId):(sw P F).underlyingId t=P.underlyingId t:=rfl
theorem Qa:∀ (n:Nat) (t u:TypeId),(sw P F).alikeButTags n t u=P.alikeButTags n t u
 |0,_,_=>by unfold Program.alikeButTags;rfl
 |n+1,t,u=>by
  unfold Program.alikeButTags
  simp only [Qa n]
theorem Og(t:TypeId):(sw P F).stoodInAs t=P.stoodInAs t:=by
 unfold Program.stoodInAs
 simp only [Qa,Px,iZ]
 rfl
theorem jw(t:TypeId):(sw P F).stoodInHeld t=P.stoodInHeld t:=by
 unfold Program.stoodInHeld
 rw [Og]
theorem nS:∀ (n:Nat) (t:TypeId),(sw P F).eqGuardType n t=P.eqGuardType n t
 |0,_=>by unfold Program.eqGuardType;rfl
 |n+1,t=>by
  unfold Program.eqGuardType
  simp only [nS n]
  rfl
def eqT(P:Program):Nat->TypeId->Bool
 |0,_=>false
 |n+1,t=>match P.underlying t with
  |some .bool|some (.int _)|some .string|some (.slice _)|some (.pointer _)=>true
  |some (.struct fs)=>fs.all fun f=>f.name== "_" ||eqT P n f.type
  |some (.array _ e)=>eqT P n e
  |_=>false
theorem mP:∀ (d n:Nat) (t:TypeId) (x y:Value),eqT P n t=true->Av Z L x->Av Z L y->Hyg P (sw P F) Z L (fun _=>True) (Op.equalIn d t x y)
 |0,_,_,_,_,_,_,_=>by unfold Op.equalIn;exact lI _
 |d+1,0,_,_,_,h,_,_=>by simp [eqT]at h
 | d +1,n+1,t,x,y,h,hx,hy=>by
  unfold Op.equalIn
  unfold eqT at h
  refine Hyg.bind (aG t) fun u hu=> ?_
  rw [hu]at h
  split
  all_goals first
   |exact .pure trivial
   |exact fq
   |exact ak _
   |(simp at h;done)
   |(split <;> first|exact .pure trivial|exact ak _)
   |skip
  ·cases hx with|ptr hx=>cases hy with|ptr hy=>
   refine Hyg.bind (bS hx) fun p hp=> ?_
   refine Hyg.bind (bS hy) fun q hq=> ?_
   dsimp only
   refine dP rfl ?_
   split
   ·refine Hyg.bind (j4 hp) fun _ _=> ?_
    exact Hyg.bind (j4 hq) fun _ _=> .pure trivial
   ·refine Hyg.bind (dL t) fun i _=> ?_
    split
    ·split
     ·exact .pure trivial
     ·exact fq
    ·exact fq
  ·cases hx with|ptr hx=>cases hy with|ptr hy=>
   refine Hyg.bind (bK _) fun k _=> ?_
   refine aP (fun _=>NJ hx hy) fun _=>aP (fun _=> .pure trivial) fun _=> ?_
   exact Hyg.bind (fM _) fun _ _=> .pure trivial
  ·next fs xs ys=>
   cases hx with|agg hx=>cases hy with|agg hy=>
   refine dP (by rw [jw]) ?_
   split
   ·exact iy _
   refine Hyg.bind (Q:=fun _=>True) ?_ fun r _=> ?_
   ·refine mW _ _ (fun f hf s=> ?_) _
    split
    ·next hn=>
     have hf':eqT P n f.type=true:=by
      have:=Array.all_eq_true_iff_forall_mem.1 h f hf
      simp only [Bool.or_eq_true,beq_iff_eq]at this
      exact this.resolve_left hn
     refine Hyg.bind (jS _ hx _) fun a ha=> ?_
     refine Hyg.bind (jS _ hy _) fun b hb=> ?_
     refine Hyg.bind (mP d n f.type a b hf' ha hb) fun e _=> ?_
     split <;> exact .pure trivial
    ·exact .pure trivial
   ·dsimp only
    split <;> exact .pure trivial
  ·next len e xs ys=>
   cases hx with|agg hx=>cases hy with|agg hy=>
   refine Hyg.bind (bK _) fun k _=> ?_
   refine Hyg.bind (Q:=fun _=>True) ?_ fun r _=> ?_
   ·refine uQ _ _ (fun i s=> ?_) _
    refine Hyg.bind (jS _ hx _) fun a ha=> ?_
    refine Hyg.bind (jS _ hy _) fun b hb=> ?_
    refine Hyg.bind (mP d n e a b h ha hb) fun e _=> ?_
    split <;> exact .pure trivial
   ·dsimp only
    split <;> exact .pure trivial
theorem mE:∀ (d:Nat) (t:TypeId) (x y:Value),Av Z L x->Av Z L y->Hyg P (sw P F) Z L (fun _=>True) (Op.eqGuardIn d t x y)
 |0,_,_,_,_,_=>by unfold Op.eqGuardIn;exact lI _
 | d +1,t,x,y,hx,hy=>by
  unfold Op.eqGuardIn
  refine Hyg.bind (aG t) fun u hu=> ?_
  split
  ·exact .pure trivial
  ·next fs xs ys=>
   cases hx with|agg hx=>cases hy with|agg hy=>
   refine Hyg.bind (Q:=fun _=>True) ?_ fun r _=> ?_
   ·refine mW _ _ (fun f hf s=> ?_) _
    split
    ·refine Hyg.bind (jS _ hx _) fun a ha=> ?_
     refine Hyg.bind (jS _ hy _) fun b hb=> ?_
     refine Hyg.bind (mE d f.type a b ha hb) fun e _=> ?_
     split <;> exact .pure trivial
    ·exact .pure trivial
   ·dsimp only
    split <;> exact .pure trivial
  ·next len e xs ys=>
   cases hx with|agg hx=>cases hy with|agg hy=>
   refine Hyg.bind (bK _) fun k _=> ?_
   refine Hyg.bind (Q:=fun _=>True) ?_ fun r _=> ?_
   ·refine uQ _ _ (fun i s=> ?_) _
    refine Hyg.bind (jS _ hx _) fun a ha=> ?_
    refine Hyg.bind (jS _ hy _) fun b hb=> ?_
    refine Hyg.bind (mE d e a b ha hb) fun e _=> ?_
    split <;> exact .pure trivial
   ·dsimp only
    split <;> exact .pure trivial
  ·exact .pure trivial
theorem Qw(op:BinOp)(t:TypeId)(x y:Operand){a b:Value}(ha:Av Z L a)(hb:Av Z L b):Hyg P (sw P F) Z L (fun _=>True) (eqGuard op t x y a b):=by
 have key:Hyg P (sw P F) Z L (fun _=>True) (match a,b with
  | .nilIface,.nilIface=>
   if((match x with| .const _=>true|_=>false)||(match y with| .const _=>true|_=>false))=true then(pure ():Sem Unit)
   else do
    let r←Op.eqGuardIn Op.maxDepth t a b
    if r=true then unsupported (.noEntry "binop/eql: two nil values of an interface type with methods, neither of them the literal nil")else pure ()
  | .agg _,.agg _=>do
   let p←program
   let p'←program
   if(!p.eqGuardType p'.depth t)=true then pure ()
   else do
    let r←Op.eqGuardIn Op.maxDepth t a b
    if r=true then unsupported (.noEntry "binop/eql: two nil values of an interface type with methods, in a part of a struct or an array")else pure ()
  |_,_=>pure ()):=by
  split
  ·refine aP (fun _=> .pure trivial) fun _=> ?_
   refine Hyg.bind (mE _ _ _ _ ha hb) fun e _=> ?_
   split
   ·exact iy _
   ·exact .pure trivial
  ·refine dP (by simp only [nS]) ?_
   refine dP (by simp only [iZ];rfl) ?_
   split
   ·exact .pure trivial
   ·refine Hyg.bind (mE _ _ _ _ ha hb) fun e _=> ?_
    split
    ·exact iy _
    ·exact .pure trivial
  ·exact .pure trivial
 unfold eqGuard
 cases op <;> first|exact .pure trivial|exact key
theorem CS(op:BinOp)(k:IntKind)(x y:Int):Hyg P (sw P F) Z L (Av Z L) (Op.intArith op k x y):=by
 unfold Op.intArith;split <;> first|exact .pure (.int _ _)|exact ak _
theorem Us(op:BinOp)(k:IntKind)(x y:Int):Hyg P (sw P F) Z L (Av Z L) (Op.intDiv op k x y):=by
 unfold Op.intDiv
 split
 ·exact qz rfl
 ·split <;> first|exact .pure (.int _ _)|exact ak _
theorem EX(op:BinOp)(k:IntKind)(x y:Int):Hyg P (sw P F) Z L (Av Z L) (Op.intBits op k x y):=by
 unfold Op.intBits;dsimp only;split <;> first|exact .pure (.int _ _)|exact ak _
theorem TD(op:BinOp)(x y:Int):Hyg P (sw P F) Z L (Av Z L) (Op.intCmp op x y):=by
 unfold Op.intCmp;split <;> first|exact .pure (.bool _)|exact ak _
theorem VN(op:BinOp)(k:IntKind)(x:Int)(yk:IntKind)(y:Int):Hyg P (sw P F) Z L (Av Z L) (Op.shift op k x yk y):=by
 unfold Op.shift
 split
 ·exact qz rfl
 ·dsimp only;split <;> first|exact .pure (.int _ _)|exact ak _
theorem sH(op:BinOp)(x y:ByteArray):Hyg P (sw P F) Z L (Av Z L) (Op.stringOp op x y):=by
 unfold Op.stringOp
 dsimp only
 split <;> first|exact .pure (.bool _)|exact ak _|(split <;> first|exact lI _|exact .pure (.string _))
theorem WO(op:UnOp){x:Value}(hx:Av Z L x):Hyg P (sw P F) Z L (Av Z L) (Op.unary op x):=by
 unfold Op.unary
 split <;> first|exact CS _ _ _ _|exact EX _ _ _ _|exact .pure (.bool _)|exact fq|exact ak _|(cases hx;done)
theorem Ap{a b:Addr}(ha:¬ Z a.block)(hb:¬ Z b.block):Hyg P (sw P F) Z L (fun _=>True) (Op.twoPlaces a b):=by
 unfold Op.twoPlaces
 refine dP rfl ?_
 split
 ·exact fq
 ·refine Hyg.bind (j4 ha) fun _ _=> ?_
  exact Hyg.bind (j4 hb) fun _ _=> .pure trivial
theorem R7(k:IntKind){a b:Addr}(ha:¬ Z a.block)(hb:¬ Z b.block):Hyg P (sw P F) Z L (Av Z L) (Op.addrSub k a b):=by
 unfold Op.addrSub
 exact Hyg.bind (Ap ha hb) fun _ _=> .pure (.int _ _)
theorem Qz(op:BinOp){a b:Addr}(ha:¬ Z a.block)(hb:¬ Z b.block):Hyg P (sw P F) Z L (Av Z L) (Op.addrCmp op a b):=by
 unfold Op.addrCmp
 refine Hyg.bind (Ap ha hb) fun _ _=> ?_
 dsimp only
 split <;> first|exact .pure (.bool _)|exact fq
theorem ze(k:IntKind){a:Addr}(ha:¬ Z a.block)(n:Int):Hyg P (sw P F) Z L (Av Z L) (Op.addrMod k a n):=by
 unfold Op.addrMod
 refine Hyg.bind (fZ ha) fun s _=> ?_
 split
 ·refine Hyg.bind (dL _) fun i _=> ?_
  dsimp only
  split
  ·exact fq
  ·exact Hyg.bind (j4 ha) fun _ _=> .pure (.int _ _)
 ·exact fq
theorem AA:∀ (d:Nat) (t:TypeId) (b:Nat),cellOfByte (sw P F) d t b=cellOfByte P d t b
 |0,_,_=>by unfold cellOfByte;rfl
 |d+1,t,b=>by
  unfold cellOfByte
  simp only [AA d]
  rfl
theorem uX(d:Nat)(e:TypeId)(c o:Nat)(b:Int):cellAtBytes (sw P F) d e c o b=cellAtBytes P d e c o b:=by
 unfold cellAtBytes
 simp only [AA,jO]
 rfl
theorem mh(ats:Array TypeId)(t:TypeId){x y:Value}(hx:Av Z L x):Hyg P (sw P F) Z L (Av Z L) (Builtin.unsafeAdd_ ats t #[x,y]):=by
 unfold Builtin.unsafeAdd_
 cases x with
 | pointer p=>
  refine Hyg.bind (lS _) fun n _=> ?_
  dsimp only
  refine aP (fun _=> ?_) fun _=> ?_
  ·cases p with
   |some a=>
    cases hx with|ptr h=>
    refine Hyg.bind (ug h) fun o ho=> ?_
    exact aP (fun _=>Hyg.bind (Q:=fun _:Unit=>True) (dS _) fun _ _=> .pure (.ptr h)) fun _=> .pure (.ptr h)
   |none=>exact dS _
  refine aP (fun _=>dS _) fun _=> ?_
  cases p with
  | some a=>
   cases hx with|ptr h=>
   refine Hyg.bind (fZ h) fun s _=> ?_
   split
   ·refine dP (by simp only [uX];rfl) ?_
    split
    ·exact .pure (.ptr h)
    ·exact dS _
   ·exact dS _
  |none=>exact dS _
 |_=>exact ak _
theorem ni(t:TypeId){x y:Value}(hx:Av Z L x):Hyg P (sw P F) Z L (Av Z L) (movedNumber t x y):=by
 unfold movedNumber
 refine Hyg.bind (aG t) fun u _=> ?_
 refine aP (fun _=>dS _) fun _=> ?_
 split
 ·next n=>
  cases hx with|ptr h=>
  refine Hyg.bind (bS h) fun p hp=> ?_
  dsimp only
  refine Hyg.bind (mh _ _ (.ptr hp)) fun v hv=> ?_
  split
  ·cases hv with|ptr hv=>exact BM hv _
  ·exact .pure hv
 ·exact mh _ _ hx
theorem Ej(t:TypeId){x y:Value}(hx:Av Z L x):Hyg P (sw P F) Z L (Av Z L) (movedPointer t x y):=by
 unfold movedPointer
 split
 ·next a=>
  cases hx with|ptr h=>
  refine Hyg.bind (Dc h) fun o _=> ?_
  refine aP (fun _=>fq) fun _=> ?_
  exact mh _ _ (.ptr h)
 ·exact mh _ _ hx
theorem Wq(op:BinOp)(t:TypeId){x y:Value}(hx:Av Z L x)(hy:Av Z L y)(he:(op= .eql∨op= .neq)->∃n,eqT P n t=true):Hyg P (sw P F) Z L (Av Z L) (binOp op t x y):=by
 unfold binOp
 split
 all_goals first
  |exact VN _ _ _ _ _
  |exact sH _ _ _
  |exact fq
  |exact ak _
  |(cases hx;done)
  |skip
 ·refine aP (fun _=>ak _) fun _=> ?_
  split <;> first|exact CS _ _ _ _|exact Us _ _ _ _|exact EX _ _ _ _|exact TD _ _ _
 ·obtain⟨n,hn⟩:=he (.inl rfl)
  exact Hyg.bind (mP _ n _ _ _ hn hx hy) fun b _=> .pure (.bool _)
 ·obtain⟨n,hn⟩:=he (.inr rfl)
  exact Hyg.bind (mP _ n _ _ _ hn hx hy) fun b _=> .pure (.bool _)
 ·exact Hyg.bind (aG _) fun u _=>aP (fun _=>Ej _ hx) fun _=>ni _ hx
 ·exact ni _ hy
 ·exact ni _ hx
 ·cases hx with|ptr hx=>cases hy with|ptr hy=>
  exact Hyg.bind (bS hx) fun p hp=>Hyg.bind (bS hy) fun q hq=>R7 _ hp hq
 iterate 4
  ·cases hx with|ptr hx=>cases hy with|ptr hy=>
   exact Hyg.bind (bS hx) fun p hp=>Hyg.bind (bS hy) fun q hq=>Qz _ hp hq
 ·cases hx with|ptr hx=>exact Hyg.bind (bS hx) fun p hp=>ze _ hp _
 ·cases hx with|ptr hx=>exact Hyg.bind (bS hx) fun p hp=>ze _ hp _
 ·cases hy with|ptr hy=>exact Hyg.bind (bS hy) fun p hp=>ze _ hp _
end
end
section
open Go
section
variable {P:Program} {F:Array Func} {Z:Nat->Prop} {L:Lk} {α β:Type} {Q:α->Prop} {R:β->Prop}
theorem AU{γ δ:Type}(f:γ->Sem δ)(h:∀x,Hyg P (sw P F) Z L (fun _=>True) (f x)):∀xs:List γ,Hyg P (sw P F) Z L (fun _=>True) (xs.mapM f)
 | []=>by rw [List.mapM_nil];exact .pure trivial
 |x :: xs=>by
  rw [List.mapM_cons]
  exact Hyg.bind (h x) fun _ _=>Hyg.bind (AU f h xs) fun _ _=> .pure trivial
theorem X8{γ δ:Type}(f:γ->Sem δ)(h:∀x,Hyg P (sw P F) Z L (fun _=>True) (f x))(xs:Array γ):Hyg P (sw P F) Z L (fun _=>True) (xs.mapM f):=by
 rw [Array.mapM_eq_mapM_toList]
 rw [map_eq_pure_bind]
 exact Hyg.bind (AU f h _) fun _ _=> .pure trivial
theorem Uv:Av Z L default:= .bool _
theorem Xl(cs:Array Value)(h:∀v∈cs,Av Z L v)(i:Nat):Av Z L cs[i]! :=by
 rw [getElem!_def]
 split
 ·next e=>exact h _ (Array.mem_of_getElem? e)
 ·exact Uv
theorem J4(cs:Array Value)(h:∀v∈cs,Av Z L v)(n:Nat):∀v∈(Array.range n).map (cs[· % cs.size]!),Av Z L v:=by
 intro v hv
 obtain⟨i,_,rfl⟩:=Array.mem_map.1 hv
 exact Xl cs h _
theorem CY(cs:Array Value)(h:∀v∈cs,Av Z L v)(n:Nat):∀v∈Builtin.zeroCells cs n,Av Z L v:=by
 intro v hv
 unfold Builtin.zeroCells at hv
 obtain⟨i,_,rfl⟩:=Array.mem_map.1 hv
 exact Xl cs h _
theorem Yh{a b:Array Value}(ha:∀v∈a,Av Z L v)(hb:∀v∈b,Av Z L v):∀v∈a++b,Av Z L v:=fun v hv=>(Array.mem_append.1 hv).elim (ha v) (hb v)
theorem Hg(off:Nat):∀ (l:List (Value×Nat)) (cs:Array Value),(∀x∈l,Av Z L x.1)->(∀v∈cs,Av Z L v)->∀v∈l.foldl (fun cs (c,j)=>cs.setIfInBounds (off+j) c) cs,Av Z L v
 | [],_,_,h=>h
 |x :: l,cs,hl,h=>by
  rw [List.foldl_cons]
  refine Hg off l _ (fun y hy=>hl y (by simp [hy])) fun v hv=> ?_
  rcases Array.mem_or_eq_of_mem_setIfInBounds hv with m|m
  ·exact h v m
  ·exact m▸hl x vS
theorem GK(place:Nat->Option (Nat×Nat)):∀ (parts:List (Nat×Value)) (cs r:Array Value),(∀x∈parts,Av Z L x.2)->(∀v∈cs,Av Z L v)->Instr.fill place cs parts=some r->∀v∈r,Av Z L v
 | [],cs,r,_,h,e=>by unfold Instr.fill at e;cases e;exact h
 | (i,x) :: parts,cs,r,hp,h,e=>by
  unfold Instr.fill at e
  split at e
  ·cases e
  ·split at e
   ·cases e
   ·refine GK place parts _ r (fun y hy=>hp y (by simp [hy])) ?_ e
    rw [←Array.foldl_toList]
    refine Hg _ _ _ (fun y hy=> ?_) h
    have hx:=hp (i,x) vS
    have:y.1∈x.cells:=by
     have hy':y∈x.cells.zipIdx:=Array.mem_toList_iff.1 hy
     obtain⟨k,hk,rfl⟩:=Array.mem_iff_getElem.1 hy'
     simp only [Array.getElem_zipIdx]
     exact Array.getElem_mem _
    exact hx.cells _ this
theorem W9{t:TypeId}(hz:zOk P t=true):Hyg P (sw P F) Z L (Av Z L) (Instr.alloc t true (.tuple #[])):=by
 unfold Instr.alloc
 refine Hyg.bind (oJ hz) fun z hz=> ?_
 exact Hyg.bind (ou _ hz) fun a ha=> .pure (.ptr ha)
theorem ZL(t:TypeId){v:Value}(hv:Av Z L v):Hyg P (sw P F) Z L (Av Z L) (Instr.box t v):=by
 unfold Instr.box
 exact Hyg.bind (ou _ hv) fun a ha=> .pure (.ptr ha)
theorem WL{t:TypeId}(hz:zOk P t=true){parts:Array (Nat×Value)}(hp:∀x∈parts,Av Z L x.2):Hyg P (sw P F) Z L (Av Z L) (Instr.build t parts):=by
 unfold Instr.build
 refine Hyg.bind (oJ hz) fun z hz=> ?_
 dsimp only
 refine Hyg.bind (aG _) fun u _=> ?_
 split
 ·refine Hyg.bind (X8 _ (fun f=>Hyg.bind (bK _) fun _ _=> .pure trivial) _) fun pl _=> ?_
  split
  ·next e=>exact .pure (.agg (GK _ _ _ _ (fun x hx=>hp x (by simpa using hx)) hz.cells e))
  ·exact ak _
 ·refine Hyg.bind (bK _) fun n _=> ?_
  split
  ·next e=>exact .pure (.agg (GK _ _ _ _ (fun x hx=>hp x (by simpa using hx)) hz.cells e))
  ·exact ak _
 ·exact ak _
def yC(P:Program)(t:TypeId):Bool:=match P.underlying t with
 |some (.slice e)=>zOk P e
 |_=>true
theorem Ie{t:TypeId}(hz:yC P t=true)(n:Nat){parts:Array (Nat×Value)}(hp:∀x∈parts,Av Z L x.2):Hyg P (sw P F) Z L (Av Z L) (Instr.buildSlice t n parts):=by
 unfold Instr.buildSlice
 refine Hyg.bind (aG _) fun u hu=> ?_
 split
 ·next e=>
  have hze:zOk P e=true:=by unfold yC at hz;rw [hu]at hz;exact hz
  refine Hyg.bind (bK _) fun k _=> ?_
  dsimp only
  refine aP (fun _=>lI _) fun _=> ?_
  have fin:∀z:Array Value,(∀v∈z,Av Z L v)->Hyg P (sw P F) Z L (Av Z L) (match
     Instr.fill (fun i=>some (i*k,k)) (Array.map (fun x=>z[x % z.size]!) (Array.range (n*k)))
      parts.toList with
    |some cells=>do
     let a←newRow e cells
     pure (Value.slice (some a) n n)
    |_=>stuck "buildSlice: a part of the wrong size"):=by
   intro z hz
   split
   ·next e'=>
    exact Hyg.bind (kg _ (GK _ _ _ _ (fun x hx=>hp x (by simpa using hx)) (J4 z hz _) e')) fun a ha=> .pure (.slice _ _ ha)
   ·exact ak _
  exact aP (fun _=>fin #[] vS) fun _=>Hyg.bind (oJ hze) fun z hz=>fin _ hz.cells
 ·exact ak _
theorem Um(t:TypeId){v:Value}(hv:Av Z L v):Hyg P (sw P F) Z L (Av Z L) (Instr.loadAt t v):=by
 unfold Instr.loadAt
 exact Hyg.bind (kW hv) fun a ha=>EJ t ha
theorem Sy(t:TypeId){v x:Value}(hv:Av Z L v)(hx:Av Z L x):Hyg P (sw P F) Z L (fun _=>True) (Instr.storeAt t v x):=by
 unfold Instr.storeAt
 exact Hyg.bind (kW hv) fun a ha=>ML t ha hx
theorem Qo(s:TypeId){v:Value}(hv:Av Z L v)(f:Nat):Hyg P (sw P F) Z L (Av Z L) (Instr.fieldAt s v f):=by
 unfold Instr.fieldAt
 refine Hyg.bind (aG _) fun u _=> ?_
 split
 ·split
  ·refine Hyg.bind (kW hv) fun a ha=> ?_
   exact Hyg.bind (JD ha _) fun b hb=> .pure (.ptr hb)
  ·exact ak _
 ·exact ak _
theorem Xc(s:TypeId){v:Value}(hv:Av Z L v)(f:Nat):Hyg P (sw P F) Z L (Av Z L) (Instr.field s v f):=by
 unfold Instr.field
 refine Hyg.bind (aG _) fun u _=> ?_
 split
 ·split
  ·exact Hyg.bind (V5 hv) fun cs hcs=>jS _ hcs _
  ·exact ak _
 ·exact ak _
theorem RV(t:TypeId){x ix:Value}(hx:Av Z L x):Hyg P (sw P F) Z L (Av Z L) (Instr.indexAt t x ix):=by
 unfold Instr.indexAt
 refine Hyg.bind (mO _) fun ki _=> ?_
 dsimp only
 refine Hyg.bind (aG _) fun u _=> ?_
 have key:∀y:Option Addr×Nat×TypeId,(∀a,y.1=some a->¬ Z a.block)->Hyg P (sw P F) Z L (Av Z L) (do
   let d←underlying t
   match y.1 with
    | some a=>
     if 0<=ki.2/\ki.2<(y.2.1:Int)then do
      let n←sizeOf y.2.2
      pure (Value.pointer (some (a.add (ki.2.toNat*n))))
     else
      if(decide (y.2.1<=1)&&match d with|TypeDesc.array _ _=>true|_=>false)=true then
       unsupported (Unsupported.noEntry "op/indexAddr.an index out of range at an array of length 0 or 1 (ledger 616)")
      else boundsPanic ki.1 ki.2 (y.2.1:Int) BoundsCode.index
    |none=>boundsPanic ki.1 ki.2 0 BoundsCode.index):=by
  intro y hy
  refine Hyg.bind (aG _) fun u' _=> ?_
  split
  ·next a e=>
   refine aP (fun _=> ?_) fun _=>aP (fun _=>iy _) fun _=>Ib _ _ _ _
   exact Hyg.bind (bK _) fun n _=> .pure (.ptr (by rw [add_block];exact hy a e))
  ·exact Ib _ _ _ _
 split
 ·exact Hyg.bind (kW hx) fun a ha=>key (some a,_,_) (by rintro b ⟨⟩;exact ha)
 ·next elem base len cap _=>exact key (base,len,elem) (by rintro a rfl;cases hx with|slice _ _ h=>exact h)
 ·exact ak _
theorem Wl(t:TypeId){x ix:Value}(hx:Av Z L x):Hyg P (sw P F) Z L (Av Z L) (Instr.index t x ix):=by
 unfold Instr.index
 refine Hyg.bind (mO _) fun ki _=> ?_
 dsimp only
 refine Hyg.bind (aG _) fun u _=> ?_
 split
 ·cases hx with|agg hx=>
  exact aP (fun _=>Hyg.bind (bK _) fun n _=>jS _ hx _) fun _=>Ib _ _ _ _
 ·split
  ·exact .pure (.int _ _)
  ·exact Ib _ _ _ _
 ·exact ak _
theorem Qn{v:Value}(hv:Av Z L v)(i:Nat):Hyg P (sw P F) Z L (Av Z L) (Instr.extract v i):=by
 unfold Instr.extract
 split
 ·cases hv with|tuple hv=>
  split
  ·next e=>exact .pure (hv _ (Array.mem_of_getElem? e))
  ·exact ak _
 ·exact ak _
theorem iG(x:Value)(y:Nat)(c:BoundsCode):Hyg P (sw P F) Z L (fun _=>True) (Instr.sliceBound x y c):=by
 unfold Instr.sliceBound
 refine Hyg.bind (mO _) fun ki _=> ?_
 exact aP (fun _=> .pure trivial) fun _=>Ib _ _ _ _
theorem jT(s:Bool)(l c:Nat)(lo hi mx:Option Value):Hyg P (sw P F) Z L (fun _=>True) (Instr.sliceBounds s l c lo hi mx):=by
 unfold Instr.sliceBounds
 have k1:∀ (m h:Nat),Hyg P (sw P F) Z L (fun _=>True) (match(generalizing:=false) lo with
    |some v=>do
     let l←Instr.sliceBound v h (if mx.isSome=true then BoundsCode.slice3C else BoundsCode.sliceB)
     pure (l,h,m)
    |none=>do
     let l←pure 0
     pure (l,h,m)):=by
  intro m h
  split
  ·exact Hyg.bind (iG _ _ _) fun _ _=> .pure trivial
  ·exact .pure trivial
 have k2:∀m:Nat,Hyg P (sw P F) Z L (fun _=>True) (match(generalizing:=false) hi,mx with
   | some v,some _=>do
    let h←Instr.sliceBound v m BoundsCode.slice3B
    (match(generalizing:=false) lo with
    |some v=>do
     let l←Instr.sliceBound v h (if mx.isSome=true then BoundsCode.slice3C else BoundsCode.sliceB)
     pure (l,h,m)
    |none=>do
     let l←pure 0
     pure (l,h,m))
   | some v,none=>do
    let h←Instr.sliceBound v m (if s=true then BoundsCode.sliceAcap else BoundsCode.sliceAlen)
    (match(generalizing:=false) lo with
    |some v=>do
     let l←Instr.sliceBound v h (if mx.isSome=true then BoundsCode.slice3C else BoundsCode.sliceB)
     pure (l,h,m)
    |none=>do
     let l←pure 0
     pure (l,h,m))
   | none,none=>do
    let h←pure l
    (match(generalizing:=false) lo with
    |some v=>do
     let l←Instr.sliceBound v h (if mx.isSome=true then BoundsCode.slice3C else BoundsCode.sliceB)
     pure (l,h,m)
    |none=>do
     let l←pure 0
     pure (l,h,m))
   |none,some _=>stuck "Slice: max without high"):=by
  intro m
  split
  ·exact Hyg.bind (iG _ _ _) fun h _=>k1 m h
  ·exact Hyg.bind (iG _ _ _) fun h _=>k1 m h
  ·exact k1 m l
  ·exact ak _
 cases mx with
 |some v=>
  refine Hyg.bind (iG _ _ _) fun m _=> ?_
  cases hi with
  |some h=>exact Hyg.bind (iG _ _ _) fun h _=>k1 m h
  |none=>exact ak _
 |none=>
  show Hyg P (sw P F) Z L _ (match hi,(none:Option Value)with|some v,some _=>_|some v,none=>_|none,none=>_|none,some _=>_)
  cases hi with
  |some h=>exact Hyg.bind (iG _ _ _) fun h _=>k1 c h
  |none=>exact k1 c l
theorem Vo(t:TypeId){x:Value}(hx:Av Z L x)(lo hi mx:Option Value):Hyg P (sw P F) Z L (Av Z L) (Instr.slice t x lo hi mx):=by
 unfold Instr.slice
 refine Hyg.bind (aG _) fun u _=> ?_
 split
 ·dsimp only
  refine aP (fun _=>ak _) fun _=> ?_
  exact Hyg.bind (jT _ _ _ _ _ _) fun y _=> .pure (.string _)
 ·refine Hyg.bind (jT _ _ _ _ _ _) fun y _=> ?_
  dsimp only
  refine Hyg.bind (bK _) fun n _=> ?_
  cases hx with
  |slice0=>exact .pure (by split <;> exact .slice0 _ _)
  |slice _ _ h=>
   refine .pure ?_
   split
   ·exact .slice _ _ h
   ·exact .slice _ _ (by rw [add_block];exact h)
 ·refine Hyg.bind (Q:=fun a=>¬ Z a.block) ?_ fun a ha=> ?_
  ·unfold asAddr
   split
   ·cases hx with|ptr h=>exact .pure h
   ·exact qz rfl
   ·exact ak _
  refine Hyg.bind (aG _) fun u _=> ?_
  split
  ·refine Hyg.bind (jT _ _ _ _ _ _) fun y _=> ?_
   dsimp only
   refine Hyg.bind (bK _) fun n _=> .pure (.slice _ _ ?_)
   split
   ·exact ha
   ·rw [add_block];exact ha
  ·exact ak _
 ·exact ak _
theorem QK(t:TypeId){x:Value}(hx:Av Z L x)(lo hi mx:Option Value):Hyg P (sw P F) Z L (Av Z L) (Instr.sliceAt t x lo hi mx):=by
 unfold Instr.sliceAt
 refine Hyg.bind (aG _) fun u _=> ?_
 split
 ·refine Hyg.bind (kW hx) fun a ha=> ?_
  refine Hyg.bind (jT _ _ _ _ _ _) fun y _=> ?_
  dsimp only
  refine Hyg.bind (bK _) fun n _=> .pure (.slice _ _ ?_)
  split
  ·exact ha
  ·rw [add_block];exact ha
 ·exact Vo t hx _ _ _
theorem yw{a:Addr}(ha:¬ Z a.block)(n:Nat):Hyg P (sw P F) Z L (fun _=>True) (Builtin.holdsCells a n):=by
 unfold Builtin.holdsCells
 refine Hyg.bind (fZ ha) fun s _=> ?_
 split <;> exact .pure trivial
theorem Eh(v:Value):Hyg P (sw P F) Z L (fun _=>True) (Builtin.lenOf v):=by
 unfold Builtin.lenOf
 split <;> first|exact .pure trivial|exact ak _
theorem oH(s n:Nat){v:Value}(hv:Av Z L v):Hyg P (sw P F) Z L (fun cs=>∀c∈cs,Av Z L c) (Builtin.firstCells s n v):=by
 unfold Builtin.firstCells
 split
 ·cases hv with|slice _ _ h=>exact qB h _
 ·exact .pure vS
 ·refine .pure fun c hc=> ?_
  obtain⟨b,_,rfl⟩:=Array.mem_map.1 hc
  exact .int _ _
 ·exact ak _
theorem y7(n:Nat):Hyg P (sw P F) Z L (fun _=>True) (askRoom n):=by
 unfold askRoom
 exact aP (fun _=> .noRoom (.inl rfl) (.pure trivial)) fun _=> .pure trivial
end
end
section
open Go
section
variable {P:Program} {F:Array Func} {Z:Nat->Prop} {L:Lk} {α β:Type} {Q:α->Prop} {R:β->Prop}
theorem iB{e:RuntimeError}(h:O8 e=true)(f:α->Sem β):Hyg P (sw P F) Z L R (runtimePanic e>>=f):=
 Hyg.bind (Q:=fun _=>False) (qz h) fun _ h=>h.elim
theorem OB(s l n:Nat){b:Option Addr}(hb:∀a,b=some a->¬ Z a.block){x:Value}(hx:Av Z L x):Hyg P (sw P F) Z L (fun _=>True) (Builtin.mayShare s l n b x):=by
 unfold Builtin.mayShare
 extract_lets jp
 have key:∀there:Bool,Hyg P (sw P F) Z L (fun _=>True) (jp there):=by
  intro there
  simp -zeta only [jp]
  refine aP (fun _=> .pure trivial) fun _=> ?_
  split
  ·cases hx with|slice _ _ h=>exact Hyg.bind (yw h _) fun _ _=> .pure trivial
  ·exact .pure trivial
 clear_value jp
 cases b with
 |none=>exact key true
 |some a=>
  have ha:=hb a rfl
  refine Hyg.bind (yw ha _) fun _ _=> ?_
  exact Hyg.bind (nU (by rw [add_block];exact ha)) fun _ _=>key _
theorem uf (ats:Array TypeId) (t:TypeId) (args:Array Value) (h:∀v∈args,Av Z L v) (hz:∀sT,ats[0]? =some sT->yC P sT=true):
  Hyg P (sw P F) Z L (Av Z L) (Builtin.append_ ats t args):=by
 unfold Builtin.append_
 split
 ·next o sType s x e0=>
  simp only [Prod.mk.injEq]at e0
  obtain⟨e1,e2,e3⟩:=e0
  have hs:Av Z L s:=h s (Array.mem_of_getElem? e2)
  have hx:Av Z L x:=h x (Array.mem_of_getElem? e3)
  refine Hyg.bind (aG _) fun u hu=> ?_
  split
  ·next elem=>
   have hze:zOk P elem=true:=by
    have:=hz sType e1
    unfold yC at this
    rw [hu]at this
    exact this
   split
   ·next base sLen sCap=>
    have hb:∀a,base=some a->¬ Z a.block:=by rintro a rfl;cases hs with|slice _ _ h=>exact h
    refine Hyg.bind (bK _) fun size _=> ?_
    have happ:∀ (zeros:Bool) (n:Nat),Hyg P (sw P F) Z L (fun cs=>∀c∈cs,Av Z L c) (if(!zeros)=true then Builtin.firstCells size n x
      else if n*size=0 then pure #[]else zeroValue elem>>=fun z=>pure (Builtin.zeroCells z.cells n)):=by
     intro zeros n
     refine aP (fun _=>oH _ _ hx) fun _=>aP (fun _=> .pure vS) fun _=> ?_
     exact Hyg.bind (oJ hze) fun z hz=> .pure (CY _ hz.cells _)
    have grow:∀ (zeros:Bool) (n:Nat),Hyg P (sw P F) Z L (Av Z L) (choose (Question.appendCap (sLen+n) sCap elem)>>=fun newCap=>typeInfo elem>>=fun i=>askRoom (newCap*i.bytes)>>=fun _=>Builtin.firstCells size sLen (Value.slice base sLen sCap)>>=fun old=>
      (if(!zeros)=true then Builtin.firstCells size n x
       else if n*size=0 then pure #[]else zeroValue elem>>=fun z=>pure (Builtin.zeroCells z.cells n))>>=fun new=>zeroValue elem>>=fun z=>newRow elem (old++new++Builtin.zeroCells z.cells (newCap-(sLen+n)))>>=fun a=>pure (Value.slice (some a) (sLen+n) newCap)):=by
     intro zeros n
     refine Hyg.bind (fM _) fun c _=> ?_
     refine Hyg.bind (dL _) fun i _=> ?_
     refine Hyg.bind (y7 _) fun _ _=> ?_
     refine Hyg.bind (oH _ _ hs) fun old hold=> ?_
     refine Hyg.bind (happ zeros n) fun new hnew=> ?_
     refine Hyg.bind (oJ hze) fun z hz=> ?_
     exact Hyg.bind (kg _ (Yh (Yh hold hnew) (CY _ hz.cells _))) fun a ha=> .pure (.slice _ _ ha)
    have grow1:∀ (zeros:Bool) (n:Nat),Hyg P (sw P F) Z L (Av Z L) (typeInfo elem>>=fun i=>if Builtin.nextslicecap (sLen+n) sCap*i.bytes>2 ^ 48 then
      ((if zeros=true then runtimePanic (RuntimeError.error "growslice: len out of range")
       else Builtin.mayShare size sLen n base x>>=fun m=>if(!m)=true then mark Mark.noRoom>>=fun _=>unsupported (Unsupported.resourceLimit "append: a slice or a string whose bytes no memory bears")else unsupported (Unsupported.resourceLimit "append: a slice or a string whose bytes no memory bears"))>>=fun(_:Unit)=>
       (choose (Question.appendCap (sLen+n) sCap elem)>>=fun newCap=>typeInfo elem>>=fun i=>askRoom (newCap*i.bytes)>>=fun _=>Builtin.firstCells size sLen (Value.slice base sLen sCap)>>=fun old=>
        (if(!zeros)=true then Builtin.firstCells size n x
         else if n*size=0 then pure #[]else zeroValue elem>>=fun z=>pure (Builtin.zeroCells z.cells n))>>=fun new=>zeroValue elem>>=fun z=>newRow elem (old++new++Builtin.zeroCells z.cells (newCap-(sLen+n)))>>=fun a=>pure (Value.slice (some a) (sLen+n) newCap)))
      else(choose (Question.appendCap (sLen+n) sCap elem)>>=fun newCap=>typeInfo elem>>=fun i=>askRoom (newCap*i.bytes)>>=fun _=>Builtin.firstCells size sLen (Value.slice base sLen sCap)>>=fun old=>
       (if(!zeros)=true then Builtin.firstCells size n x
        else if n*size=0 then pure #[]else zeroValue elem>>=fun z=>pure (Builtin.zeroCells z.cells n))>>=fun new=>zeroValue elem>>=fun z=>newRow elem (old++new++Builtin.zeroCells z.cells (newCap-(sLen+n)))>>=fun a=>pure (Value.slice (some a) (sLen+n) newCap))):=by
     intro zeros n
     refine Hyg.bind (dL _) fun i _=>aP (fun _=> ?_) fun _=>grow zeros n
     refine Hyg.bind (Q:=fun _=>True) ?_ fun _ _=>grow zeros n
     refine aP (fun _=>qz rfl) fun _=> ?_
     refine Hyg.bind (OB _ _ _ hb hx) fun m _=> ?_
     exact aP (fun _=> .noRoom (.inl rfl) (lI _)) fun _=>lI _
    have tail:∀ (zeros:Bool) (n:Nat),Hyg P (sw P F) Z L (Av Z L) (if sLen+n<=sCap then(if(!zeros)=true then Builtin.firstCells size n x
      else if n*size=0 then pure #[]else zeroValue elem>>=fun z=>pure (Builtin.zeroCells z.cells n))>>=fun new=>(match(generalizing:=false) base with
      |some a=>storeCells (a.add (sLen*size)) new.toList>>=fun _=>pure (Value.slice base (sLen+n) sCap)
      |_=>pure (Value.slice base (sLen+n) sCap))
      else typeInfo elem>>=fun i=>if((sLen+n:Nat):Int)>IntKind.i64.max/\(zeros=true∨i.bytes=0)then runtimePanic (RuntimeError.error "growslice: len out of range")>>=fun(_:Unit)=>
       (typeInfo elem>>=fun i=>if Builtin.nextslicecap (sLen+n) sCap*i.bytes>2 ^ 48 then
        ((if zeros=true then runtimePanic (RuntimeError.error "growslice: len out of range")
         else Builtin.mayShare size sLen n base x>>=fun m=>if(!m)=true then mark Mark.noRoom>>=fun _=>unsupported (Unsupported.resourceLimit "append: a slice or a string whose bytes no memory bears")else unsupported (Unsupported.resourceLimit "append: a slice or a string whose bytes no memory bears"))>>=fun(_:Unit)=>
         (choose (Question.appendCap (sLen+n) sCap elem)>>=fun newCap=>typeInfo elem>>=fun i=>askRoom (newCap*i.bytes)>>=fun _=>Builtin.firstCells size sLen (Value.slice base sLen sCap)>>=fun old=>
          (if(!zeros)=true then Builtin.firstCells size n x
           else if n*size=0 then pure #[]else zeroValue elem>>=fun z=>pure (Builtin.zeroCells z.cells n))>>=fun new=>zeroValue elem>>=fun z=>newRow elem (old++new++Builtin.zeroCells z.cells (newCap-(sLen+n)))>>=fun a=>pure (Value.slice (some a) (sLen+n) newCap)))
        else(choose (Question.appendCap (sLen+n) sCap elem)>>=fun newCap=>typeInfo elem>>=fun i=>askRoom (newCap*i.bytes)>>=fun _=>Builtin.firstCells size sLen (Value.slice base sLen sCap)>>=fun old=>
         (if(!zeros)=true then Builtin.firstCells size n x
          else if n*size=0 then pure #[]else zeroValue elem>>=fun z=>pure (Builtin.zeroCells z.cells n))>>=fun new=>zeroValue elem>>=fun z=>newRow elem (old++new++Builtin.zeroCells z.cells (newCap-(sLen+n)))>>=fun a=>pure (Value.slice (some a) (sLen+n) newCap)))
       else(typeInfo elem>>=fun i=>if Builtin.nextslicecap (sLen+n) sCap*i.bytes>2 ^ 48 then
        ((if zeros=true then runtimePanic (RuntimeError.error "growslice: len out of range")
         else Builtin.mayShare size sLen n base x>>=fun m=>if(!m)=true then mark Mark.noRoom>>=fun _=>unsupported (Unsupported.resourceLimit "append: a slice or a string whose bytes no memory bears")else unsupported (Unsupported.resourceLimit "append: a slice or a string whose bytes no memory bears"))>>=fun(_:Unit)=>
         (choose (Question.appendCap (sLen+n) sCap elem)>>=fun newCap=>typeInfo elem>>=fun i=>askRoom (newCap*i.bytes)>>=fun _=>Builtin.firstCells size sLen (Value.slice base sLen sCap)>>=fun old=>
          (if(!zeros)=true then Builtin.firstCells size n x
           else if n*size=0 then pure #[]else zeroValue elem>>=fun z=>pure (Builtin.zeroCells z.cells n))>>=fun new=>zeroValue elem>>=fun z=>newRow elem (old++new++Builtin.zeroCells z.cells (newCap-(sLen+n)))>>=fun a=>pure (Value.slice (some a) (sLen+n) newCap)))
        else(choose (Question.appendCap (sLen+n) sCap elem)>>=fun newCap=>typeInfo elem>>=fun i=>askRoom (newCap*i.bytes)>>=fun _=>Builtin.firstCells size sLen (Value.slice base sLen sCap)>>=fun old=>
         (if(!zeros)=true then Builtin.firstCells size n x
          else if n*size=0 then pure #[]else zeroValue elem>>=fun z=>pure (Builtin.zeroCells z.cells n))>>=fun new=>zeroValue elem>>=fun z=>newRow elem (old++new++Builtin.zeroCells z.cells (newCap-(sLen+n)))>>=fun a=>pure (Value.slice (some a) (sLen+n) newCap)))):=by
     intro zeros n
     refine aP (fun _=> ?_) fun _=> ?_
     ·refine Hyg.bind (happ zeros n) fun new hnew=> ?_
      cases base with
      |none=>exact .pure (.slice0 _ _)
      |some a=>
       have ha:=hb a rfl
       exact Hyg.bind (kG (by rw [add_block];exact ha) _ _ fun v hv=>hnew v (by simpa using hv)) fun _ _=> .pure (.slice _ _ ha)
     ·exact Hyg.bind (dL _) fun i _=>aP (fun _=>iB rfl _) fun _=>grow1 zeros n
    cases hat:ats[1]? with
    |some xType=>
     refine Hyg.bind (aG _) fun u _=> ?_
     refine aP (fun _=> ?_) fun _=>Hyg.bind (Eh _) fun n _=>tail _ n
     refine Hyg.bind (lS _) fun l _=> ?_
     refine aP (fun _=>iB rfl _) fun _=> ?_
     refine Hyg.bind (dL _) fun i _=> ?_
     exact aP (fun _=>Hyg.bind (fM _) fun c _=>iB rfl _) fun _=>tail _ _
    |none=>
     refine Hyg.bind (Q:=fun _=>True) (.pure trivial) fun zeros _=> ?_
     refine aP (fun _=> ?_) fun _=>Hyg.bind (Eh _) fun n _=>tail _ n
     refine Hyg.bind (lS _) fun l _=> ?_
     refine aP (fun _=>iB rfl _) fun _=> ?_
     refine Hyg.bind (dL _) fun i _=> ?_
     exact aP (fun _=>Hyg.bind (fM _) fun c _=>iB rfl _) fun _=>tail _ _
   ·exact ak _
  ·exact ak _
 ·exact ak _
theorem YE(ats:Array TypeId)(t:TypeId)(args:Array Value)(h:∀v∈args,Av Z L v):Hyg P (sw P F) Z L (Av Z L) (Builtin.copy_ ats t args):=by
 unfold Builtin.copy_
 split
 ·next dT dst src e0=>
  simp only [Prod.mk.injEq]at e0
  obtain⟨e1,e2,e3⟩:=e0
  have hd:Av Z L dst:=h dst (Array.mem_of_getElem? e2)
  have hs:Av Z L src:=h src (Array.mem_of_getElem? e3)
  refine Hyg.bind (aG _) fun u hu=> ?_
  split
  ·split
   ·refine Hyg.bind (Eh _) fun m _=> ?_
    dsimp only
    refine Hyg.bind (bK _) fun k _=>Hyg.bind (oH _ _ hs) fun cs hcs=> ?_
    split
    ·cases hd with|slice _ _ ha=>
     exact Hyg.bind (kG ha _ 0 (by simpa using hcs)) fun _ _=> .pure (.int _ _)
    ·exact .pure (.int _ _)
   ·exact ak _
  ·exact ak _
 ·exact ak _
theorem aaB(ats:Array TypeId)(t:TypeId)(args:Array Value)(h:∀v∈args,Av Z L v):Hyg P (sw P F) Z L (Av Z L) (Builtin.len_ ats t args):=by
 unfold Builtin.len_
 split
 ·next o ty x e0=>
  simp only [Prod.mk.injEq]at e0
  obtain⟨e1,e2⟩:=e0
  have hx:Av Z L x:=h x (Array.mem_of_getElem? e2)
  refine Hyg.bind (aG _) fun u hu=> ?_
  split
  ·exact .pure (.int _ _)
  ·exact .pure (.int _ _)
  ·refine Hyg.bind (aG _) fun u _=> ?_
   split
   ·exact .pure (.int _ _)
   ·exact ak _
  ·exact .pure (.int _ _)
  ·exact .pure (.int _ _)
  ·exact .pure (.int _ _)
  ·cases hx with|map hr=>
   refine .getObj hr fun o ho=> ?_
   cases ho with
   |cells=>exact ak _
   |map=>exact .pure (.int _ _)
   |number=>exact ak _
   |iter s n=>exact ak _
   |view=>exact ak _
  ·cases hx with|chan hr=>
   refine .getObj hr fun o ho=> ?_
   cases ho <;> exact ak _
  ·exact ak _
 ·exact ak _
theorem aah(ats:Array TypeId)(t:TypeId)(args:Array Value)(h:∀v∈args,Av Z L v):Hyg P (sw P F) Z L (Av Z L) (Builtin.cap_ ats t args):=by
 unfold Builtin.cap_
 split
 ·next o ty x e0=>
  simp only [Prod.mk.injEq]at e0
  obtain⟨e1,e2⟩:=e0
  have hx:Av Z L x:=h x (Array.mem_of_getElem? e2)
  refine Hyg.bind (aG _) fun u hu=> ?_
  split
  ·exact .pure (.int _ _)
  ·refine Hyg.bind (aG _) fun u _=> ?_
   split
   ·exact .pure (.int _ _)
   ·exact ak _
  ·exact .pure (.int _ _)
  ·exact .pure (.int _ _)
  ·cases hx with|chan hr=>
   refine .getObj hr fun o ho=> ?_
   cases ho <;> exact ak _
  ·exact ak _
 ·exact ak _
theorem BF(t:TypeId){x:Value}(hx:Av Z L x):Hyg P (sw P F) Z L (Av Z L) (Instr.makeInterface t x):=by
 unfold Instr.makeInterface
 refine Hyg.bind (aG _) fun u _=> ?_
 split
 ·exact ak _
 ·exact .pure (.iface hx)
theorem O4:Hyg P (sw P F) Z L Q (runtimePanic .panicNil):=by
 unfold runtimePanic
 refine dP rfl ?_
 refine Hyg.bind (sQ _) fun t _=> ?_
 exact Hyg.bind (ou t (.agg fun v hv=>by simp at hv)) fun r _=>jh _
theorem Aa(p:Program){s:Sem α}{f:α->Sem β}(h:∀a w b w',(f a).run p w≠ .ok b w')(w:World)(b:β)(w':World):(s>>=f).run p w≠ .ok b w':=by
 intro e
 have e':=(Sem.run_bind' p s f w).symm.trans e
 cases hs:s.run p w with
 |ok a w1=>rw [hs]at e';exact h _ _ _ _ e'
 |halt h w1=>rw [hs]at e';cases e'
theorem KQ(p:Program)(w:World)(a:α)(w':World):(runtimePanic .panicNil).run p w≠ .ok a w':=by
 unfold runtimePanic
 refine Aa p (fun q=> ?_) w a w'
 refine Aa p fun t=>Aa p fun r w a w' e=> ?_
 cases e
theorem RU{x:Value}(hx:Av Z L x):Hyg P (sw P F) Z L (Av Z L) (Instr.panic x):=by
 unfold Instr.panic
 cases hx with
 |iface=>exact .halt (.panic _)
 | nilIface=>
  show Hyg P (sw P F) Z L (Av Z L) (Instr.panicnil>>=fun i=>if(i==1)=true then goPanic .nilIface else runtimePanic .panicNil)
  unfold Instr.panicnil
  refine .env (fun r=> ?_) fun r=>Aa _ fun i=> ?_
  ·refine Hyg.bind (Q:=fun _=>True) ?_ fun i _=>aP (fun _=>jh _) fun _=>O4
   cases r <;> first|exact ak _|exact dP rfl (.pure trivial)
  ·split
   ·intro w a w' e;cases e
   ·exact KQ _
 |_=>exact ak _
theorem YG{x y:Value}(hx:Av Z L x)(hy:Av Z L y):Hyg P (sw P F) Z L (Av Z L) (Builtin.min2 x y):=by
 unfold Builtin.min2
 split
 ·exact .pure (.int _ _)
 ·cases hx
 ·exact Hyg.bind (sH _ _ _) fun b _=>Hyg.bind (Bg _) fun b _=> .pure (.string _)
 ·exact fq
 ·exact fq
 ·exact ak _
theorem X7{x y:Value}(hx:Av Z L x)(hy:Av Z L y):Hyg P (sw P F) Z L (Av Z L) (Builtin.max2 x y):=by
 unfold Builtin.max2
 split
 ·exact .pure (.int _ _)
 ·cases hx
 ·exact Hyg.bind (sH _ _ _) fun b _=>Hyg.bind (Bg _) fun b _=> .pure (.string _)
 ·exact fq
 ·exact fq
 ·exact ak _
theorem Bn(f:Value->Value->Sem Value)(hf:∀x y,Av Z L x->Av Z L y->Hyg P (sw P F) Z L (Av Z L) (f x y)):∀ (l:List Value) (x:Value),Av Z L x->(∀v∈l,Av Z L v)->Hyg P (sw P F) Z L (Av Z L) (l.foldlM f x)
 | [],x,hx,_=>by rw [List.foldlM_nil];exact .pure hx
 |y :: l,x,hx,h=>by
  rw [List.foldlM_cons]
  exact Hyg.bind (hf x y hx (h y vS)) fun z hz=>Bn f hf l z hz fun v hv=>h v (by simp [hv])
theorem ZM(ats:Array TypeId)(t:TypeId)(args:Array Value)(h:∀v∈args,Av Z L v):Hyg P (sw P F) Z L (Av Z L) (Builtin.min_ ats t args):=by
 unfold Builtin.min_
 split
 ·exact ak _
 ·next x rest e=>
  have hm:∀v∈x :: rest,Av Z L v:=fun v hv=>h v (by rw [←Array.mem_toList_iff,e];exact hv)
  exact Bn _ (fun _ _=>YG) _ _ (hm x vS) fun v hv=>hm v (by simp [hv])
theorem Y5(ats:Array TypeId)(t:TypeId)(args:Array Value)(h:∀v∈args,Av Z L v):Hyg P (sw P F) Z L (Av Z L) (Builtin.max_ ats t args):=by
 unfold Builtin.max_
 split
 ·exact ak _
 ·next x rest e=>
  have hm:∀v∈x :: rest,Av Z L v:=fun v hv=>h v (by rw [←Array.mem_toList_iff,e];exact hv)
  exact Bn _ (fun _ _=>X7) _ _ (hm x vS) fun v hv=>hm v (by simp [hv])
def EB(P:Program)(t:TypeId):Bool:=match P.underlying t with
 |some (.map k _)=>match P.underlying k with
  |some (.int _)=>true
  |some .string=>true
  |_=>false
 |_=>false
def KeyU(P:Program)(t:TypeId):Prop:=(∃k,P.underlying t=some (.int k))∨P.underlying t=some .string
theorem Cy(b:Bool)(n:Nat){t:TypeId}(v:Value)(ht:KeyU P t):Hyg P (sw P F) Z L (fun _=>True) (Instr.checkKey b (n+1) t v):=by
 unfold Instr.checkKey
 refine Hyg.bind (aG _) fun u hu=> ?_
 rcases ht with ⟨k,hk⟩|hk
 ·rw [hk]at hu
  cases hu
  exact .pure trivial
 ·rw [hk]at hu
  cases hu
  exact .pure trivial
theorem FQ(d:TypeDesc)(k:Value):∀ (es:List MapEntry) (i j:Nat) (v:Value),Instr.findNow d k es i=some (some (j,v))->∃e∈es,e.val=v
 | [],_,_,_,h=>by simp [Instr.findNow]at h
 | e :: es,i,j,v,h=>by
  unfold Instr.findNow at h
  split at h
  ·simp only [Option.some.injEq,Prod.mk.injEq]at h
   exact⟨e,vS,h.2⟩
  ·obtain⟨e',he',hv⟩:=FQ d k es _ _ _ h
   exact⟨e',by simp [he'],hv⟩
  ·cases h
theorem zy{t:TypeId}(ht:eqT P 1 t=true){k:Value}(hk:Av Z L k):∀ (es:List MapEntry) (i:Nat),(∀e∈es,Av Z L e.key/\Av Z L e.val)->Hyg P (sw P F) Z L (fun r=>∀j v,r=some (j,v)->Av Z L v) (Instr.findAsking t k es i)
 | [],_,_=>by unfold Instr.findAsking;exact .pure (by rintro j v ⟨⟩)
 |e :: es,i,h=>by
  unfold Instr.findAsking
  refine Hyg.bind (mP _ 1 _ _ _ ht hk (h e vS).1) fun b _=> ?_
  refine aP (fun _=> .pure ?_) fun _=>zy ht hk es _ fun x hx=>h x (by simp [hx])
  rintro j v e'
  cases e'
  exact(h e vS).2
theorem EN{t:TypeId}(ht:KeyU P t){k:Value}(hk:Av Z L k)(es:List MapEntry)(h:∀e∈es,Av Z L e.key/\Av Z L e.val):
  Hyg P (sw P F) Z L (fun r=>∀j v,r=some (j,v)->Av Z L v) (Instr.findKey t k es):=by
 unfold Instr.findKey
 refine Hyg.bind (aG _) fun u hu=> ?_
 split
 ·next r e=>
  refine .pure ?_
  rintro j v rfl
  obtain⟨x,hx,rfl⟩:=FQ _ _ _ _ _ _ e
  exact(h x hx).2
 ·refine zy ?_ hk es 0 h
  rcases ht with ⟨k,hk⟩|hk <;> simp [eqT,hk]
theorem Pm(t:TypeId)(r:Option Value):Hyg P (sw P F) Z L (Av Z L) (Instr.makeMap t r):=by
 unfold Instr.makeMap
 have fin:Hyg P (sw P F) Z L (Av Z L) (do pure (Value.map (some (←newObj (.map #[] 0))))):=by
  unfold newObj
  exact .new (.map vS) fun r hr=> .pure (.map hr)
 cases r with
 |none=>exact fin
 |some h=>
  refine Hyg.bind (aG _) fun u _=> ?_
  split
  ·exact Hyg.bind (lS _) fun _ _=>fin
  ·exact ak _
theorem Tk{t:TypeId}(ht:EB P t=true)(hz:∀k e,P.underlying t=some (.map k e)->zOk P e=true){x ix:Value}(hx:Av Z L x)(hi:Av Z L ix)(ok:Bool):Hyg P (sw P F) Z L (Av Z L) (Instr.lookup t x ix ok):=by
 unfold Instr.lookup
 refine Hyg.bind (aG _) fun u hu=> ?_
 split
 ·next key elem=>
  have hk:KeyU P key:=by
   unfold EB at ht
   rw [hu]at ht
   simp only at ht
   split at ht
   ·exact .inl ⟨_,tQ⟩
   ·exact .inr tQ
   ·cases ht
  have fin:∀es:Array MapEntry,(∀e∈es,Av Z L e.key/\Av Z L e.val)->Hyg P (sw P F) Z L (Av Z L) (Instr.checkKey es.isEmpty 10000 key ix>>=fun _=>Instr.findKey key ix es.toList>>=fun r=>(match r with
    |some (_,v)=>pure (if ok=true then .tuple #[v,.bool true]else v)
    |none=>zeroValue elem>>=fun z=>pure (if ok=true then .tuple #[z,.bool false]else z))):=by
   intro es hes
   have two:∀ (v:Value) (b:Bool),Av Z L v->Av Z L (if ok=true then .tuple #[v,.bool b]else v):=by
    intro v b hv
    split
    ·exact .tuple fun x hx=>by
      simp only [List.mem_toArray,List.mem_cons,List.not_mem_nil,or_false]at hx
      rcases hx with rfl|rfl
      ·exact hv
      ·exact .bool _
    ·exact hv
   refine Hyg.bind (Cy _ 9999 _ hk) fun _ _=> ?_
   refine Hyg.bind (EN hk hi _ (fun e he=>hes e (by simpa using he))) fun r hr=> ?_
   split
   ·exact .pure (two _ _ (hr _ _ rfl))
   ·exact Hyg.bind (oJ (hz _ _ hu)) fun z hz=> .pure (two _ _ hz)
  cases x with
  | map r=>
   cases r with
   |none=>exact fin #[] vS
   |some r=>
    cases hx with|map hr=>
    refine .getObj hr fun o ho=> ?_
    cases ho with
    |cells=>exact ak _
    |map h=>exact fin _ h
    |number=>exact ak _
    |iter s n=>exact ak _
    |view=>exact ak _
  |_=>exact ak _
 ·exact ak _
theorem AP{t:TypeId}(ht:EB P t=true){m k v:Value}(hm:Av Z L m)(hk:Av Z L k)(hv:Av Z L v):Hyg P (sw P F) Z L (fun _=>True) (Instr.mapUpdate t m k v):=by
 unfold Instr.mapUpdate
 refine Hyg.bind (aG _) fun u hu=> ?_
 split
 ·next key elem=>
  have hkey:KeyU P key:=by
   unfold EB at ht
   rw [hu]at ht
   simp only at ht
   split at ht
   ·exact .inl ⟨_,tQ⟩
   ·exact .inr tQ
   ·cases ht
  split
  ·exact qz rfl
  ·next r=>
   cases hm with|map hr=>
   refine .getObj hr fun o ho=> ?_
   cases ho with
   |cells=>exact ak _
   |number=>exact ak _
   |iter s n=>exact ak _
   |view=>exact ak _
   | @map es clock h=>
    refine Hyg.bind (Q:=fun o=>o= .map es clock) (.pure rfl) fun o ho=> ?_
    subst ho
    refine Hyg.bind (Cy _ 9999 _ hkey) fun _ _=> ?_
    refine Hyg.bind (EN hkey hk _ (fun e he=>h e (by simpa using he))) fun r' hr'=> ?_
    split
    ·next i w=>
     refine Hyg.bind (Q:=Av Z L) ?_ fun k' hk'=> ?_
     ·unfold Instr.keyThatStays
      refine aP (fun _=> .pure hk) fun _=> ?_
      refine Hyg.bind (fM _) fun c _=> .pure ?_
      split
      ·exact hk
      ·cases he:es[i]? with
       |none=>exact hk
       |some e=>exact(h e (Array.mem_of_getElem? he)).1
     ·refine .setObj hr (.map fun e he=> ?_) (.pure trivial)
      obtain⟨j,hj,rfl⟩:=Array.mem_iff_getElem.1 he
      rw [Array.getElem_modify]
      split
      ·exact⟨hk',hv⟩
      ·exact h _ (Array.getElem_mem _)
    ·refine .setObj hr (.map fun e he=> ?_) (.pure trivial)
     rcases Array.mem_push.1 he with m|m
     ·exact h e m
     ·subst m;exact⟨hk,hv⟩
  ·exact ak _
 ·exact ak _
theorem O5(k:IntKind)(n:Int):Hyg P (sw P F) Z L (Av Z L) (Conv.intToInt k n):= .pure (.int _ _)
def isU8(P:Program)(e:TypeId):Bool:=match P.underlying e with|some (.int .u8)=>true|_=>false
def isStr(P:Program)(t:TypeId):Bool:=match P.underlying t with|some .string=>true|_=>false
theorem NP{t:TypeId}(h:isStr P t=true)(x:Value):Hyg P (sw P F) Z L (Av Z L) (Instr.range t x):=by
 unfold Instr.range
 have fin:∀it:Obj,AvO Z L it->Hyg P (sw P F) Z L (Av Z L) (do pure (.pointer (some ⟨←newObj it,0,none⟩))):=fun it h=> .new h fun r hr=> .pure (.ptr hr)
 refine Hyg.bind (aG _) fun u hu=> ?_
 unfold isStr at h
 rw [hu]at h
 dsimp only
 split
 ·exact fin _ (.iter _ _)
 ·simp at h
 ·simp at h
 ·exact ak _
theorem QB{b:Bool}(hb:b=true){x:Value}(hx:Av Z L x)(t:TypeId):Hyg P (sw P F) Z L (Av Z L) (Instr.next x b t):=by
 subst hb
 unfold Instr.next
 split
 ·next r o e=>
  cases hx with
  | ptr hz=>
   refine .getObj hz fun o ho=> ?_
   cases ho with
   | iter s n=>
    show Hyg P (sw P F) Z L (Av Z L) (if n<s.size then _ else _)
    split
    ·refine Hyg.bind (Q:=fun _:Unit=>True) (.setObj hz (.iter _ _) (.pure trivial)) fun _ _=> .pure (.tuple fun v hv=> ?_)
     simp only [List.mem_toArray,List.mem_cons,List.not_mem_nil,or_false]at hv
     rcases hv with rfl|rfl|rfl
     ·exact .bool _
     ·exact .int _ _
     ·exact .int _ _
    ·refine .pure (.tuple fun v hv=> ?_)
     simp only [List.mem_toArray,List.mem_cons,List.not_mem_nil,or_false]at hv
     subst hv
     exact .bool _
   |_=>exact ak _
 ·exact ak _
def uG(P:Program):Nat->TypeId->Bool
 |0,_=>false
 |n+1,t=>match P.underlying t with
  |some (.float _)|some (.complex _)=>false
  |some (.struct fs)=>fs.all fun f=>uG P n f.type
  |some (.array _ e)=>uG P n e
  |_=>true
theorem qj:∀ (n d:Nat) (t:TypeId) (off:Nat) (x:Value),uG P n t=true->plainCell P d t off=some x->Ez x
 |0,_,_,_,_,h,_=>by simp [uG]at h
 |_,0,_,_,_,_,e=>by simp [plainCell]at e
 | n+1,d+1,t,off,x,h,e=>by
  unfold uG at h
  unfold plainCell at e
  split at e
  ·next fs hu=>
   rw [hu]at h
   obtain⟨f,hf,hx⟩:=Array.exists_of_findSome?_eq_some e
   split at hx
   ·exact qj n d _ _ _ (Array.all_eq_true_iff_forall_mem.1 h f hf) hx
   ·cases hx
  ·next m e' hu=>
   rw [hu]at h
   dsimp only at e
   split at e
   ·cases e
   ·exact qj n d _ _ _ h e
  ·split at e <;> first|(cases e;done)|(cases e;trivial)
  ·split at e <;> first|(cases e;done)|(cases e;trivial)
  ·next hu=>rw [hu]at h;simp at h
  ·next hu=>rw [hu]at h;simp at h
  ·cases e
theorem aam{t:TypeId}(h:uG P 8 t=true):I7 P t:=fun _ _ e=>qj 8 _ _ _ _ h e
theorem Ay:∀ (d:Nat) (t u:TypeId),sameLayout (sw P F) d t u=sameLayout P d t u
 |0,_,_=>by unfold sameLayout;rfl
 |d+1,t,u=>by
  unfold sameLayout
  simp only [Px,fJ,jw,Ay d]
theorem Ql(fits:TypeId->Bool):∀ (d:Nat) (e:TypeId) (c o n:Nat),rowAt (sw P F) fits d e c o n=rowAt P fits d e c o n
 |0,_,_,_,_=>by unfold rowAt;rfl
 |d+1,e,c,o,n=>by
  unfold rowAt
  simp only [iN,fJ,jw,Ql fits d]
  rfl
theorem Lx:∀ (d:Nat) (e:TypeId) (c o:Nat) (u:TypeId) (n:Nat),liesAt (sw P F) d e c o u n=liesAt P d e c o u n
 |0,_,_,_,_,_=>by unfold liesAt;rfl
 |d+1,e,c,o,u,n=>by
  unfold liesAt
  simp only [fJ,iZ,Ay,Ql,Lx d]
theorem mV:∀ (d:Nat) (t:TypeId),(sw P F).holdsStoodIn d t=P.holdsStoodIn d t
 |0,_=>by unfold Program.holdsStoodIn;rfl
 |d+1,t=>by
  unfold Program.holdsStoodIn
  simp only [fJ,jw,mV d]
theorem uH{a:Addr}(ha:¬ Z a.block)(u:TypeId)(n:Nat):Hyg P (sw P F) Z L (fun _=>True) (variablesAt a u n):=by
 unfold variablesAt
 refine dP (by simp only [Lx,iZ,iN]) ?_
 refine Hyg.bind (fZ ha) fun s _=> ?_
 split <;> exact .pure trivial
theorem Ia{a:Addr}(ha:¬ Z a.block):Hyg P (sw P F) Z L (fun a=>¬ Z a.block) (Conv.seenAt a):=by
 unfold Conv.seenAt
 refine Hyg.bind (ug ha) fun o ho=> ?_
 cases o with
 |none=>exact .pure ha
 | some x=>
  obtain⟨s,u⟩:=x
  have hs:¬ Z s.block:=ho _ rfl
  dsimp only
  refine aP (fun _=> .pure hs) fun _=> ?_
  refine aP (fun _=>Hyg.bind (Q:=fun _:Unit=>False) (dS _) fun _ h=>h.elim) fun _=> ?_
  refine dP (by simp only [jO,iZ,iN,uX]) ?_
  split
  ·refine Hyg.bind (fZ hs) fun y _=> ?_
   split
   ·refine aP (fun _=>Hyg.bind (Q:=fun _:Unit=>False) (dS _) fun _ h=>h.elim) fun _=> ?_
    split
    ·exact .pure hs
    ·exact dS _
   ·exact dS _
  ·exact dS _
theorem QA{r:Nat}(hr:¬ Z r):Hyg P (sw P F) Z L (fun _=>True) (cellsIn r):=by
 unfold cellsIn
 refine Hyg.bind (fZ hr) fun s _=> ?_
 split
 ·exact .pure trivial
 ·refine .getObj hr fun o ho=> ?_
  cases ho <;> exact .pure trivial
theorem yX{a:Addr}{t:TypeId}(ha:¬ Z a.block)(ht:L.t t):Hyg P (sw P F) Z L (Av Z L) (newObj (.view a t)>>=fun r=>pure (.pointer (some ⟨r,0,none⟩))):= .new (.view ha ht) fun _ hr=> .pure (.ptr hr)
theorem pY{s d:TypeId}(hs:∀t,P.underlying s=some (.pointer t)->L.t t)(hd:∀t,P.underlying d=some (.pointer t)->L.t t){x:Value}(hx:Av Z L x):Hyg P (sw P F) Z L (Av Z L) (Conv.unsafePointer s d x):=by
 unfold Conv.unsafePointer
 refine Hyg.bind (aG _) fun u hu=> ?_
 refine Hyg.bind (aG _) fun v hv=> ?_
 split
 ·exact .pure hx
 ·cases hx with|ptr ha=>
  refine Hyg.bind (Ia ha) fun a ha=>Hyg.bind (QA ha) fun n _=> ?_
  dsimp only
  exact Hyg.bind (bK _) fun _ _=>aP (fun _=>yX ha (hs _ hu)) fun _=> .pure (.ptr ha)
 ·exact .pure hx
 ·cases hx with|ptr ha=>
  refine Hyg.bind (Ia ha) fun a ha=>Hyg.bind (bK _) fun _ _=>Hyg.bind (uH ha _ _) fun _ _=> ?_
  refine aP (fun _=> .pure (.ptr ha)) fun _=>Hyg.bind (fZ ha) fun y _=> ?_
  dsimp only
  split
  ·refine dP (by simp only [mV]) ?_
   refine dP (by simp only [mV,iZ];rfl) ?_
   exact aP (fun _=>Hyg.bind (Q:=fun _:Unit=>False) (dS _) fun _ h=>h.elim) fun _=>yX ha (hd _ hv)
  ·exact Hyg.bind (Q:=fun _:Unit=>False) (dS _) fun _ h=>h.elim
 ·exact .pure hx
 ·exact .pure (.int _ _)
 ·cases hx with|ptr ha=>exact BM ha _
 all_goals first|exact dS _|exact ak _
theorem QW(t:TypeId):Hyg P (sw P F) Z L (fun e=>P.underlying t=some (.pointer e)) (elemOf t):=by
 unfold elemOf
 refine Hyg.bind (aG t) fun d hd=> ?_
 split
 ·exact .pure hd
 ·exact ak _
theorem Ll(ats:Array TypeId){t:TypeId}(ht:∀e,P.underlying t=some (.pointer e)->L.t e)(args:Array Value)(h:∀v∈args,Av Z L v):Hyg P (sw P F) Z L (Av Z L) (Builtin.unsafeSliceData_ ats t args):=by
 obtain⟨l⟩:=args
 match l with
 | []=>exact ak _
 |_ :: _ :: _=>exact ak _
 | [x]=>
  have hx:=h x vS
  cases hx with
  |slice0=>exact .pure .ptr0
  |slice l c ha=>
   refine aP (fun _=> .pure (.ptr ha)) fun _=>Hyg.bind (ug ha) fun o _=> ?_
   refine aP (fun _=> .pure (.ptr ha)) fun _=> ?_
   exact Hyg.bind (QW _) fun e he=>yX ha (ht e he)
  |_=>exact ak _
theorem AB:∀ (n:Nat) {a:Addr} (acc:ByteArray),¬ Z a.block->Hyg P (sw P F) Z L (fun _=>True) (loadBytes a acc n)
 |0,_,_,_=> .pure trivial
 |n+1,a,acc,ha=>by
  unfold loadBytes
  refine Hyg.bind (yj ha) fun v _=> ?_
  split
  ·exact AB n _ (by rw [add_block];exact ha)
  ·exact ak _
theorem EF(ats:Array TypeId)(t:TypeId)(args:Array Value)(h:∀v∈args,Av Z L v):Hyg P (sw P F) Z L (Av Z L) (Builtin.unsafeString_ ats t args):=by
 unfold Builtin.unsafeString_
 obtain⟨l⟩:=args
 match l with
 | []=>exact ak _
 | [_]=>exact ak _
 |_ :: _ :: _ :: _=>exact ak _
 | [x,y]=>
  have hx:=h x vS
  have key:∀p:Option Addr,(∀a,p=some a->¬ Z a.block)->Hyg P (sw P F) Z L (Av Z L) (Builtin.unsafeString_ ats t #[.pointer p,y]):=by
   intro p hp
   unfold Builtin.unsafeString_
   refine Hyg.bind (lS _) fun n _=> ?_
   dsimp only
   split
   ·refine aP (fun _=>iB rfl _) fun _=>aP (fun _=>Hyg.bind (Q:=fun _:Unit=>False) (dS _) fun _ h=>h.elim) fun _=> ?_
    cases p with
    |none=>exact aP (fun _=> .pure (.string _)) fun _=>qz rfl
    |some a=>
     have ha:=hp a rfl
     refine aP (fun _=> .pure (.string _)) fun _=> ?_
     refine Hyg.bind (sQ _) fun e _=>Hyg.bind (uH ha _ _) fun b _=> ?_
     refine aP (fun _=> ?_) fun _=>dS _
     exact Hyg.bind (AB _ _ ha) fun s _=> .freeze ha (.pure (.string _))
   ·exact ak _
  cases hx with
  |ptr0=>exact key none vS
  |ptr ha=>exact key (some _) (by rintro a ⟨⟩;exact ha)
  |_=>exact ak _
def XK(P:Program)(s d:TypeId):Bool:=match P.underlying s,P.underlying d with
 |some (.int _),some (.int _)=>true
 |some (.slice e),some .string=>isU8 P e
 |some .string,some (.slice e)=>isU8 P e
 |some (.pointer t),some .unsafePointer|some .unsafePointer,some (.pointer t)=>uG P 8 t
 |_,_=>false
theorem CP{x:Value}(hx:Av Z L x):Hyg P (sw P F) Z L (Av Z L) (Conv.bytesToString x):=by
 unfold Conv.bytesToString
 cases hx with
 |slice0 l c=>exact .pure (.string _)
 |slice l c h=>
  refine Hyg.bind (qB h _) fun cs hcs=> ?_
  refine Hyg.bind (Q:=fun _=>True) (mW cs _ (fun c _ s=> ?_) _) fun s _=> .pure (.string _)
  split
  ·exact .pure trivial
  ·exact ak _
 |_=>exact ak _
theorem Da{a:Addr}(ha:¬ Z a.block):Hyg P (sw P F) Z L (fun _=>True) (markStringish a):=by
 unfold markStringish
 refine Hyg.bind (fZ ha) fun o _=> ?_
 split
 ·exact .freeze ha (.pure trivial)
 ·exact .pure trivial
theorem BP(e:TypeId)(s:ByteArray):Hyg P (sw P F) Z L (Av Z L) (Conv.stringToBytes e s):=by
 unfold Conv.stringToBytes
 refine Hyg.bind (fM _) fun c _=> ?_
 refine Hyg.bind (kg _ (fun v hv=> ?_)) fun a ha=> ?_
 ·rcases Array.mem_append.1 hv with m|m
  ·obtain⟨b,_,rfl⟩:=Array.mem_map.1 m
   exact .int _ _
  ·obtain⟨_,rfl⟩:=Array.mem_replicate.1 m
   exact .int _ _
 ·exact Hyg.bind (Da ha) fun _ _=> .pure (.slice _ _ ha)
theorem Sm{s d:TypeId}(hV:∀u,uG P 8 u=true->L.t u)(h:XK P s d=true){x:Value}(hx:Av Z L x):Hyg P (sw P F) Z L (Av Z L) (convert s d x):=by
 unfold convert
 unfold XK at h
 refine Hyg.bind (aG _) fun u hu=> ?_
 refine Hyg.bind (aG _) fun v hv=> ?_
 rw [hu,hv]at h
 cases u with
 |int k=>
  cases v with
  |int k2=>cases hx <;> first|exact O5 _ _|exact fq|exact iy _
  |_=>simp at h
 | slice e=>
  cases v with
  |string=>
   simp only [isU8]at h
   have hx':=hx
   cases hx <;> first|exact .pure (.string _)|(refine Hyg.bind (aG _) fun t ht=> ?_;rw [ht]at h;split at h <;> first|(cases h;done)|(rename_i e8;cases e8;exact CP hx'))
  |_=>simp at h
 | string=>
  cases v with
  |slice e=>
   simp only [isU8]at h
   cases hx <;> first|exact iy _|(refine Hyg.bind (aG _) fun t ht=> ?_;rw [ht]at h;split at h <;> first|(cases h;done)|(rename_i e8;cases e8;exact BP _ _))
  |_=>simp at h
 | pointer t=>
  cases v with
  |unsafePointer=>
   have hx':Hyg P (sw P F) Z L (Av Z L) (Conv.unsafePointer s d x):=pY (fun t' e=>by rw [hu]at e;cases e;exact hV _ h) (fun t' e=>by rw [hv]at e;cases e) hx
   cases hx <;> exact hx'
  |_=>simp at h
 | unsafePointer=>
  cases v with
  |pointer t=>
   have hx':Hyg P (sw P F) Z L (Av Z L) (Conv.unsafePointer s d x):=pY (fun t' e=>by rw [hu]at e;cases e) (fun t' e=>by rw [hv]at e;cases e;exact hV _ h) hx
   cases hx <;> exact hx'
  |_=>simp at h
 |_=>simp at h
theorem KI{t:TypeId}(hz:yC P t=true)(l c:Value):Hyg P (sw P F) Z L (Av Z L) (Instr.makeSlice t l c):=by
 unfold Instr.makeSlice
 refine Hyg.bind (aG _) fun u hu=> ?_
 split
 ·next e=>
  have hze:zOk P e=true:=by unfold yC at hz;rw [hu]at hz;exact hz
  refine Hyg.bind (lS _) fun len _=> ?_
  refine Hyg.bind (lS _) fun cap _=> ?_
  refine Hyg.bind (dL _) fun i _=> ?_
  dsimp only
  refine aP (fun _=>aP (fun _=>iB rfl _) fun _=>aP (fun _=>iB rfl _) fun _=>Hyg.bind (fM _) fun x _=>iB rfl _) fun _=> ?_
  refine Hyg.bind (y7 _) fun _ _=>Hyg.bind (bK _) fun k _=>aP (fun _=> ?_) fun _=>Hyg.bind (oJ hze) fun z hz'=> ?_
  ·exact Hyg.bind (Q:=fun z:Array Value=>∀v∈z,Av Z L v) (.pure vS) fun z hz=>Hyg.bind (kg _ (J4 z hz _)) fun a ha=> .pure (.slice _ _ ha)
  ·exact Hyg.bind (Q:=fun z:Array Value=>∀v∈z,Av Z L v) (.pure hz'.cells) fun z hz=>Hyg.bind (kg _ (J4 z hz _)) fun a ha=> .pure (.slice _ _ ha)
 ·exact ak _
def FE(Z:Nat->Prop)(L:Lk):Next->Prop
 | .value v=>Av Z L v
 | .skip=>True
 |_=>False
def R9(Lb G:Nat->Bool):Operand->Bool
 | .tmp _=>true
 | .const v=>avB v
 | .global g=>G g
 | .func f=>Lb f
def eqOk(P:Program)(op:BinOp)(t:TypeId):Bool:=match op with
 | .eql| .neq=>eqT P 6 t
 |_=>true
def Qf(P:Program)(t:TypeId):Bool:=match P.underlying t with
 |some (.map _ e)=>zOk P e
 |_=>true
def Gg(P:Program)(Lb:Nat->Bool):Op->Bool
 | .move _| .assign _| .pick .. | .load .. | .store .. | .unOp .. | .fieldAddr .. | .field .. | .indexAddr .. | .index .. | .extract .. | .slice .. | .makeMap .. | .box .. =>true
 | .alloc t| .build t _=>zOk P t
 | .buildSlice t _ _=>yC P t
 | .makeSlice t _ _=>yC P t
 | .nilCheck _| .makeInterface .. | .panic _=>true
 | .range t _=>isStr P t
 | .next _ b=>b
 | .binOp op t _ _ _=>eqOk P op t
 | .convert s d _=>XK P s d
 | .makeFunc (.func f) _ _=>Lb f
 | .lookup t _ _ _=>EB P t&&Qf P t
 | .mapUpdate t _ _ _| .insert t _ _ _=>EB P t
 | .call {callee:= .builtin .append,argTypes,..}=>match argTypes[0]? with
  |some t=>yC P t
  |none=>true
 | .call {callee:= .builtin .len,..}| .call {callee:= .builtin .cap,..}| .call {callee:= .builtin .copy,..}| .call {callee:= .builtin .min,..}| .call {callee:= .builtin .max,..}| .call {callee:= .builtin .unsafeSliceData,..}| .call {callee:= .builtin .unsafeString,..}=>true
 | .call {callee:= .builtin .unsafeSizeof,argTypes,..}=>uG P 8 (argTypes.getD 0 0)
 |_=>false
def VI(P:Program)(o:Oper):Bool:=match o.op with
 | .call {callee:= .builtin .unsafeSliceData,..}=>match P.underlying o.type with
  |some (.pointer e)=>uG P 8 e
  |_=>true
 |_=>true
def qC:Op->Bool
 | .call {callee:= .value _,..}=>true
 |_=>false
theorem fQ{s:Sem Value}(h:Hyg P (sw P F) Z L (Av Z L) s):Hyg P (sw P F) Z L (FE Z L) (do pure (.value (←s))):=Hyg.bind h fun v hv=> .pure hv
theorem Xh{s:Sem Unit}(h:Hyg P (sw P F) Z L (fun _=>True) s):Hyg P (sw P F) Z L (FE Z L) (do s;pure .skip):=Hyg.bind h fun _ _=> .pure trivial
theorem TG{Lb:Nat->Bool}(hL:∀f,Lb f=true->L.f f)(hV:∀u,uG P 8 u=true->L.t u)(o:Oper)(ρ:Operand->Value)(hρ:∀x∈o.op.operands,Av Z L (ρ x))(h:Gg P Lb o.op=true)(ht:VI P o=true):Hyg P (sw P F) Z L (FE Z L) (execOp ρ o):=by
 unfold execOp
 unfold VI at ht
 dsimp only
 generalize o.op=op at*
 cases op with
 |move x=>exact .pure (hρ x (by simp [Op.operands]))
 |assign x=>exact .pure (hρ x (by simp [Op.operands]))
 |pick c a b=>
  refine Hyg.bind (Bg _) fun b _=> .pure ?_
  show Av Z L (if _ then _ else _)
  split
  ·exact hρ a (by simp [Op.operands])
  ·exact hρ _ (by simp [Op.operands])
 |alloc t=>exact fQ (W9 h)
 |box t x=>exact fQ (ZL t (hρ x (by simp [Op.operands])))
 |build t ps=>
  refine fQ (WL h fun x hx=> ?_)
  obtain⟨p,hp,rfl⟩:=Array.mem_map.1 hx
  exact hρ p.2 (by simp only [Op.operands,List.mem_toArray,List.mem_map];exact⟨p,by simpa using hp,rfl⟩)
 |buildSlice t n ps=>
  refine fQ (Ie h n fun x hx=> ?_)
  obtain⟨p,hp,rfl⟩:=Array.mem_map.1 hx
  exact hρ p.2 (by simp only [Op.operands,List.mem_toArray,List.mem_map];exact⟨p,by simpa using hp,rfl⟩)
 |load t a=>exact fQ (Um t (hρ a (by simp [Op.operands])))
 |store t a x=>exact Xh (Sy t (hρ a (by simp [Op.operands])) (hρ x (by simp [Op.operands])))
 |nilCheck x=>
  have hx:=hρ x (by simp [Op.operands])
  dsimp only
  generalize ρ x=v at hx⊢
  have hx':=hx
  cases hx <;> first|exact qz rfl|exact .pure hx'
 |binOp op t x y _=>
  refine fQ ?_
  have hx:=hρ x (by simp [Op.operands])
  have hy:=hρ y (by simp [Op.operands])
  refine Hyg.bind (Qw op t x y hx hy) fun _ _=>Wq op t hx hy fun e=>⟨6, ?_⟩
  unfold Gg eqOk at h
  rcases e with rfl|rfl <;> exact h
 |unOp op t x=>exact fQ (WO op (hρ x (by simp [Op.operands])))
 |makeSlice t l c=>exact fQ (KI h _ _)
 |convert s d x=>exact fQ (Sm hV h (hρ x (by simp [Op.operands])))
 | makeFunc fn xs ys=>
  cases fn <;> simp only [Gg,Bool.false_eq_true]at h
  refine fQ (.pure (.func (hL _ h) (fun v hv=> ?_) fun v hv=> ?_))
  ·obtain⟨x,hx,rfl⟩:=Array.mem_map.1 hv
   exact hρ x (by simp [Op.operands,hx])
  ·obtain⟨x,hx,rfl⟩:=Array.mem_map.1 hv
   exact hρ x (by simp [Op.operands,hx])
 |makeMap t r=>exact fQ (Pm t _)
 |makeInterface t x=>exact fQ (BF t (hρ x (by simp [Op.operands])))
 |panic x=>exact fQ (RU (hρ x (by simp [Op.operands])))
 |slice t x lo hi mx=>exact fQ (QK t (hρ x (by simp [Op.operands])) _ _ _)
 |fieldAddr s x f=>exact fQ (Qo s (hρ x (by simp [Op.operands])) f)
 |field s x f=>exact fQ (Xc s (hρ x (by simp [Op.operands])) f)
 |indexAddr t x i=>exact fQ (RV t (hρ x (by simp [Op.operands])))
 |index t x i=>exact fQ (Wl t (hρ x (by simp [Op.operands])))
 |lookup t x i ok=>
  simp only [Gg,Bool.and_eq_true]at h
  refine fQ (Tk h.1 (fun k e he=> ?_) (hρ x (by simp [Op.operands])) (hρ i (by simp [Op.operands])) ok)
  have:=h.2
  unfold Qf at this
  rw [he]at this
  exact this
 |mapUpdate t m k x=>exact Xh (AP h (hρ m (by simp [Op.operands])) (hρ k (by simp [Op.operands])) (hρ x (by simp [Op.operands])))
 |insert t m k x=>exact Xh (AP h (hρ m (by simp [Op.operands])) (hρ k (by simp [Op.operands])) (hρ x (by simp [Op.operands])))
 |extract x i=>exact fQ (Qn (hρ x (by simp [Op.operands])) i)
 |range t x=>exact fQ (NP h _)
 |next x b=>exact fQ (QB h (hρ x (by simp [Op.operands])) _)
 | call c=>
  obtain⟨callee,args,ats⟩:=c
  cases callee with
  | builtin b=>
   have ha:∀v∈args.map ρ,Av Z L v:=by
    intro v hv
    obtain⟨x,hx,rfl⟩:=Array.mem_map.1 hv
    exact hρ x (by simp [Op.operands,Call.operands,hx])
   cases b <;> simp only [Gg,Bool.false_eq_true]at h
   ·refine fQ (uf ats _ _ ha fun t ht=> ?_)
    rw [ht]at h
    exact h
   ·exact fQ (aah ats _ _ ha)
   ·exact fQ (YE ats _ _ ha)
   ·exact fQ (aaB ats _ _ ha)
   ·exact fQ (Y5 ats _ _ ha)
   ·exact fQ (ZM ats _ _ ha)
   ·refine fQ (Ll ats (fun e he=>hV e ?_) _ ha)
    dsimp only at ht
    rw [he]at ht
    exact ht
   ·exact fQ (EF ats _ _ ha)
   ·exact(Hyg.bind (dL _) fun i _=> .pure (Av.int .u64 _):Hyg P (sw P F) Z L (FE Z L) (typeInfo (ats.getD 0 0)>>=fun i=>pure (.value (.int .u64 i.bytes))))
  |_=>simp [Gg]at h
 |_=>simp [Gg]at h
end
section
variable {P:Program} {F:Array Func} {Z:Nat->Prop} {L:Lk}
def Pk:Array Value->Sem Value:=fun args=>do
 let (x,y,c)←Extern.MathBitsCarry.three "Add64" args
 pure (Extern.MathBitsCarry.pair ((x+y+c) % Extern.MathBitsCarry.m64) ((x+y+c) / Extern.MathBitsCarry.m64))
def P9:List String:= ["math/bits.Add64", "internal/bytealg.CountString", "internal/bytealg.IndexByteString", "internal/abi.NoEscape", "internal/bytealg.MakeNoZero", "internal/bytealg.IndexString"]
def extFn(fn:Func):Bool:=fn.body.isNone&&P9.contains fn.name
def nR(P:Program):Option Nat:=P.globals.findIdx? (·.name== "internal/bytealg.MaxLen")
structure UN(P:Program)(F:Array Func):Prop where
 ext:∀ (K:FuncId) (fn:Func),P.funcs[K]? =some fn->extFn fn=true->F[K]? =some fn/\Extern.findNext fn=none/\∃sm,Extern.find fn=some sm/\
  ∀ (Z:Nat->Prop) (L:Lk) (args:Array Value),(∀v∈args,Av Z L v)->(fn.name= "internal/bytealg.IndexString" ->∀g,nR P=some g->¬ Z g)->Hyg P (sw P F) Z L (Av Z L) (sm args)
theorem lU(v:Value):Hyg P (sw P F) Z L (fun _=>True) (asInt v):=by
 unfold asInt
 exact Hyg.bind (mO _) fun _ _=> .pure trivial
theorem WB(args:Array Value):Hyg P (sw P F) Z L (Av Z L) (Pk args):=by
 unfold Pk
 refine Hyg.bind (Q:=fun _=>True) ?_ fun r _=> ?_
 ·obtain⟨l⟩:=args
  match l with
  | []=>exact ak _
  | [_]=>exact ak _
  | [_,_]=>exact ak _
  |_ :: _ :: _ :: _ :: _=>exact ak _
  | [x,y,c]=>
   unfold Extern.MathBitsCarry.three
   refine Hyg.bind (lU _) fun c _=> ?_
   dsimp only
   split
   ·exact Hyg.bind (Q:=fun _:Unit=>True) (iy _) fun _ _=>Hyg.bind (lU _) fun _ _=>Hyg.bind (lU _) fun _ _=> .pure trivial
   ·exact Hyg.bind (lU _) fun _ _=>Hyg.bind (lU _) fun _ _=> .pure trivial
 ·refine .pure (.tuple fun v hv=> ?_)
  simp only [List.mem_toArray,List.mem_cons,List.not_mem_nil,or_false]at hv
  rcases hv with rfl|rfl <;> exact .int _ _
theorem Fw:∀ (n:Nat) {a:Addr} (acc:ByteArray),¬ Z a.block->Hyg P (sw P F) Z L (fun _=>True) (Extern.Bytes.loadBytes a n acc)
 |0,_,_,_=> .pure trivial
 |n+1,a,acc,ha=>by
  unfold Extern.Bytes.loadBytes
  refine Hyg.bind (yj ha) fun v _=> ?_
  split
  ·exact Fw n _ (by rw [add_block];exact ha)
  ·exact ak _
theorem pF{v:Value}(hv:Av Z L v):Hyg P (sw P F) Z L (fun _=>True) (Extern.Bytes.bytesOf v):=by
 cases hv with
 |string s=>exact .pure trivial
 |slice0 l c=>exact .pure trivial
 |slice l c h=>exact Fw _ _ h
 |_=>exact ak _
theorem GU(v:Value):Hyg P (sw P F) Z L (fun _=>True) (Extern.Bytes.asByte v):=by
 unfold Extern.Bytes.asByte
 split
 ·exact .pure trivial
 ·exact ak _
theorem OJ{args:Array Value}(h:∀v∈args,Av Z L v):Hyg P (sw P F) Z L (Av Z L) (Extern.BytealgCount.count args):=by
 obtain⟨l⟩:=args
 match l with
 | []=>exact ak _
 | [_]=>exact ak _
 |_ :: _ :: _ :: _=>exact ak _
 | [b,c]=>exact Hyg.bind (pF (h b vS)) fun _ _=>Hyg.bind (GU _) fun _ _=> .pure (.int _ _)
theorem El{args:Array Value}(h:∀v∈args,Av Z L v):Hyg P (sw P F) Z L (Av Z L) (Extern.BytealgIndexByte.indexByte args):=by
 obtain⟨l⟩:=args
 match l with
 | []=>exact ak _
 | [_]=>exact ak _
 |_ :: _ :: _ :: _=>exact ak _
 | [b,c]=>
  refine Hyg.bind (pF (h b vS)) fun _ _=>Hyg.bind (GU _) fun _ _=> ?_
  split <;> exact .pure (.int _ _)
theorem Ru{args:Array Value}(h:∀v∈args,Av Z L v):Hyg P (sw P F) Z L (Av Z L) (Extern.AbiNoEscape.same args):=by
 obtain⟨l⟩:=args
 match l with
 | []=>exact ak _
 |_ :: _ :: _=>exact ak _
 | [x]=>exact .pure (h x vS)
theorem Jd(ps rs:Array TypeId)(args:Array Value):Hyg P (sw P F) Z L (Av Z L) (Extern.BytealgMakeNoZero.makeNoZero ps rs args):=by
 have Ag:∀ (n t:Nat) (acc:Array Value),(∀v∈acc,Av Z L v)->∀v∈Extern.BytealgMakeNoZero.digits n t acc,Av Z L v:=by
  intro n
  induction n with
  |zero=>exact fun t acc h=>h
  |succ n ih=>
   intro t acc h
   refine ih _ _ fun v hv=> ?_
   rcases Array.mem_push.1 hv with m|m
   ·exact h v m
   ·exact m▸ .int _ _
 unfold Extern.BytealgMakeNoZero.makeNoZero
 obtain⟨l⟩:=args
 match l with
 | []=>exact ak _
 |_ :: _ :: _=>exact ak _
 | [x]=>
  cases x with
  | int k n=>
   cases k <;> first|exact ak _|skip
   dsimp only
   split
   ·refine Hyg.bind (aG _) fun u _=> ?_
    split
    ·refine aP (fun _=>iB rfl _) fun _=> ?_
     refine Hyg.bind (fM _) fun c _=>Hyg.bind (y7 _) fun _ _=>Hyg.bind (fM _) fun b _=> ?_
     exact Hyg.bind (kg _ (Ag _ _ _ vS)) fun a ha=> .pure (.slice _ _ ha)
    ·exact ak _
   ·exact ak _
  |_=>exact ak _
theorem Gq{args:Array Value}(h:∀v∈args,Av Z L v)(hg:∀g,nR P=some g->¬ Z g):Hyg P (sw P F) Z L (Av Z L) (Extern.BytealgIndex.index args):=by
 obtain⟨l⟩:=args
 match l with
 | []=>exact ak _
 | [_]=>exact ak _
 |_ :: _ :: _ :: _=>exact ak _
 | [a,b]=>
  refine Hyg.bind (pF (h a vS)) fun x _=>Hyg.bind (pF (h b vS)) fun y _=> ?_
  refine Hyg.bind (Q:=fun _=>True) ?_ fun m _=> ?_
  ·unfold Extern.BytealgIndex.maxLen globalAddr
   refine Hyg.bind (Q:=fun a:Addr=>¬ Z a.block) (dP rfl ?_) fun a ha=>Hyg.bind (yj ha) fun v _=>lU _
   cases e:nR P with
   |none=>unfold nR at e;rw [e];exact ak _
   |some g=>have hz:=hg g e;unfold nR at e;rw [e];exact .pure hz
  ·refine aP (fun _=>Hyg.bind (Q:=fun _:Unit=>False) (iy _) fun _ h=>h.elim) fun _=>aP (fun _=>Hyg.bind (Q:=fun _:Unit=>False) (iy _) fun _ h=>h.elim) fun _=> ?_
   split <;> exact .pure (.int _ _)
def CB(P:Program)(Lb Gb:Nat->Bool):Op->Bool
 | .call {callee:= .value (.func K),args,..}=>(match P.funcs[K]? with
  |some fn=>extFn fn&&(fn.name != "internal/bytealg.IndexString" ||match nR P with
   |some g=>Gb g
   |none=>true)
  |none=>false)&&args.all (R9 Lb Gb)
 |_=>false
theorem MK{Lb Gb:Nat->Bool}(hE:UN P F)(hG:∀g,Gb g=true->¬ Z g)(o:Oper)(ρ:Operand->Value)(hf:∀f,ρ (.func f)= .func (.func f) #[] #[])(hρ:∀x∈o.op.operands,R9 Lb Gb x=true->Av Z L (ρ x))(h:CB P Lb Gb o.op=true):Hyg P (sw P F) Z L (FE Z L) (execOp ρ o):=by
 unfold execOp
 dsimp only
 generalize o.op=op at*
 cases op with
 | call c=>
  obtain⟨callee,args,ats⟩:=c
  cases callee with
  | value f=>
   cases f with
   | func K=>
    unfold CB at h
    dsimp only at h
    rw [Bool.and_eq_true]at h
    obtain⟨h,hall⟩:=h
    cases e:P.funcs[K]? with
    |none=>rw [e]at h;simp at h
    | some fn=>
     rw [e]at h
     dsimp only at h
     rw [Bool.and_eq_true]at h
     obtain⟨h,hml⟩:=h
     have hml':fn.name= "internal/bytealg.IndexString" ->∀g,nR P=some g->¬ Z g:=by
      intro e1 g e2
      rw [e1,e2]at hml
      exact hG g (by simpa using hml)
     obtain⟨h1,h2,sm,h3,h4⟩:=hE.ext K fn e h
     have hn:(fn.name== "runtime.NumGoroutine")=false:=by
      unfold extFn P9 at h
      simp only [Bool.and_eq_true,List.contains_eq_mem,List.mem_cons,List.not_mem_nil,or_false,decide_eq_true_eq]at h
      rcases h.2 with e|e|e|e|e|e <;> rw [e] <;> rfl
     have hb:fn.body.isNone=true:=by
      unfold extFn at h
      simp only [Bool.and_eq_true]at h
      exact h.1
     simp only [resolve,hf,Deferred.ofValue]
     refine Hyg.bind (Q:=fun d=>d.target= .fn (.func K) #[]/\∀v∈d.args,Av Z L v) (.pure ⟨rfl,fun v hv=> ?_⟩) fun d hd=> ?_
     ·simp only [Array.empty_append,Array.append_empty,Array.mem_map]at hv
      obtain⟨x,hx,rfl⟩:=hv
      exact hρ x (by simp [Op.operands,Call.operands,hx]) (Array.all_eq_true_iff_forall_mem.1 hall x hx)
     obtain⟨tgt,dargs⟩:=d
     simp only at hd
     obtain⟨hd,hda⟩:=hd
     subst hd
     unfold invoke callFunc
     dsimp only
     refine dP ?_ ?_
     ·show(match F[K]? with|none=>_|some fn=>_)=(match P.funcs[K]? with|none=>_|some fn=>_)
      rw [h1,e]
     ·simp only [e,hn,hb,if_true,Bool.false_eq_true,if_false,h2,h3]
      refine .noRoom (.inr ⟨K,rfl⟩) ?_
      refine Hyg.bind (Q:=fun _=>True) (.pure trivial) fun _ _=> ?_
      exact Hyg.bind (h4 Z L _ (by simpa using hda) hml') fun v hv=> .pure hv
   |_=>simp [CB]at h
  |_=>simp [CB]at h
 |_=>simp [CB]at h
end
end
section
open Go
def tp(w:World)(τ:Nat->Question->Nat)(d:Nat):World:={w with tape:=τ,drawn:=d}
def tpR{α:Type}(r:Result α)(τ:Nat->Question->Nat)(d:Nat):Result α:=match r with
 | .ok a w=> .ok a (tp w τ d)
 | .halt h w=> .halt h (tp w τ d)
@[simp] theorem Zj(w:World)(τ:Nat->Question->Nat)(d:Nat):(tp w τ d).heap=w.heap:=rfl
theorem BQ(w:World):tp w w.tape w.drawn=w:=rfl
theorem XV(w:World)(τ σ:Nat->Question->Nat)(d e:Nat):tp (tp w τ d) σ e=tp w σ e:=rfl
def Agree(n:Nat)(τ:Nat->Question->Nat)(d:Nat)(σ:Nat->Question->Nat)(e:Nat):Prop:=∀j,j<n->∀q,τ (d+j) q=σ (e+j) q
theorem AvW.tp{Z:Nat->Prop}{L:Lk}{v:World}(h:AvW Z L v)(τ:Nat->Question->Nat)(d:Nat):AvW Z L (tp v τ d):=⟨h.obj,h.low,h.win⟩
structure Local{α:Type}(P:Program)(s:Sem α)(v:World)(c:Nat):Prop where
 ok:∀a v',s.run P v= .ok a v'->v'.tape=v.tape/\v'.drawn=v.drawn+c
 re:∀τ d,Agree c τ d v.tape v.drawn->s.run P (tp v τ d)=tpR (s.run P v) τ (d+c)
theorem M0(p:Program)(v:World)(s:Addr)(u:TypeId)(k:Addr)(x:Value)(b:Bool)(τ:Nat->Question->Nat)(d:Nat):(tp v τ d).viewStore p s u k x b=(v.viewStore p s u k x b).map fun r=>(tp r.1 τ d,r.2):=by
 unfold World.viewStore
 have hs:(tp v τ d).seen p s u k b=v.seen p s u k b:=rfl
 rw [hs]
 simp only [bind,Except.bind,pure,Except.pure,throw,throwThe,MonadExceptOf.throw]
 split
 ·rfl
 ·cases v.seen p s u k b with
  |error _=>rfl
  | ok r=>
   obtain⟨c,e,fz,first,like,cells⟩:=r
   dsimp only
   cases x.bytes? with
   |none=>rfl
   |some bytes=>
    dsimp only
    split
    ·rfl
    ·split <;> rfl
theorem XL(p:Program)(v:World)(a:Addr)(τ:Nat->Question->Nat)(d:Nat):sM p (tp v τ d) a=sM p v a:=rfl
theorem Xu(p:Program)(v:World)(a:Addr)(x:Value)(τ:Nat->Question->Nat)(d:Nat):qw p (tp v τ d) a x=(qw p v a x).map fun r=>(tp r.1 τ d,r.2):=by
 unfold qw
 have hc:(tp v τ d).cell? a=v.cell? a:=rfl
 have hf:(tp v τ d).frozen? a=v.frozen? a:=rfl
 rw [hc,hf]
 cases v.cell? a with
 |some y=>dsimp only;split <;> rfl
 | none=>
  dsimp only
  unfold World.farStore
  simp only [Zj]
  cases v.1[a.block]? with
  |none=>rfl
  | some o=>
   cases o with
   |view s u=>
    dsimp only
    rw [M0]
    cases v.viewStore p s u a x false <;> rfl
   |_=>rfl
theorem Hyg.local{P:Program}{F:Array Func}{Z:Nat->Prop}{L:Lk}(hT:∀u,L.t u->I7 P u){α:Type}{Q:α->Prop}{s:Sem α}(h:Hyg P (sw P F) Z L Q s):∀v:World,AvW Z L v->∃c,Local (sw P F) s v c:=by
 induction h with
 |pure hq=>exact fun v _=>⟨0,fun a v' e=>by simp only [Sem.run,Result.ok.injEq]at e;obtain⟨_,rfl⟩:=e;exact⟨rfl,rfl⟩,fun τ d _=>rfl⟩
 | @load a k hz _ ih=>
  intro v ha
  cases hg:sM (sw P F) v a with
  |error h=>exact⟨0,fun z v' e'=>(by rw [run_load,hg]at e';cases e'),fun τ d _=>by rw [run_load,run_load,XL,hg];rfl⟩
  |ok r=>
   obtain⟨c,h1,h2⟩:=ih r.1 (Dp (fun u hu=>sU F (hT u hu)) ha.obj hz hg).1 v ha
   exact⟨c,fun y v' e'=>h1 y v' (by rw [run_load,hg]at e';exact e'),fun τ d hg'=>by rw [run_load,run_load,XL,hg];exact h2 τ d hg'⟩
 | @store a x k hz hx _ ih=>
  intro v ha
  by_cases hne:(∀c:Array Value,x≠ .agg c)/\(∀c:Array Value,x≠ .tuple c)
  ·cases hg:qw (sw P F) v a x with
   |error h=>exact⟨0,fun z v' e'=>(by rw [run_store _ _ hne,hg]at e';cases e'),fun τ d _=>by rw [run_store _ _ hne,run_store _ _ hne,Xu,hg];rfl⟩
   |ok r=>
    obtain⟨q1,_,_,q2,q3⟩:=Jo ha hz hx hg
    obtain⟨c,h1,h2⟩:=ih r.1 q1
    rw [q2,q3]at h1 h2
    exact⟨c,fun y v' e'=>h1 y v' (by rw [run_store _ _ hne,hg]at e';exact e'),fun τ d hg'=>by rw [run_store _ _ hne,run_store _ _ hne,Xu,hg];exact h2 τ d hg'⟩
  ·have e:∀w:World,Sem.run (sw P F) (.store .plain a x k) w= .halt (.stuck "store: not the value of one cell") w:=by
    intro w
    cases x <;> first|rfl|exact absurd ⟨by intros;simp,by intros;simp⟩ hne
   exact⟨0,fun z v' h=>(by rw [e]at h;cases h),fun τ d _=>by rw [e,e];rfl⟩
 | @new o k ho _ ih=>
  intro v ha
  have hn:¬ Z v.1.size:=fun hz=>absurd (ha.low _ hz) (Nat.lt_irrefl _)
  obtain⟨c,h1,h2⟩:=ih v.1.size hn {v with heap:=v.1.push o} (ha.push ho)
  exact⟨c,fun a v' e=>h1 a v' (by simpa [Sem.run]using e),fun τ d hg=>h2 τ d hg⟩
 | @shape r k hz _ ih=>
  intro v ha
  obtain⟨c,h1,h2⟩:=ih (v.shape? r) v ha
  exact⟨c,fun a v' e=>h1 a v' (by simpa [Sem.run]using e),fun τ d hg=>h2 τ d hg⟩
 | @frozen a k hz _ ih=>
  intro v ha
  obtain⟨c,h1,h2⟩:=ih (v.frozen? a) v ha
  exact⟨c,fun a v' e=>h1 a v' (by simpa [Sem.run]using e),fun τ d hg=>h2 τ d hg⟩
 | @freeze a n k hz _ ih=>
  intro v ha
  obtain⟨c,h1,h2⟩:=ih (v.freeze a n) (ha.freeze a n hz)
  have e1:(v.freeze a n).tape=v.tape/\(v.freeze a n).drawn=v.drawn:=by unfold World.freeze;split <;> exact⟨rfl,rfl⟩
  have e2:∀τ d,(tp v τ d).freeze a n=tp (v.freeze a n) τ d:=by intro τ d;unfold World.freeze;split <;> rfl
  refine⟨c,fun x v' e=> ?_,fun τ d hg=> ?_⟩
  ·have:=h1 x v' (by simpa [Sem.run]using e)
   rwa [e1.1,e1.2]at this
  ·show k.run (sw P F) ((tp v τ d).freeze a n)=_
   rw [e2]
   exact h2 τ d (by rw [e1.1,e1.2];exact hg)
 | @getObj r k hz _ ih=>
  intro v ha
  cases hc:v.1[r]? with
  |none=>
   have e:∀w:World,w.heap=v.heap->Sem.run (sw P F) (.getObj r k) w= .halt (.stuck "getObj: no such block") w:=by intro w hw;simp only [Sem.run,hw,hc]
   exact⟨0,fun z v' h=>(by rw [e v rfl]at h;cases h),fun τ d _=>by rw [e v rfl,e (tp v τ d) rfl];rfl⟩
  | some o=>
   have ho:=ha.obj _ _ hz hc
   by_cases hn:∃c t f,o= .cells c t f
   ·obtain⟨c,t,f,rfl⟩:=hn
    have e:∀w:World,w.heap=v.heap->Sem.run (sw P F) (.getObj r k) w= .halt (.stuck "getObj: a row of cells") w:=by intro w hw;simp only [Sem.run,hw,hc]
    exact⟨0,fun z v' h=>(by rw [e v rfl]at h;cases h),fun τ d _=>by rw [e v rfl,e (tp v τ d) rfl];rfl⟩
   ·obtain⟨c,h1,h2⟩:=ih o ho v ha
    have e:∀w:World,w.heap=v.heap->Sem.run (sw P F) (.getObj r k) w=(k o).run (sw P F) w:=by
     intro w hw
     simp only [Sem.run,hw,hc]
     cases o <;> first|rfl|exact absurd ⟨_,_,_,rfl⟩ hn
    exact⟨c,fun z v' h=>h1 z v' (by rw [←e v rfl];exact h),fun τ d hg=>by rw [e v rfl,e (tp v τ d) rfl];exact h2 τ d hg⟩
 | @setObj r o k hz ho _ ih=>
  intro v ha
  cases hc:v.1[r]? with
  |none=>
   have e:∀w:World,w.heap=v.heap->Sem.run (sw P F) (.setObj r o k) w= .halt (.stuck "setObj: no such block") w:=by intro w hw;simp only [Sem.run,hw,hc]
   exact⟨0,fun z v' h=>(by rw [e v rfl]at h;cases h),fun τ d _=>by rw [e v rfl,e (tp v τ d) rfl];rfl⟩
  | some o'=>
   by_cases hn:∃c t f,o'= .cells c t f
   ·obtain⟨c,t,f,rfl⟩:=hn
    have e:∀w:World,w.heap=v.heap->Sem.run (sw P F) (.setObj r o k) w= .halt (.stuck "setObj: a row of cells") w:=by intro w hw;simp only [Sem.run,hw,hc]
    exact⟨0,fun z v' h=>(by rw [e v rfl]at h;cases h),fun τ d _=>by rw [e v rfl,e (tp v τ d) rfl];rfl⟩
   ·obtain⟨c,h1,h2⟩:=ih {v with heap:=v.heap.setIfInBounds r o} (ha.setObj r hz ho)
    have e:∀w:World,w.heap=v.heap->Sem.run (sw P F) (.setObj r o k) w=k.run (sw P F) {w with heap:=w.heap.setIfInBounds r o}:=by
     intro w hw
     simp only [Sem.run]
     rw [show w.1[r]? =some o' by rw [hw];exact hc]
     cases o' <;> first|rfl|exact absurd ⟨_,_,_,rfl⟩ hn
    exact⟨c,fun z v' h=>h1 z v' (by rw [←e v rfl];exact h),fun τ d hg=>by rw [e v rfl,e (tp v τ d) rfl];exact h2 τ d hg⟩
 | @choose q k _ ih=>
  intro v ha
  by_cases hq:q.forced=true
  ·obtain⟨c,h1,h2⟩:=ih 0 v ha
   have e:∀w:World,Sem.run (sw P F) (.choose q k) w=(k 0).run (sw P F) w:=by intro w;simp only [Sem.run,hq,if_true]
   exact⟨c,fun a v' h=>h1 a v' (by rw [←e];exact h),fun τ d hg=>by rw [e,e];exact h2 τ d hg⟩
  ·obtain⟨c,h1,h2⟩:=ih (q.cut (v.tape v.drawn q)) {v with drawn:=v.drawn+1} (ha.draw _)
   have e:∀w:World,Sem.run (sw P F) (.choose q k) w=(k (q.cut (w.tape w.drawn q))).run (sw P F) {w with drawn:=w.drawn+1}:=by
    intro w;simp only [Sem.run];rw [if_neg hq]
   refine⟨c+1,fun a v' h=> ?_,fun τ d hg=> ?_⟩
   ·obtain⟨x,y⟩:=h1 a v' (by rw [←e];exact h)
    exact⟨x,by simp only at y;omega⟩
   ·rw [e,e]
    have h0:τ d q=v.tape v.drawn q:=by have:=hg 0 vO q;simpa using this
    have:=h2 τ (d+1) (fun j hj q'=>by have:=hg (j+1) vO q';simp only;rw [show d+1+j=d+(j+1) by omega,show v.drawn+1+j=v.drawn+(j+1) by omega];exact this)
    show(k (q.cut (τ d q))).run (sw P F) {tp v τ d with drawn:=d+1}=_
    rw [h0,show d+(c+1)=d+1+c by omega]
    exact this
 | @program k hk _ ih=>
  intro v ha
  obtain⟨c,h1,h2⟩:=ih v ha
  have e:∀w:World,Sem.run (sw P F) (.program k) w=(k P).run (sw P F) w:=by intro w;simp only [Sem.run];rw [hk]
  exact⟨c,fun a v' h=>h1 a v' (by rw [←e];exact h),fun τ d hg=>by rw [e,e];exact h2 τ d hg⟩
 | @noRoom mk k hmk _ ih=>
  intro v ha
  obtain⟨c,h1,h2⟩:=ih v ha
  exact⟨c,fun a v' e=>h1 a v' (by simpa [Sem.run]using e),fun τ d hg=>h2 τ d hg⟩
 |env _ _ ih=>
  intro v ha
  obtain⟨c,h1,h2⟩:=ih (.strings v.os.env) v ha
  exact⟨c,fun a v' e=>h1 a v' (by simpa only [Sem.run,GD]using e),fun τ d hg=>by simp only [Sem.run,GD];exact h2 τ d hg⟩
 |halt _=>exact fun v _=>⟨0,fun a v' e=>by simp [Sem.run]at e,fun τ d _=>rfl⟩
end
section
open Go Go.Conc
def aF(P:Program)(Lb Gb:Nat->Bool)(o:Oper):Bool:=((Gg P Lb o.op||qC o.op)&&VI P o&&o.op.operands.all (R9 Lb Gb))||CB P Lb Gb o.op
def fG(ok:Oper->Bool):Code->Bool
 | .skip| .ret| .exit _| .label _| .refuse _=>true
 | .region _ ops _=>ops.all ok
 | .seq a b| .cond _ a b=>fG ok a&&fG ok b
 | .block _ c| .loop c| .scope c=>fG ok c
 |_=>false
def iH(ok:Oper->Bool):Item->Bool
 | .code c=>fG ok c
 | .inBlock _=>true
 | .inLoop c=>fG ok c
 | .inScope c=>fG ok c
 | .inRegion ops _=>ops.all ok
 |_=>false
class Wn where
 x:Nat->Option Obj
 kd:Nat->Nat->Nat
 wv:Nat->Value->Prop
 wv0:∀v,¬ wv 0 v
 sp:Nat->Oper->Bool
 sc:Nat->Oper->Bool
 nw:Nat->Bool
 nw0:∀f,nw f=true->∀i,kd f i=0
def acY[Wn](f:Nat):Operand->Bool
 | .tmp t=>Wn.kd f t==0
 |_=>true
def wop[Wn](f:Nat)(o:Oper):Bool:=o.op.operands.all (acY f)||Wn.sp f o||Wn.sc f o
theorem adE[Wn]{f:Nat}(h:Wn.nw f=true)(o:Oper):wop f o=true:=by
 unfold wop
 rw [Bool.or_eq_true,Bool.or_eq_true]
 exact .inl (.inl (Array.all_eq_true_iff_forall_mem.2 fun x _=>by cases x <;> simp [acY,Wn.nw0 f h]))
def okf[Wn](ok:Oper->Bool)(f:Nat)(o:Oper):Bool:=ok o&&wop f o
variable [Wn]
def lk(Lb:Nat->Bool)(ok:Oper->Bool):Lk:=⟨fun f=>Lb f=true,fun u=>ok {dst:=none,op:= .call {callee:= .builtin .unsafeSizeof,args:= #[],argTypes:= #[u]},type:=0,pos:= "",after:= #[],guard:=none}=true,Wn.x⟩
theorem lkV{P:Program}{Lb Gb:Nat->Bool}:∀u,uG P 8 u=true->(lk Lb (aF P Lb Gb)).t u:=fun u h=>by simp [lk,aF,Gg,VI,h,Op.operands,Call.operands]
theorem lkT{P:Program}{Lb Gb:Nat->Bool}:∀u,(lk Lb (aF P Lb Gb)).t u->I7 P u:=fun u h=>aam (by simpa [lk,aF,Gg,VI,CB,qC,Op.operands,Call.operands]using h)
structure FOk(Z:Nat->Prop)(Lb:Nat->Bool)(ok:Oper->Bool)(sat:Nat)(fr:Frame):Prop where
 kind:fr.kind= .normal
 round:fr.roundOf=none
 defers:fr.defers= []
 fn:Lb fr.fn=true
 notSat:fr.fn≠sat
 tmps:∀ (i:Nat) v,fr.tmps[i]? =some v->Av Z (lk Lb ok) v∨Wn.wv (Wn.kd fr.fn i) v
 todo:∀i∈fr.todo,iH (okf ok fr.fn) i=true
def bE(fr:Frame):Option Frame:=match fr.todo with
 | []=>if fr.roundOf=none then some {fr with mode:= .returning}else none
 | .code .ret :: _=>if fr.roundOf=none then some {fr with mode:= .returning}else none
 | .code .skip :: k| .code (.label _) :: k| .inBlock _ :: k| .inScope _ :: k=>some {fr with todo:=k}
 | .code (.seq a b) :: k=>some {fr with todo:= .code a :: .code b :: k}
 | .code (.cond c t e) :: k=>match fr.eval c with
  | .bool b=>some {fr with todo:= .code (if b then t else e) :: k}
  |_=>none
 | .code (.block id c) :: k=>some {fr with todo:= .code c :: .inBlock id :: k}
 | .code (.loop c) :: k| .inLoop c :: k=>some {fr with todo:= .code c :: .inLoop c :: k}
 | .code (.scope c) :: k=>some {fr with todo:= .code c :: .inScope c :: k}
 | .code (.exit id) :: k=>(exitTo id k).map fun k'=>{fr with todo:=k'}
 | .code (.region _ ops false) :: k=>some {fr with todo:= .inRegion ops (List.range ops.size) :: k}
 | .inRegion _ [] :: k=>some {fr with todo:=k}
 | .inRegion ops (i :: _) :: _=>if((ops[i]?).map (Region.wanted · (yielded ops fr.tmps))).getD false then none else some (fr.finish undef)
 |_=>none
omit [Wn] in
theorem quiet_step{fr fr':Frame}(hm:fr.mode= .run)(h:bE fr=some fr')(Pg:Program)(main:Bool)(cs:List Frame)(w:World):
  stepG Pg main (G fr cs) w= .go (G fr' cs) w:=by
 unfold bE at h
 obtain⟨fn,tmps,todo,defers,mode,kind,roundOf⟩:=fr
 simp only at hm h
 subst hm
 split at h
 all_goals first
  | (split at h
     · next e=>
       simp only [Option.some.injEq]at h
       subst h e
       simp [stepG,stepG.exec,G];done
     · cases h)
  |(simp only [Option.some.injEq]at h;subst h;simp [stepG,stepG.exec,G];done)
  |skip
 ·split at h
  ·next e=>
   simp only [Option.some.injEq]at h
   subst h
   simp [stepG,stepG.exec,G,e]
  ·cases h
 ·obtain⟨k',hk,rfl⟩:=Option.map_eq_some_iff.1 h
  simp [stepG,stepG.exec,G,hk]
 ·split at h
  ·cases h
  ·next e=>
   simp only [Option.some.injEq]at h
   subst h
   simp [stepG,stepG.exec,G,e]
 ·cases h
omit [Wn] in
theorem Pv(id:Nat)(k:List Item):∀k',exitTo id k=some k'->∀i∈k',i∈k:=by
 induction k with
 |nil=>intro k' h;simp [exitTo]at h
 | cons i k ih=>
  intro k' h j hj
  have:exitTo id k=some k'∨k=k':=by
   cases i <;> simp only [exitTo]at h <;> first|exact .inl h|skip
   split at h
   ·exact .inr (Option.some.inj h)
   ·exact .inl h
  rcases this with e|e
  ·exact List.mem_cons_of_mem _ (ih k' e j hj)
  ·exact e▸List.mem_cons_of_mem _ (e▸hj)
section
variable {Z:Nat->Prop} {Lb:Nat->Bool} {ok:Oper->Bool} {sat:Nat}
theorem o8:Av Z (lk Lb ok) undef:= .tuple vS
theorem FOk.lay{fr:Frame}(h:FOk Z Lb ok sat fr){k:List Item}(hk:∀i∈k,iH (okf ok fr.fn) i=true):FOk Z Lb ok sat {fr with todo:=k}:=⟨h.kind,h.round,h.defers,h.fn,h.notSat,h.tmps,hk⟩
def Fits(Z:Nat->Prop)(Lb:Nat->Bool)(ok:Oper->Bool)(fr:Frame)(v:Value):Prop:=Av Z (lk Lb ok) v∨∃ops i rest k o d,fr.todo= .inRegion ops (i :: rest) :: k/\ops[i]? =some o/\o.dst=some d/\Wn.wv (Wn.kd fr.fn d) v
theorem FOk.acV{fr:Frame}(h:FOk Z Lb ok sat fr){v:Value}(hv:Fits Z Lb ok fr v):FOk Z Lb ok sat (fr.finish v):=by
 have ht:=h.todo
 have h2:∀{x:Item} {k:List Item},fr.todo=x :: k->iH (okf ok fr.fn) x=true/\∀i∈k,iH (okf ok fr.fn) i=true:=by
  intro x k ek
  rw [ek]at ht
  exact⟨ht x vS,fun i hi=>ht i (by simp [hi])⟩
 unfold Frame.finish
 split
 ·next ops i rest k e=>
  refine⟨h.kind,h.round,h.defers,h.fn,h.notSat,fun n x hx=> ?_,fun j hj=> ?_⟩
  ·simp only at hx
   split at hx
   ·next d hd=>
    rw [Array.getElem?_setIfInBounds]at hx
    split at hx
    ·next e1=>
     split at hx
     ·obtain rfl:=Option.some.inj hx
      rcases hv with hv|⟨ops',i',rest',k',o',d',q1,q2,q3,q4⟩
      ·exact .inl hv
      ·rw [e]at q1
       cases q1
       rw [q2]at hd
       simp only [Option.bind_some,q3,Option.some.injEq]at hd
       subst hd
       subst e1
       exact .inr q4
     ·cases hx
    ·exact h.tmps n x hx
   ·exact h.tmps n x hx
  ·simp only [List.mem_cons]at hj
   rcases hj with rfl|hj
   ·exact(h2 e).1
   ·exact(h2 e).2 j hj
 ·next e=>have:=(h2 e).1;simp [iH]at this
 ·next e=>have:=(h2 e).1;simp [iH]at this
 ·next e=>have:=(h2 e).1;simp [iH]at this
 ·next e=>have:=(h2 e).1;simp [iH]at this
 ·exact h
theorem FOk.finish{fr:Frame}(h:FOk Z Lb ok sat fr){v:Value}(hv:Av Z (lk Lb ok) v):FOk Z Lb ok sat (fr.finish v):=h.acV (.inl hv)
theorem FOk.quiet{fr fr':Frame}(h:FOk Z Lb ok sat fr)(e:bE fr=some fr'):FOk Z Lb ok sat fr':=by
 have ht:=h.todo
 have h2:∀{x:Item} {k:List Item},fr.todo=x :: k->iH (okf ok fr.fn) x=true/\∀i∈k,iH (okf ok fr.fn) i=true:=by
  intro x k ek
  rw [ek]at ht
  exact⟨ht x vS,fun i hi=>ht i (by simp [hi])⟩
 have code:∀{c:Code},fG (okf ok fr.fn) c=true->iH (okf ok fr.fn) (.code c)=true:=fun hc=>hc
 unfold bE at e
 split at e
 ·split at e
  ·next hr=>simp only [Option.some.injEq]at e;subst e;exact⟨h.kind,h.round,h.defers,h.fn,h.notSat,h.tmps,h.todo⟩
  ·cases e
 ·split at e
  ·next hr=>simp only [Option.some.injEq]at e;subst e;exact⟨h.kind,h.round,h.defers,h.fn,h.notSat,h.tmps,h.todo⟩
  ·cases e
 ·next k ek=>simp only [Option.some.injEq]at e;subst e;exact h.lay (h2 ek).2
 ·next k ek=>simp only [Option.some.injEq]at e;subst e;exact h.lay (h2 ek).2
 ·next k ek=>simp only [Option.some.injEq]at e;subst e;exact h.lay (h2 ek).2
 ·next k ek=>simp only [Option.some.injEq]at e;subst e;exact h.lay (h2 ek).2
 ·next a b k ek=>
  simp only [Option.some.injEq]at e;subst e
  obtain⟨x,y⟩:=h2 ek
  simp only [iH,fG,Bool.and_eq_true]at x
  refine h.lay fun i hi=> ?_
  simp only [List.mem_cons]at hi
  rcases hi with rfl|rfl|hi
  ·exact code x.1
  ·exact code x.2
  ·exact y i hi
 ·next c a b k ek=>
  obtain⟨x,y⟩:=h2 ek
  simp only [iH,fG,Bool.and_eq_true]at x
  split at e
  ·simp only [Option.some.injEq]at e;subst e
   refine h.lay fun i hi=> ?_
   simp only [List.mem_cons]at hi
   rcases hi with rfl|hi
   ·refine code ?_
    split
    ·exact x.1
    ·exact x.2
   ·exact y i hi
  ·cases e
 ·next id c k ek=>
  simp only [Option.some.injEq]at e;subst e
  obtain⟨x,y⟩:=h2 ek
  refine h.lay fun i hi=> ?_
  simp only [List.mem_cons]at hi
  rcases hi with rfl|rfl|hi
  ·exact code x
  ·exact rfl
  ·exact y i hi
 ·next c k ek=>
  simp only [Option.some.injEq]at e;subst e
  obtain⟨x,y⟩:=h2 ek
  refine h.lay fun i hi=> ?_
  simp only [List.mem_cons]at hi
  rcases hi with rfl|rfl|hi
  ·exact code x
  ·exact x
  ·exact y i hi
 ·next c k ek=>
  simp only [Option.some.injEq]at e;subst e
  obtain⟨x,y⟩:=h2 ek
  refine h.lay fun i hi=> ?_
  simp only [List.mem_cons]at hi
  rcases hi with rfl|rfl|hi
  ·exact code x
  ·exact x
  ·exact y i hi
 ·next c k ek=>
  simp only [Option.some.injEq]at e;subst e
  obtain⟨x,y⟩:=h2 ek
  refine h.lay fun i hi=> ?_
  simp only [List.mem_cons]at hi
  rcases hi with rfl|rfl|hi
  ·exact code x
  ·exact x
  ·exact y i hi
 ·next id k ek=>
  obtain⟨k',hk,rfl⟩:=Option.map_eq_some_iff.1 e
  exact h.lay fun i hi=>(h2 ek).2 i (Pv _ _ _ hk i hi)
 ·next id ops k ek=>
  simp only [Option.some.injEq]at e;subst e
  obtain⟨x,y⟩:=h2 ek
  refine h.lay fun i hi=> ?_
  simp only [List.mem_cons]at hi
  rcases hi with rfl|hi
  ·exact x
  ·exact y i hi
 ·next ops k ek=>simp only [Option.some.injEq]at e;subst e;exact h.lay (h2 ek).2
 ·split at e
  ·cases e
  ·simp only [Option.some.injEq]at e;subst e;exact h.finish o8
 ·cases e
end
end
section
open Go Go.Conc
def LP(fn:Func):Bool:=fn.results.all fun| .tmp _=>true|_=>false
def AX(fn:Func)(tmps:Array Value):Value:=
 let vs:=fn.results.map fun| .tmp t=>tmps.getD t undef|_=>undef
 if h:vs.size=1 then vs[0]else .tuple vs
theorem Ct{fn:Func}(h:LP fn=true)(tmps:Array Value):results fn tmps=pure (AX fn tmps):=by
 unfold results AX
 have:(fn.results.mapM fun
  | .tmp t=>pure (tmps.getD t undef)
  | .cell a t=>do loadVar t (←asAddr (tmps.getD a undef)):Sem (Array Value))=pure (fn.results.map fun| .tmp t=>tmps.getD t undef|_=>undef):=by
  unfold LP at h
  have h':=Array.all_eq_true_iff_forall_mem.1 h
  rw [Array.mapM_eq_mapM_toList]
  have key:∀l:List ResultVar,(∀x∈l,(match x with| .tmp _=>true|_=>false)=true)->(l.mapM (fun
   | .tmp t=>pure (tmps.getD t undef)
   | .cell a t=>do loadVar t (←asAddr (tmps.getD a undef)):ResultVar->Sem Value))=pure (l.map fun| .tmp t=>tmps.getD t undef|_=>undef):=by
   intro l
   induction l with
   |nil=>intro _;rfl
   |cons x l ih=>
    intro hl
    rw [List.mapM_cons,ih fun y hy=>hl y (by simp [hy])]
    have:=hl x vS
    cases x with
    |tmp t=>rfl
    |cell=>simp at this
  rw [key _ (fun x hx=>h' x (by simpa using hx)),map_pure]
  congr 1
  apply Array.toList_inj.1
  rw [Array.toList_map]
 exact(congrArg (fun s:Sem (Array Value)=>s>>=fun vs=>pure (if h:vs.size=1 then vs[0]else .tuple vs)) this).trans rfl
def acU:ResultVar->Nat
 | .tmp t=>t
 | .cell a _=>a
theorem acO{a b:Oper->Bool}:∀c,fG a c=true->fG b c=true->fG (fun o=>a o&&b o) c=true
 | .skip,_,_| .ret,_,_| .exit _,_,_| .label _,_,_| .refuse _,_,_=>rfl
 | .region _ ops _,h,h'=>by
  simp only [fG]at h h'⊢
  exact Array.all_eq_true_iff_forall_mem.2 fun o ho=>by rw [Array.all_eq_true_iff_forall_mem.1 h o ho,Array.all_eq_true_iff_forall_mem.1 h' o ho];rfl
 | .seq x y,h,h'=>by
  simp only [fG,Bool.and_eq_true]at h h'⊢
  exact⟨acO x h.1 h'.1,acO y h.2 h'.2⟩
 | .cond _ x y,h,h'=>by
  simp only [fG,Bool.and_eq_true]at h h'⊢
  exact⟨acO x h.1 h'.1,acO y h.2 h'.2⟩
 | .block _ c,h,h'=>by simp only [fG]at h h'⊢;exact acO c h h'
 | .loop c,h,h'=>by simp only [fG]at h h'⊢;exact acO c h h'
 | .scope c,h,h'=>by simp only [fG]at h h'⊢;exact acO c h h'
theorem acN{a b:Oper->Bool}(hab:∀o,a o=true->b o=true):∀c,fG a c=true->fG b c=true
 | .skip,_| .ret,_| .exit _,_| .label _,_| .refuse _,_=>rfl
 | .region _ ops _,h=>by
  simp only [fG]at h⊢
  exact Array.all_eq_true_iff_forall_mem.2 fun o ho=>hab o (Array.all_eq_true_iff_forall_mem.1 h o ho)
 | .seq x y,h=>by
  simp only [fG,Bool.and_eq_true]at h⊢
  exact⟨acN hab x h.1,acN hab y h.2⟩
 | .cond _ x y,h=>by
  simp only [fG,Bool.and_eq_true]at h⊢
  exact⟨acN hab x h.1,acN hab y h.2⟩
 | .block _ c,h=>by simp only [fG]at h⊢;exact acN hab c h
 | .loop c,h=>by simp only [fG]at h⊢;exact acN hab c h
 | .scope c,h=>by simp only [fG]at h⊢;exact acN hab c h
section
variable {P:Program} {F:Array Func} {Z:Nat->Prop} {Lb Gb:Nat->Bool} {sat:Nat}
theorem jA{P:Program}{F:Array Func}{Z:Nat->Prop}{L:Lk}(hZ:¬ Z P.globals.size)(fn:Func){tmps:Array Value}(hg:∀r∈fn.results,Av Z L (tmps.getD (acU r) undef)):Hyg P (sw P F) Z L (Av Z L) (results fn tmps):=by
 replace hg:∀r∈fn.results.toList,Av Z L (tmps.getD (acU r) undef):=fun r hr=>hg r (by simpa using hr)
 unfold results
 refine Hyg.bind (Q:=fun vs:Array Value=>∀v∈vs,Av Z L v) ?_ fun vs hvs=> .pure ?_
 ·rw [Array.mapM_eq_mapM_toList]
  refine Hyg.bind (Q:=fun l:List Value=>∀v∈l,Av Z L v) ?_ fun l hl=> .pure (by simpa using hl)
  generalize fn.results.toList=rs at hg⊢
  induction rs with
  |nil=>simp only [List.mapM_nil];exact .pure vS
  | cons r rs ih=>
   simp only [List.mapM_cons]
   refine Hyg.bind (Q:=Av Z L) ?_ fun x hx=>Hyg.bind (ih fun r hr=>hg r (by simp [hr])) fun l hl=> .pure ?_
   ·have h0:=hg r vS
    cases r with
    |tmp t=>exact .pure h0
    |cell a t=>exact Hyg.bind (Uu h0 hZ) fun ad had=>EJ t had
   ·intro v hv
    rcases List.mem_cons.1 hv with rfl|hv
    ·exact hx
    ·exact hl v hv
 ·split
  ·exact hvs _ (Array.getElem_mem _)
  ·exact .tuple hvs
theorem kD{Pg:Program}{main:Bool}{fr c:Frame}{cs:List Frame}{w w':World}{fn:Func}{x:Value}(hm:fr.mode= .returning)(hd:fr.defers= [])(hk:fr.kind= .normal)(hf:Pg.funcs[fr.fn]? =some fn)(he:(results fn fr.tmps).run Pg w= .ok x w'):
  stepG Pg main (G fr (c :: cs)) w= .go (G (c.finish x) cs) w' (seen Pg fr.fn ((results fn fr.tmps).events Pg w #[])):=by
 simp [G,stepG,unwind,doReturn,hm,hd,hk,hf,he,Sem.runT_eq,GStep.after]
theorem lQ{Pg:Program}{main:Bool}{fr:Frame}{cs:List Frame}{w w':World}{fn:Func}{h:Halt}(hm:fr.mode= .returning)(hd:fr.defers= [])(hf:Pg.funcs[fr.fn]? =some fn)(he:(results fn fr.tmps).run Pg w= .halt h w'):
  ∃oc w'' es,stepG Pg main (G fr cs) w= .ended oc w'' es:=by
 cases h <;> simp [G,stepG,unwind,hm,hd,hf,he,Sem.runT_eq,GStep.after]
theorem GV{Pg:Program}{main:Bool}{fr c:Frame}{cs:List Frame}{w:World}{fn:Func}(hm:fr.mode= .returning)(hd:fr.defers= [])(hk:fr.kind= .normal)(hf:Pg.funcs[fr.fn]? =some fn)(hr:LP fn=true):
  stepG Pg main (G fr (c :: cs)) w= .go (G (c.finish (AX fn fr.tmps)) cs) w:=by
 have e:(results fn fr.tmps).run Pg w= .ok (AX fn fr.tmps) w:=by rw [Ct hr];rfl
 have e':(results fn fr.tmps).events Pg w #[]= #[]:=by rw [Ct hr];rfl
 simp [G,stepG,unwind,doReturn,hm,hd,hk,hf,e,e',seen,GStep.after]
theorem nK{Pg:Program}{main:Bool}{fr:Frame}{cs:List Frame}{w:World}{id:Nat}{ops:Array Oper}{k:List Item}(hm:fr.mode= .run)(ht:fr.todo= .code (.region id ops true) :: k):
  stepG Pg main (G fr cs) w= .go (G {fr with todo:= .inRegion ops (Region.schedule (Pg.follows .mixedOrders) ops (w.tape w.drawn (.order fr.fn id))) :: k} cs) {w with drawn:=w.drawn+1}:=by
 obtain⟨fn,tmps,todo,defers,mode,kind,roundOf⟩:=fr
 simp only at hm ht
 subst hm ht
 simp [stepG,stepG.exec,G,choose,Sem.run,Question.forced,Question.cut]
theorem j3{Pg:Program}{main:Bool}{fr:Frame}{cs:List Frame}{w:World}{ops:Array Oper}{i:Nat}{rest:List Nat}{k:List Item}{o:Oper}(hm:fr.mode= .run)(hn:∀c,o.op≠ .defer c)
  (ht:fr.todo= .inRegion ops (i :: rest) :: k) (ho:ops[i]? =some o) (hw:Region.wanted o (yielded ops fr.tmps)=true):
  stepG Pg main (G fr cs) w=stepG.apply Pg true fr cs none (execOp fr.eval o) w:=by
 obtain⟨fn,tmps,todo,defers,mode,kind,roundOf⟩:=fr
 simp only at hm ht hw
 subst hm ht
 simp only [G,stepG,stepG.exec,ho,Option.map_some,Option.getD_some,hw,if_true,stepG.oper,Frame.oper?]
 split
 ·next l c h=>exact absurd h (hn c)
 ·rfl
section
variable {Pg:Program} {fr:Frame} {cs:List Frame} {w w':World} {s:Sem Next}
theorem QG{v:Value}(hk:fr.kind= .normal)(he:s.run Pg w= .ok (.value v) w'):stepG.apply Pg true fr cs none s w= .go (G (fr.finish v) cs) w' (seen Pg fr.fn (s.events Pg w #[])):=by
 simp [stepG.apply,he,hk,GStep.after,G]
theorem Hu(hk:fr.kind= .normal)(he:s.run Pg w= .ok .skip w'):stepG.apply Pg true fr cs none s w= .go (G (fr.finish undef) cs) w' (seen Pg fr.fn (s.events Pg w #[])):=by
 simp [stepG.apply,he,hk,GStep.after,G]
theorem pW{x:Value}(hk:fr.kind= .normal)(he:s.run Pg w= .halt (.panic x) w'):∃es,stepG.apply Pg true fr cs none s w= .go (G (fr.raise [{v:=x,recovered:=false}]) cs) w' es:=by
 simp [stepG.apply,he,hk,GStep.after,G]
theorem uy{h:Halt}(hk:fr.kind= .normal)(he:s.run Pg w= .halt h w')(hh:iP h)(hn:∀x,h≠ .panic x):∃oc w'' es,stepG.apply Pg true fr cs none s w= .ended oc w'' es:=by
 cases hh with
 |panic x=>exact absurd rfl (hn x)
 |_=>simp [stepG.apply,he,hk,GStep.after]
theorem TA{h:Halt}(hm:fr.mode= .run)(hk:fr.kind= .normal)(he:s.run Pg w= .halt h w')(hh:iP h){g1:Goroutine}{v1:World}{es1:Array Event}(hs:stepG.apply Pg true fr cs none s w= .go g1 v1 es1):∃ch,g1.frame.mode= .panicking ch:=by
 cases hh <;> simp [stepG.apply,he,hk,hm,GStep.after,Frame.raise]at hs
 obtain⟨rfl,_⟩:=hs
 exact⟨_,rfl⟩
theorem qh{f:FuncId}{args:Array Value}(hk:fr.kind= .normal)(hc:∀d r x q k,fr.todo≠ .call d r x q :: k)(he:s.run Pg w= .ok (.enter f args) w'):
  stepG.apply Pg true fr cs none s w= .go (G (Frame.enter Pg f args .normal) (fr :: cs)) w' (seen Pg fr.fn (s.events Pg w #[])):=by
 obtain⟨fn,tmps,todo,defers,mode,kind,roundOf⟩:=fr
 simp only at hk hc
 subst hk
 cases todo with
 |nil=>simp [stepG.apply,he,GStep.after,G]
 |cons it k=>
  cases it with
  |call d r x q=>exact absurd rfl (hc d r x q k)
  |_=>simp [stepG.apply,he,GStep.after,G]
end
section
variable {Pg:Program} {main:Bool} {fr:Frame} {cs:List Frame} {w w':World} {ops:Array Oper} {i:Nat} {rest:List Nat} {k:List Item} {o:Oper}
theorem LJ{h:Halt}(hm:fr.mode= .run)(hr:∀c,o.op≠ .defer c)(hk:fr.kind= .normal)
  (ht:fr.todo= .inRegion ops (i :: rest) :: k) (ho:ops[i]? =some o) (hw:Region.wanted o (yielded ops fr.tmps)=true) (he:(execOp fr.eval o).run Pg w= .halt h w') (hh:iP h) {g1:Goroutine} {v1:World} {es1:Array Event}
  (hs:stepG Pg main (G fr cs) w= .go g1 v1 es1):∃ch,g1.frame.mode= .panicking ch:=by
 rw [j3 hm hr ht ho hw]at hs
 exact TA hm hk he hh hs
theorem nP{x:Value}(hm:fr.mode= .run)(hr:∀c,o.op≠ .defer c)(hk:fr.kind= .normal)
  (ht:fr.todo= .inRegion ops (i :: rest) :: k) (ho:ops[i]? =some o) (hw:Region.wanted o (yielded ops fr.tmps)=true) (he:(execOp fr.eval o).run Pg w= .halt (.panic x) w'):
  ∃es,stepG Pg main (G fr cs) w= .go (G (fr.raise [{v:=x,recovered:=false}]) cs) w' es:=by
 rw [j3 hm hr ht ho hw]
 exact pW hk he
theorem sj{h:Halt}(hm:fr.mode= .run)(hr:∀c,o.op≠ .defer c)(hk:fr.kind= .normal)
  (ht:fr.todo= .inRegion ops (i :: rest) :: k) (ho:ops[i]? =some o) (hw:Region.wanted o (yielded ops fr.tmps)=true) (he:(execOp fr.eval o).run Pg w= .halt h w') (hh:iP h) (hn:∀x,h≠ .panic x):
  ∃oc w'' es,stepG Pg main (G fr cs) w= .ended oc w'' es:=by
 rw [j3 hm hr ht ho hw]
 exact uy hk he hh hn
theorem lM{v:Value}(hm:fr.mode= .run)(hr:∀c,o.op≠ .defer c)(hk:fr.kind= .normal)(ht:fr.todo= .inRegion ops (i :: rest) :: k)(ho:ops[i]? =some o)(hw:Region.wanted o (yielded ops fr.tmps)=true)
  (he:(execOp fr.eval o).run Pg w= .ok (.value v) w'):stepG Pg main (G fr cs) w= .go (G (fr.finish v) cs) w' (seen Pg fr.fn ((execOp fr.eval o).events Pg w #[])):=by
 rw [j3 hm hr ht ho hw]
 exact QG hk he
theorem nJ(hm:fr.mode= .run)(hr:∀c,o.op≠ .defer c)(hk:fr.kind= .normal)(ht:fr.todo= .inRegion ops (i :: rest) :: k)(ho:ops[i]? =some o)(hw:Region.wanted o (yielded ops fr.tmps)=true)
  (he:(execOp fr.eval o).run Pg w= .ok .skip w'):stepG Pg main (G fr cs) w= .go (G (fr.finish undef) cs) w' (seen Pg fr.fn ((execOp fr.eval o).events Pg w #[])):=by
 rw [j3 hm hr ht ho hw]
 exact Hu hk he
theorem oP{f:FuncId}{args:Array Value}(hm:fr.mode= .run)(hr:∀c,o.op≠ .defer c)(hk:fr.kind= .normal)(ht:fr.todo= .inRegion ops (i :: rest) :: k)(ho:ops[i]? =some o)(hw:Region.wanted o (yielded ops fr.tmps)=true)
  (he:(execOp fr.eval o).run Pg w= .ok (.enter f args) w'):stepG Pg main (G fr cs) w= .go (G (Frame.enter Pg f args .normal) (fr :: cs)) w' (seen Pg fr.fn ((execOp fr.eval o).events Pg w #[])):=by
 rw [j3 hm hr ht ho hw]
 exact qh hk (fun d r x q k e=>by rw [ht]at e;cases e) he
end
theorem zH(o:Oper){f:Operand}{args:Array Operand}{ats:Array TypeId}(ho:o.op= .call {callee:= .value f,args,argTypes:=ats})(ρ:Operand->Value){K:FuncId}{xs ys:Array Value}(hv:ρ f= .func (.func K) xs ys)(Pg:Program){fn:Func}{body:Code}
  (hf:Pg.funcs[K]? =some fn) (hb:fn.body=some body) (hn:(fn.name== "runtime.NumGoroutine")=false) (w:World):
  (execOp ρ o).run Pg w= .ok (.enter K (xs++args.map ρ++ys)) w/\(execOp ρ o).events Pg w #[]= #[]:=by
 have e:execOp ρ o=callFunc K (xs++args.map ρ++ys):=by
  unfold execOp
  rw [ho]
  simp only [resolve,hv,Deferred.ofValue]
  rfl
 have h1:¬ fn.name= "runtime.NumGoroutine" :=by simpa using hn
 rw [e]
 constructor
 ·simp [callFunc,hf,h1,hb]
 ·simp [callFunc,hf,h1,hb]
theorem Yw(o:Oper){f:Operand}{args:Array Operand}{ats:Array TypeId}(ho:o.op= .call {callee:= .value f,args,argTypes:=ats})(ρ:Operand->Value)(hv:∀fn xs ys,ρ f≠ .func fn xs ys)(Pg:Program)(w:World):
  ∃h w',(execOp ρ o).run Pg w= .halt h w'/\iP h:=by
 have e:execOp ρ o=(Deferred.ofValue (ρ f) (args.map ρ)>>=fun d=>invoke d.target d.args):=by
  unfold execOp
  rw [ho]
  simp only [resolve]
 rw [e]
 generalize ρ f=v at hv
 cases v
 case func fn xs ys=>exact absurd rfl (hv _ _ _)
 case nilFunc=>exact⟨_,w,rfl,.panic _⟩
 all_goals exact⟨_,w,rfl,.stuck _⟩
end
variable [Wn]
def ade(w:World):Prop:=∀b o,Wn.x b=some o->w.1[b]? =some o
theorem AvW.ac0{Z:Nat->Prop}{Lb:Nat->Bool}{ok:Oper->Bool}{w:World}(h:AvW Z (lk Lb ok) w):ade w:=fun b o e=>(h.win b o e).2
def Dies{α:Type}(Pg:Program)(s:Sem α)(w:World):Prop:=∃h d,s.run Pg w= .halt h {w with drawn:=d}/\iP h
def acT(P:Program)(F:Array Func)(Z:Nat->Prop)(Lb:Nat->Bool)(ok:Oper->Bool)(fr:Frame)(o:Oper):Prop:=
 (∀c,o.op≠ .defer c)/\∃r:Option Value,
  (∀x,r=some x->(Av Z (lk Lb ok) x∨∃d,o.dst=some d/\Wn.wv (Wn.kd fr.fn d) x)/\∀Pg,Pg=P∨Pg=sw P F->∀w,ade w->(execOp fr.eval o).run Pg w= .ok (.value x) w/\∀e∈(execOp fr.eval o).events Pg w #[],∃a ob,e=⟨.cell a,false,false⟩/\Wn.x a.block=some ob)/\
  (r=none->∀Pg,Pg=P∨Pg=sw P F->∀w,ade w->Dies Pg (execOp fr.eval o) w)
theorem acZ{Z:Nat->Prop}{Lb:Nat->Bool}{ok:Oper->Bool}{fr:Frame}{ops:Array Oper}{i:Nat}{rest:List Nat}{k:List Item}{o:Oper}(h2:fr.todo= .inRegion ops (i :: rest) :: k)(h3:ops[i]? =some o){x:Value}
  (h:Av Z (lk Lb ok) x∨∃d,o.dst=some d/\Wn.wv (Wn.kd fr.fn d) x):Fits Z Lb ok fr x:=by
 rcases h with h0|⟨d,p,q⟩
 ·exact .inl h0
 ·exact .inr ⟨ops,i,rest,k,o,d,h2,h3,p,q⟩
def adr(Z:Nat->Prop)(Lb:Nat->Bool)(ok:Oper->Bool)(fr:Frame)(o:Oper):Prop:=
 ∃K args ats,o.op= .call {callee:= .value (.func K),args,argTypes:=ats}/\Lb K=true/\∀ (j:Nat) v,(args.map fr.eval)[j]? =some v->Av Z (lk Lb ok) v∨Wn.wv (Wn.kd K j) v
structure Sys(P:Program)(F:Array Func)(Z:Nat->Prop)(Lb Gb:Nat->Bool)(sat:Nat):Prop where
 hG:∀g,Gb g=true->¬ Z g
 hZ:¬ Z P.globals.size
 ext:UN P F
 fn:∀f,Lb f=true->f≠sat->∃fn body,P.funcs[f]? =some fn/\F[f]? =some fn/\fn.body=some body/\fG (aF P Lb Gb) body=true/\(fn.name== "runtime.NumGoroutine")=false
 wn:∀f fn body,Lb f=true->f≠sat->P.funcs[f]? =some fn->fn.body=some body->fG (wop f) body=true/\∀r∈fn.results,Wn.kd f (acU r)=0
 sp:∀ (Z:Nat->Prop) s fr o,FOk Z Lb (aF P Lb Gb) s fr->Wn.sp fr.fn o=true->(∃x∈o.op.operands,¬ Av Z (lk Lb (aF P Lb Gb)) (fr.eval x))->acT P F Z Lb (aF P Lb Gb) fr o
 spOp:∀f o,Wn.sp f o=true->Gg P Lb o.op=true/\VI P o=true
 sc:∀ (Z:Nat->Prop) s fr o,FOk Z Lb (aF P Lb Gb) s fr->Wn.sc fr.fn o=true->adr Z Lb (aF P Lb Gb) fr o/\∀c K,o.op= .call c->c.callee= .value (.func K)->K≠sat
 satP:∃fn body,P.funcs[sat]? =some fn/\fn.body=some body/\(fn.name== "runtime.NumGoroutine")=false
 satF:∃fn body,F[sat]? =some fn/\fn.body=some body/\(fn.name== "runtime.NumGoroutine")=false
section
variable {P:Program} {Z:Nat->Prop} {Lb Gb:Nat->Bool}
end
structure zo(P:Program)(F:Array Func)(Z:Nat->Prop)(Lb Gb:Nat->Bool):Prop where
 hG:∀g,Gb g=true->¬ Z g
 hZ:¬ Z P.globals.size
 ext:UN P F
 fn:∀f,Lb f=true->∃fn body,F[f]? =some fn/\fn.body=some body/\fG (aF P Lb Gb) body=true/\(fn.name== "runtime.NumGoroutine")=false
 wn:∀f fn body,Lb f=true->F[f]? =some fn->fn.body=some body->fG (wop f) body=true/\∀r∈fn.results,Wn.kd f (acU r)=0
 sp:∀ (Z:Nat->Prop) s fr o,FOk Z Lb (aF P Lb Gb) s fr->Wn.sp fr.fn o=true->(∃x∈o.op.operands,¬ Av Z (lk Lb (aF P Lb Gb)) (fr.eval x))->acT P F Z Lb (aF P Lb Gb) fr o
 spOp:∀f o,Wn.sp f o=true->Gg P Lb o.op=true/\VI P o=true
 sc:∀ (Z:Nat->Prop) s fr o,FOk Z Lb (aF P Lb Gb) s fr->Wn.sc fr.fn o=true->adr Z Lb (aF P Lb Gb) fr o
theorem adu{Z:Nat->Prop}{Lb:Nat->Bool}{ok:Oper->Bool}{s:Nat}{fr:Frame}(h:FOk Z Lb ok s fr){fn:Func}(hk:∀r∈fn.results,Wn.kd fr.fn (acU r)=0):∀r∈fn.results,Av Z (lk Lb ok) (fr.tmps.getD (acU r) undef):=by
 intro r hr
 rw [Array.getD_eq_getD_getElem?]
 cases e:fr.tmps[acU r]? with
 |none=>exact o8
 |some v=>
  rcases h.tmps _ v e with h0|h0
  ·exact h0
  ·rw [hk r hr]at h0;exact absurd h0 (Wn.wv0 v)
theorem acS{P:Program}{F:Array Func}{Z:Nat->Prop}{Lb Gb:Nat->Bool}{s:Nat}(S:zo P F Z Lb Gb){fr:Frame}(h:FOk Z Lb (aF P Lb Gb) s fr){fn:Func}(hf:F[fr.fn]? =some fn):∀r∈fn.results,Av Z (lk Lb (aF P Lb Gb)) (fr.tmps.getD (acU r) undef):=by
 obtain⟨fn',body,h1,h2,_⟩:=S.fn fr.fn h.fn
 obtain rfl:fn'=fn:=Option.some.inj (h1.symm.trans hf)
 exact adu h (S.wn fr.fn fn' body h.fn h1 h2).2
theorem adn{Z:Nat->Prop}{L:Lk}{f:Nat}{args:Array Value}(ha:∀v∈args,Av Z L v):∀ (j:Nat) v,args[j]? =some v->Av Z L v∨Wn.wv (Wn.kd f j) v:=fun j v e=> .inl (ha v (Array.mem_of_getElem? e))
section
variable {P:Program} {F:Array Func} {Z:Nat->Prop} {Lb Gb:Nat->Bool} {s:Nat}
theorem Ad(S:zo P F Z Lb Gb)(hs:Lb s=false){f:FuncId}(hf:Lb f=true){args:Array Value}(ha:∀ (j:Nat) v,args[j]? =some v->Av Z (lk Lb (aF P Lb Gb)) v∨Wn.wv (Wn.kd f j) v):
  FOk Z Lb (aF P Lb Gb) s (Frame.enter (sw P F) f args .normal)/\(Frame.enter (sw P F) f args .normal).mode= .run:=by
 obtain⟨fn,body,h2,h3,h4,h5⟩:=S.fn f hf
 have e:Frame.enter (sw P F) f args .normal={fn:=f,tmps:=args++Array.replicate (fn.ntmps-args.size) undef,todo:= [.code body],defers:= [],mode:= .run,kind:= .normal}:=by
  simp [Frame.enter,h2,h3]
 rw [e]
 refine⟨⟨rfl,rfl,rfl,hf,fun x=> ?_,fun j v hv=> ?_,fun i hi=> ?_⟩,rfl⟩
 ·simp only at x;rw [x,hs]at hf;cases hf
 ·simp only [Array.getElem?_append]at hv
  split at hv
  ·exact ha j v hv
  ·have m:=Array.mem_of_getElem? hv
   rw [Array.mem_replicate]at m
   exact .inl (m.2▸o8)
 ·simp only [List.mem_singleton]at hi
  subst hi
  exact acO _ h4 (S.wn f fn body hf h2 h3).1
end
theorem Iy{P:Program}{Lb Gb:Nat->Bool}{o:Oper}(h:aF P Lb Gb o=true):∀c,o.op≠ .defer c:=by
 intro c e
 unfold aF at h
 rw [e]at h
 simp [Gg,qC,CB]at h
def Mi(fn:FuncId)(fr:Frame):Prop:=(∃ch,fr.mode= .panicking ch)/\fr.fn=fn/\fr.defers= []
theorem jv{Z:Nat->Prop}{Lb:Nat->Bool}{ok:Oper->Bool}{s:Nat}{fr:Frame}(h:FOk Z Lb ok s fr)(hm:fr.mode= .run)(ch:List PanicEntry):Mi fr.fn (fr.raise ch):=
 ⟨⟨ch,by simp [Frame.raise,hm]⟩,by simp [Frame.raise,hm],by simpa [Frame.raise,hm]using h.defers⟩
end
section
open Go Go.Conc
variable [Wn]
section
variable {P:Program} {F:Array Func} {Z:Nat->Prop} {Lb Gb:Nat->Bool} {sat:Nat}
omit [Wn] in
theorem IJ{fr fr':Frame}(hm:fr.mode= .run)(h:bE fr=some fr'):fr'.mode= .run∨fr'.mode= .returning:=by
 unfold bE at h
 split at h
 ·split at h
  ·simp only [Option.some.injEq]at h;subst h;exact .inr rfl
  ·cases h
 ·split at h
  ·simp only [Option.some.injEq]at h;subst h;exact .inr rfl
  ·cases h
 all_goals first
  |(simp only [Option.some.injEq]at h;subst h;exact .inl hm)
  |skip
 ·split at h
  ·simp only [Option.some.injEq]at h;subst h;exact .inl hm
  ·cases h
 ·obtain⟨k',_,rfl⟩:=Option.map_eq_some_iff.1 h;exact .inl hm
 ·split at h
  ·cases h
  ·simp only [Option.some.injEq]at h;subst h
   left
   unfold Frame.finish
   split <;> exact hm
 ·cases h
theorem IZ(S:Sys P F Z Lb Gb sat){f:FuncId}(hf:Lb f=true)(hs:f≠sat){args:Array Value}(ha:∀ (j:Nat) v,args[j]? =some v->Av Z (lk Lb (aF P Lb Gb)) v∨Wn.wv (Wn.kd f j) v):
  FOk Z Lb (aF P Lb Gb) sat (Frame.enter P f args .normal)/\Frame.enter (sw P F) f args .normal=Frame.enter P f args .normal/\(Frame.enter P f args .normal).mode= .run:=by
 obtain⟨fn,body,h1,h2,h3,h4,h5⟩:=S.fn f hf hs
 have e:∀Pg:Program,Pg.funcs[f]? =some fn->Frame.enter Pg f args .normal={fn:=f,tmps:=args++Array.replicate (fn.ntmps-args.size) undef,todo:= [.code body],defers:= [],mode:= .run,kind:= .normal}:=by
  intro Pg hp
  simp [Frame.enter,hp,h3]
 refine⟨?_, ?_, ?_⟩
 ·rw [e P h1]
  refine⟨rfl,rfl,rfl,hf,hs,fun j v hv=> ?_,fun i hi=> ?_⟩
  ·simp only [Array.getElem?_append]at hv
   split at hv
   ·exact ha j v hv
   ·have m:=Array.mem_of_getElem? hv
    rw [Array.mem_replicate]at m
    exact .inl (m.2▸o8)
  ·simp only [List.mem_singleton]at hi
   subst hi
   exact acO _ h4 (S.wn f fn body hf hs h1 h3).1
 ·rw [e P h1,e (sw P F) h2]
 ·rw [e P h1]
theorem jW{fr:Frame}(hf:∀ (i:Nat) v,fr.tmps[i]? =some v->Av Z (lk Lb (aF P Lb Gb)) v∨Wn.wv (Wn.kd fr.fn i) v)(hG:∀g,Gb g=true->¬ Z g){x:Operand}(hx:R9 Lb Gb x=true)(hb:acY fr.fn x=true):Av Z (lk Lb (aF P Lb Gb)) (fr.eval x):=by
 cases x with
 | tmp t=>
  show Av _ _ (fr.tmps.getD t undef)
  rw [Array.getD_eq_getD_getElem?]
  cases e:fr.tmps[t]? with
  |none=>exact o8
  |some v=>
   rcases hf t v e with h0|h0
   ·exact h0
   ·rw [show Wn.kd fr.fn t=0 from by simpa [acY]using hb]at h0;exact absurd h0 (Wn.wv0 v)
 |const v=>exact zY hx
 |global g=>exact .ptr (hG g hx)
 |func f=>exact .func hx vS vS
structure Went(Z:Nat->Prop)(Lb:Nat->Bool)(ok:Oper->Bool)(w w' v1:World)(es:Array Event):Prop where
 rel:Rel Z w' v1
 av:AvW Z (lk Lb ok) v1
 good:∀e∈es,Bq Z w'.1.size e∨∃a ob,e=⟨.cell a,false,false⟩/\Wn.x a.block=some ob
 size:w.1.size<=w'.1.size
 hid:∀b,Z b->w'.1[b]? =w.1[b]?
theorem Went.still{ok:Oper->Bool}{w v:World}(hr:Rel Z w v)(ha:AvW Z (lk Lb ok) v):Went Z Lb ok w w v #[]:=⟨hr,ha,vS,Nat.le_refl _,fun _ _=>rfl⟩
def Ee (P:Program) (F:Array Func) (Z:Nat->Prop) (Lb Gb:Nat->Bool) (sat:Nat) (fr:Frame) (cs tl tl':List Frame) (w:World) (g1:Goroutine) (v1:World) (main:Bool):Prop:=
  ∃ w' es,Went Z Lb (aF P Lb Gb) w w' v1 es/\
   ((∃fr' cs',g1=G fr' (cs'++tl')/\FOk Z Lb (aF P Lb Gb) sat fr'/\(∀c∈cs',FOk Z Lb (aF P Lb Gb) sat c/\c.mode= .run)/\(fr'.mode= .run∨fr'.mode= .returning)/\
     stepG P main (G fr (cs++tl)) w= .go (G fr' (cs'++tl)) w' es)∨
    (∃fr1 args,FOk Z Lb (aF P Lb Gb) sat fr1/\fr1.mode= .run/\(∀x∈args,Av Z (lk Lb (aF P Lb Gb)) x)/\g1=G (Frame.enter (sw P F) sat args .normal) (fr1 :: cs++tl')/\
     stepG P main (G fr (cs++tl)) w= .go (G (Frame.enter P sat args .normal) (fr1 :: cs++tl)) w' es))
theorem BA{α:Type}{Q:α->Prop}{sem:Sem α}{w:World}{a:α}{v':World}(o:Out Z (lk Lb (aF P Lb Gb)) Q P sem w #[] a v'){es:List Event->Array Event}:Q a/\∃w',sem.run P w= .ok a w'/\∀es:Array Event,(∀e∈es,e∈sem.events P w #[])->Went Z Lb (aF P Lb Gb) w w' v' es:=by
 obtain⟨o1,⟨w',new,o2,o3,o4,o5,o6⟩,o7⟩:=o
 rw [Sem.runT_eq]at o2
 simp only [Prod.mk.injEq]at o2
 obtain⟨o2a,o2b⟩:=o2
 refine⟨o1,w',o2a,fun es he=>⟨o3,o7,fun e h=> ?_,o5,o6⟩⟩
 have:=he e h
 rw [o2b]at this
 exact .inl (o4 e (by simpa using this))
theorem aav (S:Sys P F Z Lb Gb sat) {fr:Frame} {cs tl tl':List Frame} {w v:World} {g1:Goroutine} {v1:World} {es1:Array Event} (main:Bool) {ops:Array Oper} {i:Nat} {rest:List Nat} {k:List Item} {o:Oper}
  (hf:FOk Z Lb (aF P Lb Gb) sat fr) (hcs:∀c∈cs,FOk Z Lb (aF P Lb Gb) sat c/\c.mode= .run) (f1:fr.mode= .run) (f3:fr.todo= .inRegion ops (i :: rest) :: k) (ho:ops[i]? =some o) (hwo':Region.wanted o (yielded ops fr.tmps)=true) (hok:aF P Lb Gb o=true) (hwp:wop fr.fn o=true)
  (hr:Rel Z w v) (hwin:ade w) (ha:AvW Z (lk Lb (aF P Lb Gb)) v) (h:stepG (sw P F) true (G fr (cs++tl')) v= .go g1 v1 es1) (hp:∀ch,g1.frame.mode≠ .panicking ch):
  Ee P F Z Lb Gb sat fr cs tl tl' w g1 v1 main:=by
 have f2:=Iy hok
 have plain:Hyg P (sw P F) Z (lk Lb (aF P Lb Gb)) (FE Z (lk Lb (aF P Lb Gb))) (execOp fr.eval o)->Ee P F Z Lb Gb sat fr cs tl tl' w g1 v1 main:=by
  intro hH
  cases hrun:(execOp fr.eval o).run (sw P F) v with
  |halt hh w''=>
   obtain⟨ch,hch⟩:=LJ f1 f2 hf.kind f3 ho hwo' hrun (hH.FC lkT _ _ ha hrun) h
   exact absurd hch (hp ch)
  | ok n v'=>
   obtain⟨o1,w',o2a,o2⟩:=BA (hH.sim lkT #[] n v' hr ha hrun) (es:=fun _=> #[])
   cases n with
   |value x=>
    rw [lM f1 f2 hf.kind f3 ho hwo' hrun]at h
    cases h
    refine⟨w',_,o2 _ fun e he=>mem_seen he,.inl ⟨fr.finish x,cs,rfl,hf.finish o1,hcs, ?_,lM f1 f2 hf.kind f3 ho hwo' o2a⟩⟩
    left;unfold Frame.finish;split <;> exact f1
   |skip=>
    rw [nJ f1 f2 hf.kind f3 ho hwo' hrun]at h
    cases h
    refine⟨w',_,o2 _ fun e he=>mem_seen he,.inl ⟨fr.finish undef,cs,rfl,hf.finish o8,hcs, ?_,nJ f1 f2 hf.kind f3 ho hwo' o2a⟩⟩
    left;unfold Frame.finish;split <;> exact f1
   |_=>exact o1.elim
 have hw2:o.op.operands.all (acY fr.fn)=true∨Wn.sp fr.fn o=true∨Wn.sc fr.fn o=true:=by
  unfold wop at hwp
  simp only [Bool.or_eq_true]at hwp
  rcases hwp with (h|h)|h
  ·exact .inl h
  ·exact .inr (.inl h)
  ·exact .inr (.inr h)
 rcases hw2 with hsl|hsp|hsc
 rotate_left
 ·
  by_cases hall:∀x∈o.op.operands,Av Z (lk Lb (aF P Lb Gb)) (fr.eval x)
  ·exact plain (TG (fun _ h=>h) lkV o fr.eval hall (S.spOp _ _ hsp).1 (S.spOp _ _ hsp).2)
  obtain⟨_,r,hgood,hbad⟩:=S.sp Z sat fr o hf hsp (by simpa using hall)
  cases r with
  |none=>
   obtain⟨hh,d,e1,e2⟩:=hbad rfl (sw P F) (.inr rfl) v ha.ac0
   obtain⟨ch,hch⟩:=LJ f1 f2 hf.kind f3 ho hwo' e1 e2 h
   exact absurd hch (hp ch)
  |some x=>
   obtain⟨hval,hrun⟩:=hgood x rfl
   obtain⟨hrv,_⟩:=hrun (sw P F) (.inr rfl) v ha.ac0
   obtain⟨hrw,hev⟩:=hrun P (.inl rfl) w hwin
   rw [lM f1 f2 hf.kind f3 ho hwo' hrv]at h
   cases h
   refine⟨w,_,⟨hr,ha,fun e he=> .inr (hev e (mem_seen he)),Nat.le_refl _,fun _ _=>rfl⟩,.inl ⟨fr.finish x,cs,rfl,hf.acV (acZ f3 ho hval),hcs, ?_,lM f1 f2 hf.kind f3 ho hwo' hrw⟩⟩
   left;unfold Frame.finish;split <;> exact f1
 ·
  obtain⟨⟨K,args,ats,hop,hK,hargs⟩,hne⟩:=S.sc Z sat fr o hf hsc
  have hK':K≠sat:=hne _ K hop rfl
  have hv:fr.eval (.func K)= .func (.func K) #[] #[]:=rfl
  obtain⟨fnK,bodyK,p1,q1,p2,_,p3⟩:=S.fn K hK hK'
  obtain⟨r1,r2⟩:=zH o hop fr.eval hv P p1 p2 p3 w
  obtain⟨s1,s2⟩:=zH o hop fr.eval hv (sw P F) q1 p2 p3 v
  obtain⟨e1,e2,e3⟩:=IZ S hK hK' (args:= #[]++args.map fr.eval++ #[]) (by simpa using hargs)
  rw [oP f1 f2 hf.kind f3 ho hwo' s1,e2]at h
  cases h
  refine⟨w,#[],.still hr ha,.inl ⟨_,fr :: cs,rfl,e1,fun c hc=> ?_,.inl e3, ?_⟩⟩
  ·rcases List.mem_cons.1 hc with rfl|hc
   ·exact⟨hf,f1⟩
   ·exact hcs c hc
  ·rw [oP f1 f2 hf.kind f3 ho hwo' r1,r2,seen_none]
   rfl
 have hsl':=Array.all_eq_true_iff_forall_mem.1 hsl
 have hok':=hok
 unfold aF at hok'
 simp only [Bool.and_eq_true,Bool.or_eq_true]at hok'
 rcases hok' with ⟨⟨hkind,hty⟩,hops⟩|hext
 rotate_left
 ·exact plain (MK S.ext S.hG o fr.eval (fun f=>rfl) (fun x hm hx=>jW hf.tmps S.hG hx (hsl' x hm)) hext)
 have hρ:∀x∈o.op.operands,Av Z (lk Lb (aF P Lb Gb)) (fr.eval x):=fun x hx=>jW hf.tmps S.hG (Array.all_eq_true_iff_forall_mem.1 hops x hx) (hsl' x hx)
 by_cases hcall:qC o.op=true
 ·
  cases hop:o.op with
  | call c=>
   obtain⟨callee,args,ats⟩:=c
   cases callee with
   | value f=>
    have hmf:f∈o.op.operands:=by rw [hop];simp [Op.operands,Call.operands]
    have havf:=hρ f hmf
    by_cases hfn:∃fn xs ys,fr.eval f= .func fn xs ys
    ·obtain⟨fn',xs,ys,hv⟩:=hfn
     rw [hv]at havf
     cases havf with
     | @func K _ _ hK hxs hys=>
     have hargs:∀x∈xs++args.map fr.eval++ys,Av Z (lk Lb (aF P Lb Gb)) x:=by
      intro x hx
      rcases Array.mem_append.1 hx with m|m
      ·rcases Array.mem_append.1 m with m|m
       ·exact hxs x m
       ·obtain⟨y,hy,rfl⟩:=Array.mem_map.1 m
        exact hρ y (by rw [hop];simp [Op.operands,Call.operands,hy])
      ·exact hys x m
     by_cases hK':K=sat
     ·subst hK'
      obtain⟨fnP,bodyP,p1,p2,p3⟩:=S.satP
      obtain⟨fnF,bodyF,q1,q2,q3⟩:=S.satF
      obtain⟨r1,r2⟩:=zH o hop fr.eval hv P p1 p2 p3 w
      obtain⟨s1,s2⟩:=zH o hop fr.eval hv (sw P F) q1 q2 q3 v
      rw [oP f1 f2 hf.kind f3 ho hwo' s1]at h
      cases h
      refine⟨w,#[],.still hr ha,.inr ⟨fr,_,hf,f1,hargs,rfl, ?_⟩⟩
      rw [oP f1 f2 hf.kind f3 ho hwo' r1,r2,seen_none]
      rfl
     ·obtain⟨fnK,bodyK,p1,q1,p2,_,p3⟩:=S.fn K hK hK'
      obtain⟨r1,r2⟩:=zH o hop fr.eval hv P p1 p2 p3 w
      obtain⟨s1,s2⟩:=zH o hop fr.eval hv (sw P F) q1 p2 p3 v
      obtain⟨e1,e2,e3⟩:=IZ S hK hK' (adn hargs)
      rw [oP f1 f2 hf.kind f3 ho hwo' s1,e2]at h
      cases h
      refine⟨w,#[],.still hr ha,.inl ⟨_,fr :: cs,rfl,e1,fun c hc=> ?_,.inl e3, ?_⟩⟩
      ·rcases List.mem_cons.1 hc with rfl|hc
       ·exact⟨hf,f1⟩
       ·exact hcs c hc
      ·rw [oP f1 f2 hf.kind f3 ho hwo' r1,r2,seen_none]
       rfl
    ·obtain⟨hh,w'',b1,b2⟩:=Yw o hop fr.eval (fun fn xs ys e=>hfn ⟨fn,xs,ys,e⟩) (sw P F) v
     obtain⟨ch,hch⟩:=LJ f1 f2 hf.kind f3 ho hwo' b1 b2 h
     exact absurd hch (hp ch)
   |_=>rw [hop]at hcall;simp [qC]at hcall
  |_=>rw [hop]at hcall;simp [qC]at hcall
 ·exact plain (TG (fun _ h=>h) lkV o fr.eval hρ (hkind.resolve_right hcall) hty)
def Ew(fr:Frame)(cs:List Frame):Prop:=cs= []/\fr.mode= .returning
theorem Xx(S:Sys P F Z Lb Gb sat){fr:Frame}{cs tl tl':List Frame}{w v:World}{g1:Goroutine}{v1:World}{es1:Array Event}(main:Bool)
  (hf:FOk Z Lb (aF P Lb Gb) sat fr) (hcs:∀c∈cs,FOk Z Lb (aF P Lb Gb) sat c/\c.mode= .run) (hm:fr.mode= .run∨fr.mode= .returning) (hb:¬ Ew fr cs)
  (hr:Rel Z w v) (hwin:ade w) (ha:AvW Z (lk Lb (aF P Lb Gb)) v) (h:stepG (sw P F) true (G fr (cs++tl')) v= .go g1 v1 es1) (hp:∀ch,g1.frame.mode≠ .panicking ch):
  Ee P F Z Lb Gb sat fr cs tl tl' w g1 v1 main:=by
 rcases hm with hm|hm
 ·
  cases hq:bE fr with
  |some fr'=>
   have e:=quiet_step hm hq (sw P F) true (cs++tl') v
   rw [e]at h
   cases h
   exact⟨w,#[],.still hr ha,.inl ⟨fr',cs,rfl,hf.quiet hq,hcs,IJ hm hq,quiet_step hm hq P main (cs++tl) w⟩⟩
  | none=>
   have htodo:=hf.todo
   rcases et:fr.todo with _|⟨it,k⟩
   ·simp [bE,et,hf.round]at hq
   rw [et]at htodo
   cases it with
   | code c=>
    cases c with
    |ret=>simp [bE,et,hf.round]at hq
    | region id ops d=>
     cases d with
     | true=>
      rw [nK hm et]at h
      cases h
      refine⟨{w with drawn:=w.drawn+1},#[],⟨hr.draw,ha.draw _,vS,Nat.le_refl _,fun _ _=>rfl⟩,.inl ⟨_,cs,rfl,hf.lay fun i hi'=> ?_,hcs,.inl hm, ?_⟩⟩
      ·simp only [List.mem_cons]at hi'
       rcases hi' with rfl|hi'
       ·exact htodo (.code (.region id ops true)) vS
       ·exact htodo i (by simp [hi'])
      ·rw [nK hm et,hr.tape,hr.drawn]
     |false=>simp [bE,et]at hq
    | cond c a b=>
     exfalso
     have hne:∀x,fr.eval c≠ .bool x:=by
      intro x e
      simp [bE,et,e]at hq
     have:∃oc w' es,stepG (sw P F) true (G fr (cs++tl')) v= .ended oc w' es:=by
      obtain⟨fn,tmps,todo,defers,mode,kind,roundOf⟩:=fr
      simp only at hm et
      subst hm et
      exact⟨.stuck "cond: bool expected" (Frame.pos (sw P F) {fn,tmps,todo:= .code (.cond c a b) :: k,defers,mode:= .run,kind,roundOf}),v,#[],by simp only [stepG,stepG.exec,G]⟩
     obtain⟨oc,w',es,e⟩:=this
     rw [e]at h
     cases h
    |exit id=>
     have hex:exitTo id k=none:=by simpa [bE,et]using hq
     exfalso
     have hro:=hf.round
     obtain⟨fn,tmps,todo,defers,mode,kind,roundOf⟩:=fr
     simp only at hm et hro
     subst hm et hro
     simp [stepG,stepG.exec,G,hex]at h
    |rangeFunc=>exfalso;have:=htodo _ (List.mem_cons_self ..);simp [iH,fG]at this
    |refuse why=>
     exfalso
     obtain⟨fn,tmps,todo,defers,mode,kind,roundOf⟩:=fr
     simp only at hm et
     subst hm et
     simp [stepG,stepG.exec,G]at h
    |goto=>exfalso;have:=htodo _ (List.mem_cons_self ..);simp [iH,fG]at this
    |_=>simp [bE,et]at hq
   | inRegion ops l=>
    cases l with
    |nil=>simp [bE,et]at hq
    | cons i rest=>
     by_cases hw:((ops[i]?).map (Region.wanted · (yielded ops fr.tmps))).getD false=true
     rotate_left
     ·simp [bE,et,hw]at hq
     ·obtain⟨o,ho,hwo⟩:∃o,ops[i]? =some o/\Region.wanted o (yielded ops fr.tmps)=true:=by
       cases e:ops[i]? with
       |none=>rw [e]at hw;simp at hw
       |some o=>rw [e]at hw;exact⟨o,rfl,by simpa using hw⟩
      have hok:okf (aF P Lb Gb) fr.fn o=true:=by
       have:=htodo _ (List.mem_cons_self ..)
       simp only [iH]at this
       exact Array.all_eq_true_iff_forall_mem.1 this o (Array.mem_of_getElem? ho)
      unfold okf at hok
      rw [Bool.and_eq_true]at hok
      exact aav S main hf hcs hm et ho hwo hok.1 hok.2 hr hwin ha h hp
   |inRangeFunc=>exfalso;have:=htodo _ (List.mem_cons_self ..);simp [iH]at this
   |endRangeFunc=>exfalso;have:=htodo _ (List.mem_cons_self ..);simp [iH]at this
   |beginRound=>exfalso;have:=htodo _ (List.mem_cons_self ..);simp [iH]at this
   |call=>exfalso;have:=htodo _ (List.mem_cons_self ..);simp [iH]at this
   |extern=>exfalso;have:=htodo _ (List.mem_cons_self ..);simp [iH]at this
   |_=>simp [bE,et]at hq
 ·
  have hd:=hf.defers
  cases cs with
  |nil=>exact absurd ⟨rfl,hm⟩ hb
  | cons c cs=>
   obtain⟨fn,body,h1,h2,h3,_,_⟩:=S.fn fr.fn hf.fn hf.notSat
   have hH:Hyg P (sw P F) Z (lk Lb (aF P Lb Gb)) (Av Z (lk Lb (aF P Lb Gb))) (results fn fr.tmps):=jA S.hZ fn (adu hf (S.wn fr.fn fn body hf.fn hf.notSat h1 h3).2)
   cases hrun:(results fn fr.tmps).run (sw P F) v with
   |halt hh w''=>
    obtain⟨oc,w3,es3,e3⟩:=lQ (Pg:=sw P F) (main:=true) (cs:=(c :: cs)++tl') hm hd (show(sw P F).funcs[fr.fn]? =some fn from h2) hrun
    rw [e3]at h
    cases h
   |ok x v'=>
    rw [List.cons_append,kD hm hd hf.kind (show(sw P F).funcs[fr.fn]? =some fn from h2) hrun]at h
    cases h
    obtain⟨o1,w',o2a,o2⟩:=BA (hH.sim lkT #[] x _ hr ha hrun) (es:=fun _=> #[])
    obtain⟨c1,c2⟩:=hcs c vS
    refine⟨w',_,o2 _ fun e he=>mem_seen he,.inl ⟨c.finish x,cs,rfl,c1.finish o1,fun y hy=>hcs y (by simp [hy]), ?_,kD hm hd hf.kind h1 o2a⟩⟩
    left;unfold Frame.finish;split <;> exact c2
end
end
section
open Go Go.Conc
inductive Runs(P:Program)(Q:Goroutine->World->Prop):Nat->Goroutine->World->Prop
 |zero {g:Goroutine} {v:World}:Q g v->Runs P Q 0 g v
 |succ {n:Nat} {g g1:Goroutine} {v v1:World} {es:Array Event}:stepG P true g v= .go g1 v1 es->Runs P Q n g1 v1->Runs P Q (n+1) g v
inductive jQ(P:Program)(Q:Goroutine->World->Prop):Goroutine->World->Prop
 |done {g:Goroutine} {v:World}:Q g v->jQ P Q g v
 |step {g:Goroutine} {v:World}:(∀τ d,∃g1 v1 es,stepG P true g (tp v τ d)= .go g1 v1 es)->(∀τ d g1 v1 es,stepG P true g (tp v τ d)= .go g1 v1 es->jQ P Q g1 v1)->jQ P Q g v
theorem jQ.runs{P:Program}{Q:Goroutine->World->Prop}{g:Goroutine}{v:World}(h:jQ P Q g v):∃n,Runs P Q n g v:=by
 induction h with
 |done h=>exact⟨0,.zero h⟩
 | @step g v hg _ ih=>
  obtain⟨g1,v1,es,h1⟩:=hg v.tape v.drawn
  obtain⟨n,h2⟩:=ih _ _ _ _ _ h1
  exact⟨n+1,.succ h1 h2⟩
structure jf(P:Program)(Q:Goroutine->World->Prop)(g:Goroutine)(v:World)(c:Nat):Prop where
 re:∀τ d,Agree c τ d v.tape v.drawn->∀g1 v1 es,stepG P true g (tp v τ d)= .go g1 v1 es->(∀n,¬ Runs P Q n g1 v1)∨∃v2 es2,stepG P true g v= .go g1 v2 es2/\v1=tp v2 τ (d+c)
section
variable {P:Program} {Q J:Goroutine->World->Prop}
open Classical in
theorem MR(hQ:∀g v τ d,Q g v->Q g (tp v τ d))(hJ:∀g v τ d,J g v->J g (tp v τ d))
  (hloc:∀g v,J g v->¬ Q g v->∃c,jf P Q g v c) (hpres:∀g v g1 v1 es,J g v->stepG P true g v= .go g1 v1 es->J g1 v1∨∀n,¬ Runs P Q n g1 v1)
  {g:Goroutine} {v:World} (h0:J g v) (hr:∀τ d,∃n,Runs P Q n g (tp v τ d)):jQ P Q g v:=by
 apply byContradiction
 intro hw
 -- at a state that doesn't win, a tape that leads to no winning state
 have pick:∀s:Goroutine×World,∃x:(Nat->Question->Nat)×Nat,¬ jQ P Q s.1 s.2->∀g1 v1 es,stepG P true s.1 (tp s.2 x.1 x.2)= .go g1 v1 es->¬ jQ P Q g1 v1:=by
  intro s
  by_cases hs:jQ P Q s.1 s.2
  ·exact⟨(fun _ _=>0,0),fun h=>absurd hs h⟩
  ·have:∃τ d,∀g1 v1 es,stepG P true s.1 (tp s.2 τ d)= .go g1 v1 es->¬ jQ P Q g1 v1:=by
    apply byContradiction
    intro hn
    have key:∀τ d,∃g1 v1 es,stepG P true s.1 (tp s.2 τ d)= .go g1 v1 es/\jQ P Q g1 v1:=by
     intro τ d
     apply byContradiction
     intro hn2
     exact hn ⟨τ,d,fun g1 v1 es e w=>hn2 ⟨g1,v1,es,e,w⟩⟩
    refine hs (.step (fun τ d=> ?_) fun τ d g1 v1 es e=> ?_)
    ·obtain⟨g1,v1,es,e,_⟩:=key τ d;exact⟨g1,v1,es,e⟩
    ·obtain⟨g2,v2,es2,e2,hw⟩:=key τ d
     rw [e]at e2
     cases e2
     exact hw
   obtain⟨τ,d,h⟩:=this
   exact⟨(τ,d),fun _=>h⟩
 let X:Goroutine×World->(Nat->Question->Nat)×Nat:=fun s=>Classical.choose (pick s)
 have hX:∀s,¬ jQ P Q s.1 s.2->∀g1 v1 es,stepG P true s.1 (tp s.2 (X s).1 (X s).2)= .go g1 v1 es->¬ jQ P Q g1 v1:=fun s=>Classical.choose_spec (pick s)
 let nx:Goroutine×World->Goroutine×World:=fun s=>match stepG P true s.1 (tp s.2 (X s).1 (X s).2)with
  | .go g1 v1 _=>(g1,v1)
  |_=>s
 let C:Goroutine×World->Nat:=fun s=>if h:∃c,jf P Q s.1 (tp s.2 (X s).1 (X s).2) c then Classical.choose h else 0
 have hC:∀s,J s.1 s.2->¬ Q s.1 s.2->jf P Q s.1 (tp s.2 (X s).1 (X s).2) (C s):=by
  intro s hs hq
  have h:∃c,jf P Q s.1 (tp s.2 (X s).1 (X s).2) c:=hloc _ _ (hJ _ _ _ _ hs) (fun q=>hq (by have:=hQ _ _ s.2.tape s.2.drawn q;rwa [XV,BQ]at this))
  show jf P Q s.1 (tp s.2 (X s).1 (X s).2) (if h:∃c,jf P Q s.1 (tp s.2 (X s).1 (X s).2) c then Classical.choose h else 0)
  rw [dif_pos h]
  exact Classical.choose_spec h
 let seq:Nat->Goroutine×World:=fun k=>Nat.rec (g,v) (fun _ s=>nx s) k
 let D:Nat->Nat:=fun k=>Nat.rec 0 (fun j n=>n+C (seq j)) k
 have hD:∀k,D (k+1)=D k+C (seq k):=fun k=>rfl
 have hseq:∀k,seq (k+1)=nx (seq k):=fun k=>rfl
 have hmono:∀j k,j<=k->D j<=D k:=by
  intro j k h
  induction h with
  |refl=>exact Nat.le_refl _
  |step _ ih=>exact Nat.le_trans ih (by rw [hD];omega)
 -- the tape that lays the picked ones end to end
 let σ:Nat->Question->Nat:=fun n q=>if h:∃k,D k<=n/\n<D (k+1)then(X (seq (Classical.choose h))).1 ((X (seq (Classical.choose h))).2+(n-D (Classical.choose h))) q else 0
 have hσ:∀k,Agree (C (seq k)) σ (D k) (X (seq k)).1 (X (seq k)).2:=by
  intro k j hj q
  have h:∃m,D m<=D k+j/\D k+j<D (m+1):=⟨k,vO,by rw [hD];omega⟩
  obtain⟨h1,h2⟩:=Classical.choose_spec h
  have hk:Classical.choose h=k:=by
   rcases Nat.lt_trichotomy (Classical.choose h) k with hl|he|hg
   ·have:=hmono (Classical.choose h+1) k hl
    omega
   ·exact he
   ·have:=hmono (k+1) (Classical.choose h) hg
    rw [hD]at this
    omega
  show(if h:∃m,D m<=D k+j/\D k+j<D (m+1)then _ else _)=_
  rw [dif_pos h]
  rw [hk]
  rw [show D k+j-D k=j by omega]
 have key:∀m k,J (seq k).1 (seq k).2->¬ jQ P Q (seq k).1 (seq k).2->Runs P Q m (seq k).1 (tp (seq k).2 σ (D k))->False:=by
  intro m
  induction m with
  |zero=>
   intro k hj hn hr
   cases hr with
   |zero hq=>exact hn (.done (by have:=hQ _ _ (seq k).2.tape (seq k).2.drawn hq;rwa [XV,BQ]at this))
  | succ m ih=>
   intro k hj hn hr
   cases hr with
   | @succ _ _ g1 _ v1 es hs hr'=>
    have hq:¬ Q (seq k).1 (seq k).2:=fun q=>hn (.done q)
    obtain⟨v2,es2,e1,e2⟩:=((hC _ hj hq).re σ (D k) (hσ k) g1 v1 es hs).resolve_left fun h=>h _ hr'
    have hn1:=hX _ hn _ _ _ e1
    have hnx:seq (k+1)=(g1,v2):=by
     rw [hseq]
     show(match stepG P true (seq k).1 (tp (seq k).2 (X (seq k)).1 (X (seq k)).2)with| .go g1 v1 _=>(g1,v1)|_=>seq k)=_
     rw [e1]
    rcases hpres _ _ _ _ _ (hJ _ _ _ _ hj) e1 with hj1|hdead
    ·refine ih (k+1) ?_ ?_ ?_
     ·rw [hnx];exact hj1
     ·rw [hnx];exact hn1
     ·rw [hnx,hD]
      subst e2
      exact hr'
    ·rcases hpres _ _ _ _ _ (hJ _ _ _ _ hj) hs with hj1|hdead'
     ·have:=hJ _ _ v2.tape v2.drawn hj1
      rw [e2,XV,BQ]at this
      refine ih (k+1) ?_ ?_ ?_
      ·rw [hnx];exact this
      ·rw [hnx];exact hn1
      ·rw [hnx,hD]
       subst e2
       exact hr'
     ·exact hdead' _ hr'
 obtain⟨n,hn⟩:=hr σ 0
 exact key n 0 h0 hw hn
end
end
section
open Go Go.Conc
variable [Wn]
omit [Wn] in
theorem mF{Z Z':Nat->Prop}{L:Lk}(h:∀b,Z' b->Z b){x:Value}(hx:Av Z L x):Av Z' L x:=by
 induction hx with
 |bool b=>exact .bool b
 |int k n=>exact .int k n
 |string s=>exact .string s
 |ptr0=>exact .ptr0
 |ptr hz=>exact .ptr fun z=>hz (h _ z)
 |slice0 l c=>exact .slice0 l c
 |slice l c hz=>exact .slice l c fun z=>hz (h _ z)
 |map0=>exact .map0
 |map hz=>exact .map fun z=>hz (h _ z)
 |chan0=>exact .chan0
 |chan hz=>exact .chan fun z=>hz (h _ z)
 |func hf _ _ ih1 ih2=>exact .func hf ih1 ih2
 |nilFunc=>exact .nilFunc
 |nilIface=>exact .nilIface
 |iface _ ih=>exact .iface ih
 |agg _ ih=>exact .agg ih
 |tuple _ ih=>exact .tuple ih
section
variable {P:Program} {F:Array Func} {Z:Nat->Prop} {Lb Gb:Nat->Bool}
inductive Cls(P:Program)(F:Array Func)(Z:Nat->Prop)(Lb Gb:Nat->Bool)(s:Nat)(fr:Frame)(cs:List Frame):Prop
 |still (fr':Frame) (cs':List Frame):FOk Z Lb (aF P Lb Gb) s fr'->(∀c∈cs',FOk Z Lb (aF P Lb Gb) s c/\c.mode= .run)->(fr'.mode= .run∨fr'.mode= .returning)->(∀ (tl:List Frame) (w:World),∃es,stepG (sw P F) true (G fr (cs++tl)) w= .go (G fr' (cs'++tl)) w es)->Cls P F Z Lb Gb s fr cs
 |draw (id:Nat) (ops:Array Oper) (k:List Item):fr.mode= .run->fr.todo= .code (.region id ops true) :: k->Cls P F Z Lb Gb s fr cs
 | op (ops:Array Oper) (i:Nat) (rest:List Nat) (k:List Item) (o:Oper):fr.mode= .run->fr.todo= .inRegion ops (i :: rest) :: k->ops[i]? =some o->Region.wanted o (yielded ops fr.tmps)=true->(∀c,o.op≠ .defer c)->
   (∀Z':Nat->Prop,(∀b,Z' b->Z b)->(∀g,Gb g=true->¬ Z' g)->Hyg P (sw P F) Z' (lk Lb (aF P Lb Gb)) (FE Z' (lk Lb (aF P Lb Gb))) (execOp fr.eval o))->Hyg P (sw P F) Z (lk Lb (aF P Lb Gb)) (FE Z (lk Lb (aF P Lb Gb))) (execOp fr.eval o)->Cls P F Z Lb Gb s fr cs
 |sp (ops:Array Oper) (i:Nat) (rest:List Nat) (k:List Item) (o:Oper):fr.mode= .run->fr.todo= .inRegion ops (i :: rest) :: k->ops[i]? =some o->Region.wanted o (yielded ops fr.tmps)=true->acT P F Z Lb (aF P Lb Gb) fr o->Cls P F Z Lb Gb s fr cs
 |leave (fn:Func) (c:Frame) (cs':List Frame):fr.mode= .returning->fr.defers= []->cs=c :: cs'->(sw P F).funcs[fr.fn]? =some fn->Hyg P (sw P F) Z (lk Lb (aF P Lb Gb)) (Av Z (lk Lb (aF P Lb Gb))) (results fn fr.tmps)->Cls P F Z Lb Gb s fr cs
 |panics (ch:List PanicEntry):fr.mode= .run->(∀ (tl:List Frame) (w:World),∃es,stepG (sw P F) true (G fr (cs++tl)) w= .go (G (fr.raise ch) (cs++tl)) w es)->Cls P F Z Lb Gb s fr cs
 |stops:(∀ (tl:List Frame) (w:World),∃oc w' es,stepG (sw P F) true (G fr (cs++tl)) w= .ended oc w' es)->Cls P F Z Lb Gb s fr cs
theorem cls (S:zo P F Z Lb Gb) {s:Nat} (hs:Lb s=false) {fr:Frame} {cs:List Frame}
  (hf:FOk Z Lb (aF P Lb Gb) s fr) (hcs:∀c∈cs,FOk Z Lb (aF P Lb Gb) s c/\c.mode= .run) (hm:fr.mode= .run∨fr.mode= .returning) (hb:¬ Ew fr cs):Cls P F Z Lb Gb s fr cs:=by
 rcases hm with hm|hm
 ·cases hq :bE fr with
  |some fr'=>exact .still fr' cs (hf.quiet hq) hcs (IJ hm hq) fun tl w=>⟨_,quiet_step hm hq (sw P F) true (cs++tl) w⟩
  | none =>
   have htodo:=hf.todo
   rcases et:fr.todo with _|⟨it,k⟩
   ·simp [bE,et,hf.round]at hq
   rw [et]at htodo
   cases it with
   | code c=>
    cases c with
    |ret=>simp [bE,et,hf.round]at hq
    |region id ops d=>
     cases d with
     |true=>exact .draw id ops k hm et
     |false=>simp [bE,et]at hq
    | cond c a b=>
     have hne:∀x,fr.eval c≠ .bool x:=by
      intro x e
      simp [bE,et,e]at hq
     refine .stops fun tl w=> ?_
     obtain⟨fn,tmps,todo,defers,mode,kind,roundOf⟩:=fr
     simp only at hm et
     subst hm et
     exact⟨.stuck "cond: bool expected" (Frame.pos (sw P F) {fn,tmps,todo:= .code (.cond c a b) :: k,defers,mode:= .run,kind,roundOf}),w,#[],by simp only [stepG,stepG.exec,G]⟩
    |exit id=>
     have hex:exitTo id k=none:=by simpa [bE,et]using hq
     have hro:=hf.round
     refine .stops fun tl w=> ?_
     obtain⟨fn,tmps,todo,defers,mode,kind,roundOf⟩:=fr
     simp only at hm et hro
     subst hm et hro
     exact⟨_,_,_,by simp [stepG,stepG.exec,G,hex];exact⟨rfl,rfl,rfl⟩⟩
    |rangeFunc=>exfalso;have:=htodo _ (List.mem_cons_self ..);simp [iH,fG]at this
    |refuse why=>
     refine .stops fun tl w=> ?_
     obtain⟨fn,tmps,todo,defers,mode,kind,roundOf⟩:=fr
     simp only at hm et
     subst hm et
     exact⟨_,_,_,by simp [stepG,stepG.exec,G];exact⟨rfl,rfl,rfl⟩⟩
    |goto=>exfalso;have:=htodo _ (List.mem_cons_self ..);simp [iH,fG]at this
    |_=>simp [bE,et]at hq
   | inRegion ops l=>
    cases l with
    |nil=>simp [bE,et]at hq
    | cons i rest=>
     by_cases hw:((ops[i]?).map (Region.wanted · (yielded ops fr.tmps))).getD false=true
     rotate_left
     ·simp [bE,et,hw]at hq
     obtain⟨o,ho,hwo'⟩:∃o,ops[i]? =some o/\Region.wanted o (yielded ops fr.tmps)=true:=by
      cases e:ops[i]? with
      |none=>rw [e]at hw;simp at hw
      |some o=>rw [e]at hw;exact⟨o,rfl,by simpa using hw⟩
     have hok:okf (aF P Lb Gb) fr.fn o=true:=by
      have:=htodo _ (List.mem_cons_self ..)
      simp only [iH]at this
      exact Array.all_eq_true_iff_forall_mem.1 this o (Array.mem_of_getElem? ho)
     unfold okf at hok
     rw [Bool.and_eq_true]at hok
     obtain⟨hok,hwp⟩:=hok
     have f2:=Iy hok
     have hw2:o.op.operands.all (acY fr.fn)=true∨Wn.sp fr.fn o=true∨Wn.sc fr.fn o=true:=by
      unfold wop at hwp
      simp only [Bool.or_eq_true]at hwp
      rcases hwp with (h|h)|h
      ·exact .inl h
      ·exact .inr (.inl h)
      ·exact .inr (.inr h)
     rcases hw2 with hsl|hsp|hsc
     rotate_left
     ·by_cases hall:∀x∈o.op.operands,Av Z (lk Lb (aF P Lb Gb)) (fr.eval x)
      ·exact .op ops i rest k o hm et ho hwo' f2 (fun Z' hz hg=>TG (fun _ h=>h) lkV o fr.eval (fun x hx=>mF hz (hall x hx)) (S.spOp _ _ hsp).1 (S.spOp _ _ hsp).2) (TG (fun _ h=>h) lkV o fr.eval hall (S.spOp _ _ hsp).1 (S.spOp _ _ hsp).2)
      ·exact .sp ops i rest k o hm et ho hwo' (S.sp Z s fr o hf hsp (by simpa using hall))
     ·obtain⟨K,args,ats,hop,hK,hargs⟩:=S.sc Z s fr o hf hsc
      have hv:fr.eval (.func K)= .func (.func K) #[] #[]:=rfl
      obtain⟨fnK,bodyK,q1,p2,_,p3⟩:=S.fn K hK
      obtain⟨e1,e3⟩:=Ad S hs hK (args:= #[]++args.map fr.eval++ #[]) (by simpa using hargs)
      refine .still _ (fr :: cs) e1 (fun c hc=> ?_) (.inl e3) fun tl w=> ?_
      ·rcases List.mem_cons.1 hc with rfl|hc
       ·exact⟨hf,hm⟩
       ·exact hcs c hc
      ·obtain⟨s1,_⟩:=zH o hop fr.eval hv (sw P F) q1 p2 p3 w
       exact⟨_,oP hm f2 hf.kind et ho hwo' s1⟩
     have hsl':=Array.all_eq_true_iff_forall_mem.1 hsl
     unfold aF at hok
     simp only [Bool.and_eq_true,Bool.or_eq_true]at hok
     rcases hok with ⟨⟨hkind,hty⟩,hops⟩|hext
     rotate_left
     ·exact .op ops i rest k o hm et ho hwo' f2 (fun Z' hz hg=>MK S.ext hg o fr.eval (fun f=>rfl) (fun x hm hx=>mF hz (jW hf.tmps S.hG hx (hsl' x hm))) hext) (MK S.ext S.hG o fr.eval (fun f=>rfl) (fun x hm hx=>jW hf.tmps S.hG hx (hsl' x hm)) hext)
     have hρ:∀x∈o.op.operands,Av Z (lk Lb (aF P Lb Gb)) (fr.eval x):=fun x hx=>jW hf.tmps S.hG (Array.all_eq_true_iff_forall_mem.1 hops x hx) (hsl' x hx)
     by_cases hcall:qC o.op=true
     ·cases hop:o.op with
      | call c=>
       obtain⟨callee,args,ats⟩:=c
       cases callee with
       | value f=>
        have hmf:f∈o.op.operands:=by rw [hop];simp [Op.operands,Call.operands]
        by_cases hfn:∃fn xs ys,fr.eval f= .func fn xs ys
        ·obtain⟨fn',xs,ys,hv⟩:=hfn
         have havf:=hρ f hmf
         rw [hv]at havf
         cases havf with
         | @func K _ _ hK hxs hys=>
         have hargs:∀x∈xs++args.map fr.eval++ys,Av Z (lk Lb (aF P Lb Gb)) x:=by
          intro x hx
          rcases Array.mem_append.1 hx with m|m
          ·rcases Array.mem_append.1 m with m|m
           ·exact hxs x m
           ·obtain⟨y,hy,rfl⟩:=Array.mem_map.1 m
            exact hρ y (by rw [hop];simp [Op.operands,Call.operands,hy])
          ·exact hys x m
         obtain⟨fnK,bodyK,q1,p2,_,p3⟩:=S.fn K hK
         obtain⟨e1,e3⟩:=Ad S hs hK (adn hargs)
         refine .still _ (fr :: cs) e1 (fun c hc=> ?_) (.inl e3) fun tl w=> ?_
         ·rcases List.mem_cons.1 hc with rfl|hc
          ·exact⟨hf,hm⟩
          ·exact hcs c hc
         ·obtain⟨s1,_⟩:=zH o hop fr.eval hv (sw P F) q1 p2 p3 w
          exact⟨_,oP hm f2 hf.kind et ho hwo' s1⟩
        ·have e:execOp fr.eval o=(Deferred.ofValue (fr.eval f) (args.map fr.eval)>>=fun d=>invoke d.target d.args):=by
          unfold execOp
          rw [hop]
          simp only [resolve]
         cases hv:fr.eval f with
         |func fn xs ys=>exact absurd ⟨_,_,_,hv⟩ hfn
         |nilFunc=>
          refine .panics [{v:= .iface P.rt.errorString (strVal "invalid memory address or nil pointer dereference"),recovered:=false}] hm fun tl w=> ?_
          exact nP hm f2 hf.kind et ho hwo' (by rw [e,hv];rfl)
         |_=>exact .stops fun tl w=>sj hm f2 hf.kind et ho hwo' (w':=w) (h:= .stuck "call: function value expected") (by rw [e,hv];rfl) (.stuck _) vS
       |_=>rw [hop]at hcall;simp [qC]at hcall
      |_=>rw [hop]at hcall;simp [qC]at hcall
     ·exact .op ops i rest k o hm et ho hwo' f2 (fun Z' hz hg=>TG (fun _ h=>h) lkV o fr.eval (fun x hx=>mF hz (hρ x hx)) (hkind.resolve_right hcall) hty) (TG (fun _ h=>h) lkV o fr.eval hρ (hkind.resolve_right hcall) hty)
   |inRangeFunc=>exfalso;have:=htodo _ (List.mem_cons_self ..);simp [iH]at this
   |endRangeFunc=>exfalso;have:=htodo _ (List.mem_cons_self ..);simp [iH]at this
   |beginRound=>exfalso;have:=htodo _ (List.mem_cons_self ..);simp [iH]at this
   |call=>exfalso;have:=htodo _ (List.mem_cons_self ..);simp [iH]at this
   |extern=>exfalso;have:=htodo _ (List.mem_cons_self ..);simp [iH]at this
   |_=>simp [bE,et]at hq
 ·have hd:=hf.defers
  cases cs with
  |nil=>exact absurd ⟨rfl,hm⟩ hb
  |cons c cs=>
   obtain⟨fn,body,h2,_,_,_⟩:=S.fn fr.fn hf.fn
   exact .leave fn c cs hm hd rfl (show(sw P F).funcs[fr.fn]? =some fn from h2) (jA S.hZ fn (acS S hf h2))
end
end
section
open Go Go.Conc
def bV(F:Array Func):Frame:={fn:=F.size,tmps:= #[],todo:= [.call default false "fmt's door, shut" #[]],defers:= [],mode:= .run,kind:= .normal}
theorem VD(P:Program)(F:Array Func)(x:Value)(v:World):∃o v' es,stepG (sw P F) true (G ((bV F).finish x) []) v= .ended o v' es:=by
 have hn:Extern.next "fmt's door, shut" =none:=by rfl
 have h:∃p,stepG (sw P F) true (G ((bV F).finish x) []) v= .ended (.stuck "no extern row fmt's door, shut" p) v #[]:=by
  simp [stepG,stepG.exec,G,bV,Frame.finish,hn]
 obtain⟨p,h⟩:=h
 exact⟨_,_,_,h⟩
theorem QM(P:Program)(F:Array Func)(ch:List PanicEntry)(v:World):∃o v' es,stepG (sw P F) true (G ((bV F).raise ch) []) v= .ended o v' es:=by
 have hc:((bV F).raise ch).catches (sw P F)=true:=by
  simp [bV,Frame.raise,Frame.catches]
 refine⟨.unsupported (.noEntry "a panic or Goexit out of a method that fmt calls behind a cut's door") (((bV F).raise ch).pos (sw P F)),v,#[], ?_⟩
 have hd:((bV F).raise ch).defers= []:=rfl
 have hm:((bV F).raise ch).mode= .panicking ch:=rfl
 simp only [stepG,G,hm,unwind,hd]
 exact if_pos hc
variable [Wn]
section
variable {P:Program} {F:Array Func} {Z:Nat->Prop} {Lb Gb:Nat->Bool} {s:Nat}
inductive qV(P:Program)(F:Array Func)(Z:Nat->Prop)(Lb Gb:Nat->Bool):Goroutine->World->Prop
 |pan {fr:Frame} {cs:List Frame} {ch:List PanicEntry} {v:World}:fr.mode= .panicking ch->fr.defers= []->fr.fn<F.size->(∀c∈cs,c.defers= []/\c.fn<F.size/\c.mode= .run)->qV P F Z Lb Gb (G fr (cs++ [bV F])) v
 |back (x:Value) (v:World):qV P F Z Lb Gb (G ((bV F).finish x) []) v
 |up (ch:List PanicEntry) (v:World):qV P F Z Lb Gb (G ((bV F).raise ch) []) v
theorem qV.step{g:Goroutine}{v:World}(h:qV P F Z Lb Gb g v):(∃g1 v1 es,stepG (sw P F) true g v= .go g1 v1 es/\qV P F Z Lb Gb g1 v1/\g1.status= .running)∨∃o v' es,stepG (sw P F) true g v= .ended o v' es:=by
 cases h with
 |back x=>exact .inr (VD P F x v)
 |up ch=>exact .inr (QM P F ch v)
 | @pan fr cs ch _ hm hdf hf hcs=>
  left
  have hc:fr.catches (sw P F)=false:=by
   unfold Frame.catches
   have:(sw P F).funcs[fr.fn]? =some F[fr.fn]:=Array.getElem?_eq_getElem hf
   rw [this]
  cases cs with
  |nil=>
   refine⟨G ((bV F).raise ch) [],v,#[], ?_,.up ch v,rfl⟩
   simp only [List.nil_append,stepG,G,hm,unwind,hdf]
   exact if_neg (by rw [hc];simp)
  | cons c cs=>
   obtain⟨c1,c2,c3⟩:=hcs c vS
   refine⟨G (c.raise ch) (cs++ [bV F]),v,#[], ?_,.pan (ch:=ch) (by simp [Frame.raise,c3]) ?_ ?_ (fun x hx=>hcs x (by simp [hx])),rfl⟩
   ·simp only [List.cons_append,stepG,G,hm,unwind,hdf]
    exact if_neg (by rw [hc];simp)
   ·simp only [Frame.raise];split <;> exact c1
   ·simp only [Frame.raise];split <;> exact c2
def Qb(P:Program)(F:Array Func)(Z:Nat->Prop)(Lb Gb:Nat->Bool)(s:Nat)(Rx:Value->World->Prop)(g:Goroutine)(v:World):Prop:=
 ∃fr fn x,g=G fr [bV F]/\fr.mode= .returning/\fr.defers= []/\FOk Z Lb (aF P Lb Gb) s fr/\F[fr.fn]? =some fn/\(results fn fr.tmps).run (sw P F) v= .ok x v/\Rx x v/\AvW Z (lk Lb (aF P Lb Gb)) v
def Jb(P:Program)(F:Array Func)(Z:Nat->Prop)(Lb Gb:Nat->Bool)(s:Nat)(g:Goroutine)(v:World):Prop:=
 ∃fr cs,g=G fr (cs++ [bV F])/\FOk Z Lb (aF P Lb Gb) s fr/\(∀c∈cs,FOk Z Lb (aF P Lb Gb) s c/\c.mode= .run)/\(fr.mode= .run∨fr.mode= .returning)/\AvW Z (lk Lb (aF P Lb Gb)) v
theorem qV.noQ{g:Goroutine}{v:World}(h:qV P F Z Lb Gb g v):∀fr,g=G fr [bV F]->fr.mode≠ .returning:=by
 intro fr e hm
 cases h with
 |pan h1=>simp only [G,Goroutine.mk.injEq]at e;rw [e.1,hm]at h1;cases h1
 |back x=>simp [G]at e
 |up ch=>simp [G]at e
theorem qV.AV{Rx:Value->World->Prop}:∀ (n:Nat) {g:Goroutine} {v:World},qV P F Z Lb Gb g v->∀Z',¬ Runs (sw P F) (Qb P F Z' Lb Gb s Rx) n g v
 |0,g,v,h,Z',hr=>by
  cases hr with
  |zero hq=>obtain⟨fr,fn,x,e,hm,_⟩:=hq;exact h.noQ fr e hm
 | n+1,g,v,h,Z',hr=>by
  cases hr with
  |succ hs hr'=>
   rcases h.step with ⟨g1,v1,es,e,h1,_⟩|⟨o,v',es,e⟩
   ·rw [e]at hs;cases hs;exact qV.AV n h1 Z' hr'
   ·rw [e]at hs;cases hs
theorem Sl(S:zo P F Z Lb Gb){f:Nat}(h:Lb f=true):f<F.size:=by
 obtain⟨fn,_,h,_⟩:=S.fn f h
 exact(Array.getElem?_eq_some_iff.1 h).1
theorem jB(S:zo P F Z Lb Gb){fr fr2:Frame}{cs:List Frame}{v:World}(hf:FOk Z Lb (aF P Lb Gb) s fr)(hcs:∀c∈cs,FOk Z Lb (aF P Lb Gb) s c/\c.mode= .run)(hp:Mi fr.fn fr2):
  qV P F Z Lb Gb (G fr2 (cs++ [bV F])) v:=by
 obtain⟨⟨ch,h1⟩,h2,h3⟩:=hp
 exact .pan (ch:=ch) h1 h3 (by rw [h2];exact Sl S hf.fn) (fun c hc=>⟨(hcs c hc).1.defers,Sl S (hcs c hc).1.fn,(hcs c hc).2⟩)
theorem Vi(S:zo P F Z Lb Gb)(hs:Lb s=false){g:Goroutine}{v:World}(h:Jb P F Z Lb Gb s g v):
  (∃g1 v1 es,stepG (sw P F) true g v= .go g1 v1 es/\g1.status= .running/\(Jb P F Z Lb Gb s g1 v1∨qV P F Z Lb Gb g1 v1))∨∃o v' es,stepG (sw P F) true g v= .ended o v' es:=by
 obtain⟨fr,cs,rfl,hf,hcs,hm,ha⟩:=h
 have lostAll:∀ch v',fr.mode= .run->qV P F Z Lb Gb (G (fr.raise ch) (cs++ [bV F])) v':=fun ch v' hm=>jB S hf hcs (jv hf hm ch)
 by_cases hbase:Ew fr cs
 ·obtain⟨rfl,hm'⟩:=hbase
  have hd:=hf.defers
  obtain⟨fn,body,h2,_,_,_⟩:=S.fn fr.fn hf.fn
  cases hrun:(results fn fr.tmps).run (sw P F) v with
  |halt hh w''=>exact .inr (lQ (main:=true) (cs:= []++ [bV F]) hm' hd (show(sw P F).funcs[fr.fn]? =some fn from h2) hrun)
  |ok x v'=>exact .inl ⟨_,_,_,kD hm' hd hf.kind (show(sw P F).funcs[fr.fn]? =some fn from h2) hrun,rfl,.inr (.back x _)⟩
 cases cls S hs hf hcs hm hbase with
 |still fr' cs' h1 h2 h3 h4=>
  obtain⟨es,e⟩:=h4 [bV F] v
  exact .inl ⟨_,_,_,e,rfl,.inl ⟨fr',cs',rfl,h1,h2,h3,ha⟩⟩
 |draw id ops k h1 h2=>
  refine .inl ⟨_,_,_,nK h1 h2,rfl,.inl ⟨_,cs,rfl,hf.lay fun i hi=> ?_,hcs,.inl h1,ha.draw _⟩⟩
  have ht:=hf.todo
  rw [h2]at ht
  simp only [List.mem_cons]at hi
  rcases hi with rfl|hi
  ·exact ht (.code (.region id ops true)) vS
  ·exact ht i (by simp [hi])
 | op ops i rest k o h1 h2 h3 h4 h5 _ hH=>
  cases hrun:(execOp fr.eval o).run (sw P F) v with
  | halt hh w''=>
   have hok:=hH.FC lkT _ _ ha hrun
   by_cases hp:∃x,hh= .panic x
   ·obtain⟨x,rfl⟩:=hp
    obtain⟨es,e⟩:=nP (main:=true) (cs:=cs++ [bV F]) h1 h5 hf.kind h2 h3 h4 hrun
    exact .inl ⟨_,_,_,e,rfl,.inr (lostAll _ _ h1)⟩
   ·exact .inr (sj (main:=true) (cs:=cs++ [bV F]) h1 h5 hf.kind h2 h3 h4 hrun hok fun x e=>hp ⟨x,e⟩)
  | ok n v'=>
   obtain⟨o1,_,o7⟩:=hH.sim lkT #[] n v' (w:=v) ⟨rfl,rfl,rfl,rfl,rfl,fun _ _=>rfl⟩ ha hrun
   cases n with
   |value x=>
    refine .inl ⟨_,_,_,lM h1 h5 hf.kind h2 h3 h4 hrun,rfl,.inl ⟨fr.finish x,cs,rfl,hf.finish o1,hcs, ?_,o7⟩⟩
    left;unfold Frame.finish;split <;> exact h1
   |skip=>
    refine .inl ⟨_,_,_,nJ h1 h5 hf.kind h2 h3 h4 hrun,rfl,.inl ⟨fr.finish undef,cs,rfl,hf.finish o8,hcs, ?_,o7⟩⟩
    left;unfold Frame.finish;split <;> exact h1
   |_=>exact o1.elim
 | sp ops i rest k o h1 h2 h3 h4 hsp=>
  obtain⟨h5,r,hgood,hbad⟩:=hsp
  cases r with
  | none=>
   obtain⟨hh,d,hrv,hok⟩:=hbad rfl (sw P F) (.inr rfl) v ha.ac0
   by_cases hp:∃x,hh= .panic x
   ·obtain⟨x,rfl⟩:=hp
    obtain⟨es,e⟩:=nP (main:=true) (cs:=cs++ [bV F]) h1 h5 hf.kind h2 h3 h4 hrv
    exact .inl ⟨_,_,_,e,rfl,.inr (lostAll _ _ h1)⟩
   ·exact .inr (sj (main:=true) (cs:=cs++ [bV F]) h1 h5 hf.kind h2 h3 h4 hrv hok fun x e=>hp ⟨x,e⟩)
  |some x=>
   obtain⟨hval,hrun⟩:=hgood x rfl
   refine .inl ⟨_,_,_,lM h1 h5 hf.kind h2 h3 h4 (hrun (sw P F) (.inr rfl) v ha.ac0).1,rfl,.inl ⟨fr.finish x,cs,rfl,hf.acV (acZ h2 h3 hval),hcs, ?_,ha⟩⟩
   left;unfold Frame.finish;split <;> exact h1
 | leave fn c cs' h1 hd h2 h3 hH=>
  subst h2
  cases hrun:(results fn fr.tmps).run (sw P F) v with
  |halt hh w''=>exact .inr (lQ (main:=true) (cs:=(c :: cs')++ [bV F]) h1 hd h3 hrun)
  |ok x v'=>
   obtain⟨o1,_,o7⟩:=hH.sim lkT #[] x v' (w:=v) ⟨rfl,rfl,rfl,rfl,rfl,fun _ _=>rfl⟩ ha hrun
   obtain⟨c1,c2⟩:=hcs c vS
   refine .inl ⟨_,_,_,kD h1 hd hf.kind h3 hrun,rfl,.inl ⟨c.finish x,cs',rfl,c1.finish o1,fun y hy=>hcs y (by simp [hy]), ?_,o7⟩⟩
   left;unfold Frame.finish;split <;> exact c2
 |panics ch h1 h2=>
  obtain⟨es,e⟩:=h2 [bV F] v
  exact .inl ⟨_,_,_,e,rfl,.inr (lostAll _ _ h1)⟩
 |stops h=>exact .inr (h [bV F] v)
theorem FR{Q:Goroutine->World->Prop}{fr c0:Frame}{cs0:List Frame}{v:World}{fn:Func}(hH:Hyg P (sw P F) Z (lk Lb (aF P Lb Gb)) (Av Z (lk Lb (aF P Lb Gb))) (results fn fr.tmps))(ha:AvW Z (lk Lb (aF P Lb Gb)) v)(hm:fr.mode= .returning)(hd:fr.defers= [])(hk:fr.kind= .normal)(hfn:(sw P F).funcs[fr.fn]? =some fn):
  ∃c,jf (sw P F) Q (G fr (c0 :: cs0)) v c:=by
 obtain⟨c,hl⟩:=hH.local lkT v ha
 refine⟨c,⟨fun τ d hg g2 v1 es e=> ?_⟩⟩
 have hre:=hl.re τ d hg
 cases hrun:(results fn fr.tmps).run (sw P F) v with
 |halt hh w''=>
  rw [hrun]at hre
  obtain⟨oc,w3,es3,e3⟩:=lQ (main:=true) (cs:=c0 :: cs0) hm hd hfn hre
  rw [e3]at e
  cases e
 |ok x v'=>
  rw [hrun]at hre
  rw [kD hm hd hk hfn hre]at e
  cases e
  exact .inr ⟨v',_,kD hm hd hk hfn hrun,rfl⟩
theorem XU(S:zo P F Z Lb Gb)(hs:Lb s=false){Rx:Value->World->Prop}{g:Goroutine}{v:World}(h:Jb P F Z Lb Gb s g v):∃c,jf (sw P F) (Qb P F Z Lb Gb s Rx) g v c:=by
 obtain⟨fr,cs,rfl,hf,hcs,hm,ha⟩:=h
 have same:∀g1:Goroutine,(∀w:World,∃es,stepG (sw P F) true (G fr (cs++ [bV F])) w= .go g1 w es)->∃c,jf (sw P F) (Qb P F Z Lb Gb s Rx) (G fr (cs++ [bV F])) v c:=by
  intro g1 h
  refine⟨0,⟨fun τ d _ g2 v1 es e=> ?_⟩⟩
  obtain⟨es1,e1⟩:=h (tp v τ d)
  obtain⟨es2,e2⟩:=h v
  rw [e1]at e
  cases e
  exact .inr ⟨v,es2,e2,rfl⟩
 by_cases hbase:Ew fr cs
 ·obtain⟨rfl,hm'⟩:=hbase
  obtain⟨fn,body,h2,_,_,_⟩:=S.fn fr.fn hf.fn
  exact FR (jA S.hZ fn (acS S hf h2)) ha hm' hf.defers hf.kind (show(sw P F).funcs[fr.fn]? =some fn from h2)
 cases cls S hs hf hcs hm hbase with
 |still fr' cs' h1 h2 h3 h4=>exact same _ (h4 [bV F])
 | sp ops i rest k o h1 h2 h3 h4 hsp=>
  obtain⟨h5,r,hgood,hbad⟩:=hsp
  refine⟨0,⟨fun τ d _ g2 v1 es e=> ?_⟩⟩
  cases r with
  | none=>
   obtain⟨hh,d',hrt,hok⟩:=hbad rfl (sw P F) (.inr rfl) (tp v τ d) (ha.tp τ d).ac0
   by_cases hp:∃x,hh= .panic x
   ·obtain⟨x,rfl⟩:=hp
    obtain⟨es1,e1⟩:=nP (main:=true) (cs:=cs++ [bV F]) h1 h5 hf.kind h2 h3 h4 hrt
    rw [e1]at e
    cases e
    exact .inl fun n=>(jB S hf hcs (jv hf h1 _)).AV n _
   ·obtain⟨oc,w3,es1,e1⟩:=sj (main:=true) (cs:=cs++ [bV F]) h1 h5 hf.kind h2 h3 h4 hrt hok fun x e=>hp ⟨x,e⟩
    rw [e1]at e
    cases e
  |some x=>
   obtain⟨hval,hrun⟩:=hgood x rfl
   rw [lM h1 h5 hf.kind h2 h3 h4 (hrun (sw P F) (.inr rfl) (tp v τ d) (ha.tp τ d).ac0).1]at e
   cases e
   exact .inr ⟨v,_,lM h1 h5 hf.kind h2 h3 h4 (hrun (sw P F) (.inr rfl) v ha.ac0).1,rfl⟩
 |leave fn c cs' h1 hd h2 h3 hH=>
  subst h2
  exact FR hH ha h1 hd hf.kind h3
 |panics ch h1 h2=>exact same _ (h2 [bV F])
 |stops h=>
  refine⟨0,⟨fun τ d _ g2 v1 es e=> ?_⟩⟩
  obtain⟨o,w',es1,e1⟩:=h [bV F] (tp v τ d)
  rw [e1]at e
  cases e
 |draw id ops k h1 h2=>
  refine⟨1,⟨fun τ d hg g2 v1 es e=> ?_⟩⟩
  rw [nK h1 h2]at e
  cases e
  refine .inr ⟨{v with drawn:=v.drawn+1},#[], ?_,rfl⟩
  rw [nK h1 h2]
  have:=hg 0 vO (.order fr.fn id)
  simp only [Nat.add_zero]at this
  show _=GStep.go (G {fr with todo:= .inRegion ops (Region.schedule ((sw P F).follows .mixedOrders) ops (τ d (.order fr.fn id))) :: k} _) _ _
  rw [this]
 | op ops i rest k o h1 h2 h3 h4 h5 _ hH=>
  obtain⟨c,hl⟩:=hH.local lkT v ha
  refine⟨c,⟨fun τ d hg g2 v1 es e=> ?_⟩⟩
  have hre:=hl.re τ d hg
  cases hrun:(execOp fr.eval o).run (sw P F) v with
  | halt hh w''=>
   rw [hrun]at hre
   have hok:=hH.FC lkT _ _ ha hrun
   by_cases hp:∃x,hh= .panic x
   ·obtain⟨x,rfl⟩:=hp
    obtain⟨es1,e1⟩:=nP (main:=true) (cs:=cs++ [bV F]) h1 h5 hf.kind h2 h3 h4 hre
    obtain⟨es2,e2⟩:=nP (main:=true) (cs:=cs++ [bV F]) h1 h5 hf.kind h2 h3 h4 hrun
    rw [e1]at e
    cases e
    exact .inr ⟨w'',es2,e2,rfl⟩
   ·obtain⟨oc,w3,es1,e1⟩:=sj (main:=true) (cs:=cs++ [bV F]) h1 h5 hf.kind h2 h3 h4 hre hok fun x e=>hp ⟨x,e⟩
    rw [e1]at e
    cases e
  | ok n v'=>
   rw [hrun]at hre
   obtain⟨o1,_,o7⟩:=hH.sim lkT #[] n v' (w:=v) ⟨rfl,rfl,rfl,rfl,rfl,fun _ _=>rfl⟩ ha hrun
   cases n with
   |value x=>
    rw [lM h1 h5 hf.kind h2 h3 h4 hre]at e
    cases e
    exact .inr ⟨v',_,lM h1 h5 hf.kind h2 h3 h4 hrun,rfl⟩
   |skip=>
    rw [nJ h1 h5 hf.kind h2 h3 h4 hre]at e
    cases e
    exact .inr ⟨v',_,nJ h1 h5 hf.kind h2 h3 h4 hrun,rfl⟩
   |_=>exact o1.elim
theorem F5{Pg:Program}{fr:Frame}{cs:List Frame}{w w':World}{o:Outcome}{es:Array Event}(h:stepG Pg true (G fr cs) w= .ended o w' es):step Pg (solo (G fr cs) w)= .ended o w':=
 step_lone_ended (by show(stepG Pg true (G fr cs) w).bare=_;rw [h];rfl)
theorem Vp{g:Goroutine}{v:World}(h:qV P F Z Lb Gb g v):∃fr cs,g=G fr cs:=by
 cases h with
 | @pan fr cs=>exact⟨fr,_,rfl⟩
 |back x=>exact⟨_,_,rfl⟩
 |up x=>exact⟨_,_,rfl⟩
theorem uF(S:zo P F Z Lb Gb)(hs:Lb s=false){Rx:Value->World->Prop}:∀ (n:Nat) {g:Goroutine} {v:World} {fr:Frame} {v':World} {x:Value},(Jb P F Z Lb Gb s g v∨qV P F Z Lb Gb g v)->
  runN (sw P F) n (solo g v)= .next (solo (G fr [bV F]) v')->fr.leaving (sw P F) v' (.returned x)->Rx x v'->∃m,Runs (sw P F) (Qb P F Z Lb Gb s Rx) m g v
 | 0,g,v,fr,v',x,hj,hrun,hl,hx=>by
  simp only [runN,Stepped.next.injEq]at hrun
  have e1:g=G fr [bV F]:=by have:=congrArg (fun m:Machine=>m.gs[0]?) hrun;simpa [solo]using this
  have e2:v=v':=by have:=congrArg (fun m:Machine=>m.world) hrun;simpa [solo]using this
  subst e2
  obtain⟨hm,hd,hk,fn,hfn,hres⟩:=hl
  rcases hj with hj|hj
  ·obtain⟨fr2,cs,e3,hf,hcs,_,ha⟩:=hj
   rw [e1]at e3
   simp only [G,Goroutine.mk.injEq,true_and,and_true]at e3
   obtain⟨rfl,e4⟩:=e3
   exact⟨0,.zero ⟨fr,fn,x,e1,hm,hd,hf,hfn,hres,hx,ha⟩⟩
  ·exact absurd hm (hj.noQ fr e1)
 | n+1,g,v,fr,v',x,hj,hrun,hl,hx=>by
  have hform:∃fr cs,g=G fr cs:=by
   rcases hj with ⟨fr,cs,e,_⟩|hj
   ·exact⟨fr,_,e⟩
   ·exact Vp hj
  obtain⟨fr0,cs0,rfl⟩:=hform
  have hstep:(∃g1 v1 es,stepG (sw P F) true (G fr0 cs0) v= .go g1 v1 es/\g1.status= .running/\(Jb P F Z Lb Gb s g1 v1∨qV P F Z Lb Gb g1 v1))∨∃o v' es,stepG (sw P F) true (G fr0 cs0) v= .ended o v' es:=by
   rcases hj with hj|hj
   ·exact Vi S hs hj
   ·rcases hj.step with ⟨g1,v1,es,e,h1,h2⟩|h
    ·exact .inl ⟨g1,v1,es,e,h2,.inr h1⟩
    ·exact .inr h
  rcases hstep with ⟨g1,v1,es,e,hrn,h1⟩|⟨o,v2,es,e⟩
  ·have e2:=step_solo_go (a:=G fr0 cs0) rfl e
   simp only [runN,e2]at hrun
   obtain⟨m,hm⟩:=uF S hs n h1 hrun hl hx
   exact⟨m+1,.succ e hm⟩
  ·have e2:=F5 e
   simp only [runN,e2]at hrun
   cases hrun
theorem aaW(S:zo P F Z Lb Gb){Rx:Value->World->Prop}(hR:∀x v τ d,Rx x v->Rx x (tp v τ d)){g:Goroutine}{v:World}{τ:Nat->Question->Nat}{d:Nat}(h:Qb P F Z Lb Gb s Rx g v):Qb P F Z Lb Gb s Rx g (tp v τ d):=by
 obtain⟨fr,fn,x,h1,h2,hd,h3,h4,h5,h6,h7⟩:=h
 obtain⟨c,hl⟩:=(jA (P:=P) (F:=F) (Z:=Z) S.hZ fn (acS S h3 h4)).local lkT v h7
 have hc:c=0:=by have:=(hl.ok x v h5).2;omega
 subst hc
 have hre:=hl.re τ d (fun j hj=>by omega)
 rw [h5]at hre
 exact⟨fr,fn,x,h1,h2,hd,h3,h4,hre,hR _ _ _ _ h6,h7.tp τ d⟩
theorem KY(S:zo P F Z Lb Gb)(hs:Lb s=false){f:FuncId}{args:Array Value}{v:World}(hf:Lb f=true)(hargs:∀ (j:Nat) x,args[j]? =some x->Av Z (lk Lb (aF P Lb Gb)) x∨Wn.wv (Wn.kd f j) x)(hv:AvW Z (lk Lb (aF P Lb Gb)) v)
  {Rx:Value->World->Prop} (hR:∀x v τ d,Rx x v->Rx x (tp v τ d)) (hc:∀τ d,Calls (sw P F) f args (tp v τ d) fun e w'=>∃x,e= .returned x/\Rx x w'):
  jQ (sw P F) (Qb P F Z Lb Gb s Rx) (G (Frame.enter (sw P F) f args .normal) [bV F]) v:=by
 obtain⟨e1,e2⟩:=Ad S hs hf hargs
 have h0:Jb P F Z Lb Gb s (G (Frame.enter (sw P F) f args .normal) [bV F]) v:=⟨_,[],rfl,e1,vS,.inl e2,hv⟩
 have hJ:∀g v τ d,Jb P F Z Lb Gb s g v->Jb P F Z Lb Gb s g (tp v τ d):=fun g v τ d ⟨fr,cs,a,b,c,m,w⟩=>⟨fr,cs,a,b,c,m,w.tp τ d⟩
 refine MR (J:=Jb P F Z Lb Gb s) (fun g v τ d h=>aaW S hR h) hJ (fun g v h _=>XU S hs h) (fun g v g1 v1 es h e=> ?_) h0 fun τ d=> ?_
 ·rcases Vi S hs h with ⟨g2,v2,es2,e3,_,h1⟩|⟨o,v2,es2,e3⟩
  ·rw [e3]at e;cases e
   exact h1.imp id fun hl n=>hl.AV n _
  ·rw [e3]at e;cases e
 ·obtain⟨e,w',fr,⟨x,rfl,hx⟩,hcomes,_,hl⟩:=hc τ d [bV F]
  obtain⟨n,hn⟩:=hcomes
  exact uF S hs n (.inl (hJ _ _ _ _ h0)) hn hl hx
end
end
end Go.Sq
