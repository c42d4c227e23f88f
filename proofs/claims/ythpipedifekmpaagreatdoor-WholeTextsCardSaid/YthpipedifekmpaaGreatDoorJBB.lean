import Derived.Test.YthpipedifekmpaaGreatDoorJPo
import Derived.Test.YthpipedifekmpaaGreatDoorJLA
import Derived.WalkKit
import Derived.ProofKit
import Derived.OpenShut
import Derived.Carry
import Derived.Lib.SmallJoins
import Derived.LaidMore
import Derived.MakeChecks
import Derived.Lib.LaidTab
import Derived.Deep.AppendLies
import Derived.OwnWalk
import Derived.BigQuiet
import Derived.BigCall
import Derived.Below
import Derived.Laws.Rows
import Derived.Laws.Cells
set_option maxHeartbeats 8000000
set_option maxRecDepth 100000
set_option linter.unusedVariables false
namespace Go.Proofs.YthpipedifekmpaaGreatDoor
section
open Go.ChangeShapes Go.WideShapes Go.ChangeAt Go.RowKit Go.Joins
section
variable {H:Type} {enc:TypeId×Value->H} {P:Program} {w:World} {base:Nat} {spare:Nat->Bool} {held:Bool}
theorem struct_field{fuel:Nat}{t:TypeId}{cs:List Value}{x:DataW H×List MemPlace}{fs:Array Field}(ht:P.underlying t=some (.struct fs))(h:DataW.trod enc P w base spare held fuel t cs=some x)(i:Nat)(f:Field)(hf:fs[i]? =some f):
  ∃m y,DataW.trod enc P w base spare held m f.type ((cs.drop f.offset).take (P.cellsOf f.type))=some y:=by
 obtain⟨xs,n,_,_,_,hl,hg⟩:=DataW.trod_struct ht h
 have:=hg i f hf
 have hi:i<xs.length:=by
  rw [hl]
  exact(Array.getElem?_eq_some_iff.1 hf).1
 rw [List.getElem?_eq_getElem hi]at this
 exact⟨n,_,this⟩
end
end
section
open Go.ChangeShapes Go.WideShapes Go.ChangeAt Go.RowKit
mutual
def flat:DataW Unit->List Value
 | .lit (.int k n)=> [.int k n]
 | .lit (.bool b)=> [.bool b]
 | .lit (.string s)=> [.string ⟨s.toArray⟩]
 | .agg ps=>flatAll ps
 |_=> []
def flatAll:List (DataW Unit)->List Value
 | []=> []
 |d :: ds=>flat d++flatAll ds
end
def offsOk(P:Program):Nat->List Field->Option Nat
 |o,[]=>some o
 |o,f :: fs=>if f.offset=o then offsOk P (o+P.cellsOf f.type) fs else none
def plainTy(P:Program):Nat->TypeId->Bool
 |0,_=>false
 |n+1,t=>match P.underlying t with
  |some (.int _)=>true
  |some .bool=>true
  |some .string=>true
  |some (.array k e)=>plainTy P n e&&decide (P.cellsOf t=k*P.cellsOf e)
  |some (.struct fs)=>fs.toList.all (fun f=>plainTy P n f.type)&&decide (offsOk P 0 fs.toList=some (P.cellsOf t))
  |_=>false
theorem flat_pieces(c:Nat):∀ (xs:List (DataW Unit×List MemPlace)) (cs:List Value),cs.length=xs.length*c->(∀i x,xs[i]? =some x->(cs.drop (i*c)).take c=flat x.1)->cs=flatAll (xs.map (·.1))
 | [],cs,hl,_=>by
  have:cs= []:=List.eq_nil_of_length_eq_zero (by simpa using hl)
  subst this
  rfl
 | x :: xs,cs,hl,h=>by
  have h0:=h 0 x rfl
  simp only [Nat.zero_mul,List.drop_zero]at h0
  have hr:=flat_pieces c xs (cs.drop c) (by rw [List.length_drop,hl,List.length_cons,Nat.succ_mul];omega) (fun i y hy=>by
   have:=h (i+1) y (by simpa using hy)
   rwa [List.drop_drop,Nat.add_comm c,←Nat.succ_mul])
  show cs=flat x.1++flatAll (xs.map (·.1))
  rw [←h0,←hr,List.take_append_drop]
theorem flat_fields(P:Program):∀ (fs:List Field) (xs:List (DataW Unit×List MemPlace)) (o e:Nat) (cs:List Value),offsOk P o fs=some e->cs.length=e->xs.length=fs.length->
  (∀ (i:Nat) f x,fs[i]? =some f->xs[i]? =some x->(cs.drop f.offset).take (P.cellsOf f.type)=flat x.1)->cs.drop o=flatAll (xs.map (·.1))
 | [],xs,o,e,cs,ho,hl,hn,_=>by
  have hx:xs= []:=List.eq_nil_of_length_eq_zero (by simpa using hn)
  subst hx
  simp only [offsOk,Option.some.injEq]at ho
  subst ho
  rw [List.drop_eq_nil_of_le (by omega)]
  rfl
 |f :: fs,[],_,_,_,_,_,hn,_=>by simp at hn
 | f :: fs,x :: xs,o,e,cs,ho,hl,hn,h=>by
  simp only [offsOk]at ho
  split at ho
  ·rename_i hf
   have h0:=h 0 f x rfl rfl
   rw [hf]at h0
   have hr:=flat_fields P fs xs _ e cs ho hl (by simpa using hn) (fun i g y hg hy=>h (i+1) g y (by simpa using hg) (by simpa using hy))
   show cs.drop o=flat x.1++flatAll (xs.map (·.1))
   rw [←h0,←hr,←List.drop_drop,List.take_append_drop]
  ·cases ho
theorem flat_of_trod{P:Program}{w:World}{base:Nat}{sp:Nat->Bool}{held:Bool}{enc:TypeId×Value->Unit}:∀ (n fuel:Nat) (t:TypeId) (cs:List Value) (x:DataW Unit×List MemPlace),plainTy P n t=true->DataW.trod enc P w base sp held fuel t cs=some x->cs=flat x.1
 |0,_,_,_,_,hp,_=>by simp [plainTy]at hp
 | n+1,fuel,t,cs,x,hp,h=>by
  simp only [plainTy]at hp
  split at hp
  ·rename_i k hu
   obtain⟨z,rfl,rfl,_⟩:=DataW.trod_int hu h
   rfl
  ·rename_i hu
   obtain⟨z,rfl,rfl⟩:=DataW.trod_bool hu h
   rfl
  ·rename_i hu
   obtain⟨z,rfl,rfl,_⟩:=DataW.trod_string hu h
   rfl
  ·rename_i k e hu
   rw [Bool.and_eq_true,decide_eq_true_eq]at hp
   obtain⟨xs,m,_,rfl,hl,hn,hg⟩:=DataW.trod_array hu h
   refine flat_pieces (P.cellsOf e) xs cs (by rw [hl,hp.2,hn]) (fun i y hy=> ?_)
   have hi:i<k:=by rw [←hn];exact(List.getElem?_eq_some_iff.1 hy).1
   exact flat_of_trod n m e _ y hp.1 ((hg i hi).trans hy)
  ·rename_i fs hu
   rw [Bool.and_eq_true,decide_eq_true_eq]at hp
   obtain⟨xs,m,_,rfl,hl,hn,hg⟩:=DataW.trod_struct hu h
   have:=flat_fields P fs.toList xs 0 _ cs hp.2 hl (by simpa using hn) (fun i f y hf hy=>
    flat_of_trod n m f.type _ y (List.all_eq_true.1 hp.1 f (List.mem_of_getElem? hf)) ((hg i f (by simpa using hf)).trans hy))
   rw [List.drop_zero]at this
   exact this
  ·cases hp
def Tab(w:World)(g:Nat)(cs:List Value):Prop:=∃t,w.heap[g]? =some (.cells cs.toArray t (0,0))
theorem Tab.lt{w:World}{g:Nat}{cs:List Value}(h:Tab w g cs):g<w.heap.size:=by
 obtain⟨t,h⟩:=h
 exact(Array.getElem?_eq_some_iff.1 h).1
theorem Tab.below{a b:World}{g:Nat}{cs:List Value}(h:Tab a g cs)(hb:Below a.heap.size a b):Tab b g cs:=by
 have hl:=h.lt
 obtain⟨t,h⟩:=h
 exact⟨t,(hb.block g hl).trans h⟩
theorem Tab.cell{w:World}{g:Nat}{cs:List Value}(h:Tab w g cs)(i:Nat):w.cell? ⟨g,i,none⟩=cs[i]? :=by
 obtain⟨t,h⟩:=h
 simp [World.cell?,h]
def Tabs(P:Program)(w:World):List (String×DataW Unit)->Prop
 | []=>True
 |(n,d) :: r=>(∀g,P.globalNamed n=some g->Tab w g (flat d))/\Tabs P w r
def tabOk(P:Program)(x:String×DataW Unit):Bool:=
 match(P.globalNamed x.1).bind fun g=>(P.globals[g]?).map (·.type)with
 |some t=>plainTy P 5 t&& !(flat x.2).isEmpty
 |none=>false
theorem tabs_of_laidVars{P:Program}{w:World}:∀ (l:List (String×DataW Unit)) (ps:List MemPlace),l.all (tabOk P)=true->DataW.LaidVars P w l ps->
  (∀b off,MemPlace.cell b off∈ps->∃c t,w.heap[b]? =some (.cells c t (0,0)))->Tabs P w l
 | [],_,_,_,_=>trivial
 | (n,d) :: r,ps,hok,h,hm=>by
  obtain⟨g,t,cs,fuel,p,q,hg,ht,hv,hd,hr,rfl⟩:=h
  rw [List.all_cons,Bool.and_eq_true]at hok
  refine⟨fun g' hg'=> ?_,tabs_of_laidVars r q hok.2 hr (fun b off hb=>hm b off (by simp [hb]))⟩
  obtain rfl:=Option.some.inj (hg.symm.trans hg')
  have h1:=hok.1
  unfold tabOk at h1
  simp only [hg,Option.bind_some,ht,Bool.and_eq_true]at h1
  have hc:=flat_of_trod 5 fuel t cs.toList (d,p) h1.1 hd
  have hne:0<cs.size:=by
   rcases Nat.eq_zero_or_pos cs.size with h0|h0
   ·have:cs.toList= []:=List.eq_nil_of_length_eq_zero (by simpa using h0)
    rw [this]at hc
    simp only at hc
    rw [←hc]at h1
    simp at h1
   ·exact h0
  obtain⟨c,t',hb⟩:=hm g 0 (by
   apply List.mem_append_left
   apply List.mem_append_left
   simp [MemPlace.row,hne])
  simp only [World.var?,hg,Option.bind_some,hb,Option.some.injEq]at hv
  subst hv
  exact⟨t',by rw [hb,←hc]⟩
theorem tabs_of_laid{P:Program}{w:World}{l:List (String×DataW Unit)}(hok:l.all (tabOk P)=true)(hh:(l.all fun x=>x.2.handleName?.isNone)=true)(h:laidMetH P l w):Tabs P w l:=by
 rw [MakeChecks.laidMetH_plain _ _ _ hh]at h
 obtain⟨ps,h1,_,h3⟩:=h
 exact tabs_of_laidVars l ps hok h1 (fun b off hb=>(h3 b off hb).1)
end
section
open Go.ChangeShapes Go.WideShapes Go.ChangeAt Go.RowKit
theorem news_at(w:World)(cs:Array Value)(t g:Nat)(hg:g=w.heap.size):∀j u,cs.toList[j]? =some u->(w.alloc (.cells cs t)).cell? ((⟨g,0,none⟩:Addr).add j)=some u:=by
 subst hg
 exact World.news_of_block (heap_alloc_new w _)
theorem bgrown{w a b:World}{row:Option Nat}(h:Below w.heap.size w a)(hg:a.grownBy b row)(hr:∀k,row=some k->w.heap.size<=k):Below w.heap.size w b:=h.grown hg h.size hr
end
section
open Go.RowKit
section
variable {P:Program} {W:World}
theorem class_all(q:Prop):(∀x,Below W.heap.size W x->q)=q:=propext ⟨fun h=>h W (Below.refl _ _),fun h _ _=>h⟩
theorem settleC{f:FuncId}{args:Array Value}{R:Ending->World->Prop}{w:World}(F:World->Prop)(h:F w)(k:∀x,F x->Calls P f args x R):Calls P f args w R:=k w h
theorem class_self(w:World):Below w.heap.size w {w with drawn:=w.drawn+1}:=⟨rfl,rfl,rfl,Nat.le_refl _,fun _ _=>rfl⟩
theorem wp_region_class{id:Nat}{Q:Exit->Act->World->Prop}{a:Act}{l:List Oper}(hm:P.follows .mixedOrders=true)(hB:Region.lexB .any l.toArray=true)
  (h:(∀q:Prop,(∀x,Below W.heap.size W x->q)=q)->wpQuiet P l.toArray (Below W.heap.size W) (fun a'=>∀x,Below W.heap.size W x->Q .normal a' x) l a):(Code.region id l.toArray true).wp P Q a W:=
 wp_region_quiet (C:=Below W.heap.size W) hm hB (class_self W) (by simpa using h class_all)
theorem settle{c:Code}{Q:Exit->Act->World->Prop}{a:Act}{w:World}(F:World->Prop)(h:F w)(k:∀x,F x->c.wp P Q a x):c.wp P Q a w:=k w h
theorem class_cell{x:World}(hx:Below W.heap.size W x){p:Addr}(hp:p.block<W.heap.size):x.cell? p=W.cell? p:=hx.cell hp
theorem quiet_load1{o:Oper}{a:Act}{K:Act->Prop}(t:TypeId)(y:Operand)(p:Addr)(ho:o.op= .load t y)(hp:a.eval y= .pointer (some p))(hag:∀w:World,(isAgg t).run P w= .ok false w)
  (hb:p.block<W.heap.size) (h:∃v,W.cell? p=some v/\K (a.put o.dst v)):o.quiet P a (Below W.heap.size W) K:=by
 obtain⟨v,hv,hk⟩:=h
 refine⟨v,fun x hx=> ?_,hk⟩
 unfold Oper.quietAt
 have e:(execOp a.eval o).run P x= .ok (.value v) x:=by
  have hc:=(class_cell hx hb).trans hv
  unfold execOp
  simp only [ho,hp,Instr.loadAt,Instr.sureAddr,Sem.run_bind,Sem.run_pure,Result.andThen_ok,loadVar,hag x,Bool.false_eq_true,if_false,run_load,hc]
 rw [e]
 exact⟨rfl,rfl⟩
theorem quiet_loads{o:Oper}{a:Act}{K:Act->Prop}(t:TypeId)(y:Operand)(b off:Nat)(cs:List Value)(ho:o.op= .load t y)(hp:a.eval y= .pointer (some ⟨b,off,none⟩))(hag:∀w:World,(isAgg t).run P w= .ok true w)
  (hs:∀w:World,(sizeOf t).run P w= .ok cs.length w) (hc:∀ (j:Nat) u,cs[j]? =some u->W.cell? ⟨b,off+j,none⟩=some u) (hb:b<W.heap.size) (hk:K (a.put o.dst (.agg cs.toArray))):o.quiet P a (Below W.heap.size W) K:=by
 refine⟨.agg cs.toArray,fun x hx=> ?_,hk⟩
 unfold Oper.quietAt
 have e:(execOp a.eval o).run P x= .ok (.value (.agg cs.toArray)) x:=by
  have hl:=run_loadCells_list (P:=P) x ⟨b,off,none⟩ cs (fun j u hu=>by
   have h1:(⟨b,off,none⟩:Addr).add j=⟨b,off+j,none⟩:=by unfold Addr.add;split <;> simp_all
   rw [h1]
   exact(hx.cell (p:=⟨b,off+j,none⟩) hb).trans (hc j u hu))
  unfold execOp
  simp only [ho,hp,Instr.loadAt,Instr.sureAddr,Sem.run_bind,Sem.run_pure,Result.andThen_ok,loadVar,hag x,if_true,hs x,hl]
 rw [e]
 exact⟨rfl,rfl⟩
theorem quiet_load2{o:Oper}{a:Act}{K:Act->Prop}(t:TypeId)(y:Operand)(b off:Nat)(ho:o.op= .load t y)(hp:a.eval y= .pointer (some ⟨b,off,none⟩))(hag:∀w:World,(isAgg t).run P w= .ok true w)
  (hs:∀w:World,(sizeOf t).run P w= .ok 2 w) (hb:b<W.heap.size) (h:∃v0 v1,W.cell? ⟨b,off,none⟩=some v0/\W.cell? ⟨b,off+1,none⟩=some v1/\K (a.put o.dst (.agg #[v0,v1]))):o.quiet P a (Below W.heap.size W) K:=
 let ⟨v0,v1,h0,h1,hk⟩:=h
 quiet_loads t y b off [v0,v1] ho hp hag hs (fun j u hu=>by
  match j,hu with
  |0,hu=>simp at hu;subst hu;exact h0
  |1,hu=>simp at hu;subst hu;exact h1) hb hk
theorem quiet_load3{o:Oper}{a:Act}{K:Act->Prop}(t:TypeId)(y:Operand)(b off:Nat)(ho:o.op= .load t y)(hp:a.eval y= .pointer (some ⟨b,off,none⟩))(hag:∀w:World,(isAgg t).run P w= .ok true w)
  (hs:∀w:World,(sizeOf t).run P w= .ok 3 w) (hb:b<W.heap.size) (h:∃v0 v1 v2,W.cell? ⟨b,off,none⟩=some v0/\W.cell? ⟨b,off+1,none⟩=some v1/\W.cell? ⟨b,off+2,none⟩=some v2/\K (a.put o.dst (.agg #[v0,v1,v2]))):o.quiet P a (Below W.heap.size W) K:=
 let ⟨v0,v1,v2,h0,h1,h2,hk⟩:=h
 quiet_loads t y b off [v0,v1,v2] ho hp hag hs (fun j u hu=>by
  match j,hu with
  |0,hu=>simp at hu;subst hu;exact h0
  |1,hu=>simp at hu;subst hu;exact h1
  |2,hu=>simp at hu;subst hu;exact h2) hb hk
theorem quiet_load4{o:Oper}{a:Act}{K:Act->Prop}(t:TypeId)(y:Operand)(b off:Nat)(ho:o.op= .load t y)(hp:a.eval y= .pointer (some ⟨b,off,none⟩))(hag:∀w:World,(isAgg t).run P w= .ok true w)
  (hs:∀w:World,(sizeOf t).run P w= .ok 4 w) (hb:b<W.heap.size) (h:∃v0 v1 v2 v3,W.cell? ⟨b,off,none⟩=some v0/\W.cell? ⟨b,off+1,none⟩=some v1/\W.cell? ⟨b,off+2,none⟩=some v2/\W.cell? ⟨b,off+3,none⟩=some v3/\K (a.put o.dst (.agg #[v0,v1,v2,v3]))):o.quiet P a (Below W.heap.size W) K:=
 let ⟨v0,v1,v2,v3,h0,h1,h2,h3,hk⟩:=h
 quiet_loads t y b off [v0,v1,v2,v3] ho hp hag hs (fun j u hu=>by
  match j,hu with
  |0,hu=>simp at hu;subst hu;exact h0
  |1,hu=>simp at hu;subst hu;exact h1
  |2,hu=>simp at hu;subst hu;exact h2
  |3,hu=>simp at hu;subst hu;exact h3) hb hk
theorem bdrew{a b:World}(h:Below a.heap.size a b):Below a.heap.size a b.drew:=h.drew
theorem call_below{f:FuncId}{args:Array Value}{x:World}{v:Value}(hx:Below W.heap.size W x)
  (c:Calls P f args x fun e w'=>e= .returned v/\Below x.heap.size x w'):Calls P f args x fun e w'=>e= .returned v/\Below W.heap.size W w':=
 c.mono fun _ _ h=>⟨h.1,hx.trans (h.2.mono hx.size)⟩
end
end
section
open Go.ChangeShapes Go.WideShapes Go.ChangeAt Go.RowKit
theorem cso{w:World}{a b:Addr}{v:Value}(h:a≠b:=by simp):(w.setCell a v).cell? b=w.cell? b:=World.cell?_setCell_other _ _ _ _ h
theorem bel{B:Nat}{a b:World}(h:Below B a b:=by repeat(first|(with_reducible exact Below.refl _ _)|(with_reducible assumption)|(with_reducible refine bdrew ?_)|(with_reducible refine baa ?_ _)|(with_reducible refine bs ?_ (by first|exact Nat.le_refl _|omega|(simp;done)|(simp;omega)) _)|(with_reducible refine bt ?_ (by with_reducible assumption)))):Below B a b:=h
theorem cel{W w':World}{b o:Nat}{v:Value}(hc:∀b o,b<W.heap.size->w'.cell? ⟨b,o,none⟩=W.cell? ⟨b,o,none⟩)(h1:b<W.heap.size:=by first|omega|(simp;done)|(simp;omega))(h2:W.cell? ⟨b,o,none⟩=some v:=by first|(with_reducible assumption)|(simp [go_sem];done)|(simp [go_sem, *];done)|assumption):w'.cell? ⟨b,o,none⟩=some v:=(hc b o h1).trans h2
theorem celB{W w':World}{b o:Nat}{v:Value}(hc:∀b o,b<W.heap.size->w'.cell? ⟨b,o,none⟩=W.cell? ⟨b,o,none⟩)(h1:b<W.heap.size:=by first|omega|(simp;done)|(simp;omega))(h2:W.cell? ⟨b,o,none⟩=some v:=by first|assumption|(simp [go_sem];done)|(simp [go_sem, *];done)):w'.cell? ⟨b,o,none⟩=some v:=(hc b o h1).trans h2
end
end Go.Proofs.YthpipedifekmpaaGreatDoor
