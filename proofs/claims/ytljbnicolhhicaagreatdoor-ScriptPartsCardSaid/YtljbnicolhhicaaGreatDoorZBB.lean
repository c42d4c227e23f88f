import Derived.Test.YtljbnicolhhicaaGreatDoorZLA
import Derived.Lib.SmallJoins
import Derived.LaidMore
import Derived.Deep.AppendLies
import Derived.BigCall
set_option maxHeartbeats 8000000
set_option maxRecDepth 100000
set_option linter.unusedVariables false
namespace Go.Proofs.YtljbnicolhhicaaGreatDoor
open Go.ChangeShapes Go.WideShapes Go.ChangeAt Go.RowKit Go.Joins
section
variable {H:Type} {enc:TypeId×Value->H} {P:Program} {w:World} {base:Nat} {spare:Nat->Bool} {held:Bool}
theorem ace{fuel:Nat}{t:TypeId}{cs:List Value}{x:DataW H×List MemPlace}{fs:Array Field}(ht:P.underlying t=some (.struct fs))(h:DataW.trod enc P w base spare held fuel t cs=some x)(i:Nat)(f:Field)(hf:fs[i]? =some f):
  ∃m y,DataW.trod enc P w base spare held m f.type ((cs.drop f.offset).take (P.cellsOf f.type))=some y:=by
 obtain⟨xs,n,_,_,_,hl,hg⟩:=DataW.trod_struct ht h
 have:=hg i f hf
 have hi:i<xs.length:=by
  rw [hl]
  exact(Array.getElem?_eq_some_iff.1 hf).1
 rw [List.getElem?_eq_getElem hi]at this
 exact⟨n,_,this⟩
end
mutual
def flat:DataW Unit->List Value
 | .lit (.int k n)=> [.int k n]
 | .lit (.bool b)=> [.bool b]
 | .lit (.string s)=> [.string ⟨s.toArray⟩]
 | .agg ps=>flatAll ps
 |_=> []
def flatAll:List (DataW Unit)->List Value
 | []=> []
 |d :: ds=>flat d++flatAll ds
end
def acs(P:Program):Nat->List Field->Option Nat
 |o,[]=>some o
 |o,f :: fs=>if f.offset=o then acs P (o+P.cellsOf f.type) fs else none
def ach(P:Program):Nat->TypeId->Bool
 |0,_=>false
 |n+1,t=>match P.underlying t with
  |some (.int _)=>true
  |some .bool=>true
  |some .string=>true
  |some (.array k e)=>ach P n e&&decide (P.cellsOf t=k*P.cellsOf e)
  |some (.struct fs)=>fs.toList.all (fun f=>ach P n f.type)&&decide (acs P 0 fs.toList=some (P.cellsOf t))
  |_=>false
theorem aci(c:Nat):∀ (xs:List (DataW Unit×List MemPlace)) (cs:List Value),cs.length=xs.length*c->(∀i x,xs[i]? =some x->(cs.drop (i*c)).take c=flat x.1)->cs=flatAll (xs.map (·.1))
 | [],cs,hl,_=>by
  have:cs= []:=List.eq_nil_of_length_eq_zero (by simpa using hl)
  subst this
  rfl
 | x :: xs,cs,hl,h=>by
  have h0:=h 0 x rfl
  simp only [Nat.zero_mul,List.drop_zero]at h0
  have hr:=aci c xs (cs.drop c) (by rw [List.length_drop,hl,List.length_cons,Nat.succ_mul];omega) (fun i y hy=>by
   have:=h (i+1) y (by simpa using hy)
   rwa [List.drop_drop,Nat.add_comm c,←Nat.succ_mul])
  show cs=flat x.1++flatAll (xs.map (·.1))
  rw [←h0,←hr,List.take_append_drop]
theorem acn(P:Program):∀ (fs:List Field) (xs:List (DataW Unit×List MemPlace)) (o e:Nat) (cs:List Value),acs P o fs=some e->cs.length=e->xs.length=fs.length->
  (∀ (i:Nat) f x,fs[i]? =some f->xs[i]? =some x->(cs.drop f.offset).take (P.cellsOf f.type)=flat x.1)->cs.drop o=flatAll (xs.map (·.1))
 | [],xs,o,e,cs,ho,hl,hn,_=>by
  have hx:xs= []:=List.eq_nil_of_length_eq_zero (by simpa using hn)
  subst hx
  simp only [acs,Option.some.injEq]at ho
  subst ho
  rw [List.drop_eq_nil_of_le vO]
  rfl
 |f :: fs,[],_,_,_,_,_,hn,_=>by simp at hn
 | f :: fs,x :: xs,o,e,cs,ho,hl,hn,h=>by
  simp only [acs]at ho
  split at ho
  ·rename_i hf
   have h0:=h 0 f x rfl rfl
   rw [hf]at h0
   have hr:=acn P fs xs _ e cs ho hl (by simpa using hn) (fun i g y hg hy=>h (i+1) g y (by simpa using hg) (by simpa using hy))
   show cs.drop o=flat x.1++flatAll (xs.map (·.1))
   rw [←h0,←hr,←List.drop_drop,List.take_append_drop]
  ·cases ho
theorem acg{P:Program}{w:World}{base:Nat}{sp:Nat->Bool}{held:Bool}{enc:TypeId×Value->Unit}:∀ (n fuel:Nat) (t:TypeId) (cs:List Value) (x:DataW Unit×List MemPlace),ach P n t=true->DataW.trod enc P w base sp held fuel t cs=some x->cs=flat x.1
 |0,_,_,_,_,hp,_=>by simp [ach]at hp
 | n+1,fuel,t,cs,x,hp,h=>by
  simp only [ach]at hp
  split at hp
  ·rename_i k hu
   obtain⟨z,rfl,rfl,_⟩:=DataW.trod_int hu h
   rfl
  ·rename_i hu
   obtain⟨z,rfl,rfl⟩:=DataW.trod_bool hu h
   rfl
  ·rename_i hu
   obtain⟨z,rfl,rfl,_⟩:=DataW.trod_string hu h
   rfl
  ·rename_i k e hu
   rw [Bool.and_eq_true,decide_eq_true_eq]at hp
   obtain⟨xs,m,_,rfl,hl,hn,hg⟩:=DataW.trod_array hu h
   refine aci (P.cellsOf e) xs cs (by rw [hl,hp.2,hn]) (fun i y hy=> ?_)
   have hi:i<k:=by rw [←hn];exact(List.getElem?_eq_some_iff.1 hy).1
   exact acg n m e _ y hp.1 ((hg i hi).trans hy)
  ·rename_i fs hu
   rw [Bool.and_eq_true,decide_eq_true_eq]at hp
   obtain⟨xs,m,_,rfl,hl,hn,hg⟩:=DataW.trod_struct hu h
   have:=acn P fs.toList xs 0 _ cs hp.2 hl (by simpa using hn) (fun i f y hf hy=>
    acg n m f.type _ y (List.all_eq_true.1 hp.1 f (List.mem_of_getElem? hf)) ((hg i f (by simpa using hf)).trans hy))
   rw [List.drop_zero]at this
   exact this
  ·cases hp
def Tab(w:World)(g:Nat)(cs:List Value):Prop:=∃t,w.1[g]? =some (.cells cs.toArray t (0,0))
theorem Tab.lt{w:World}{g:Nat}{cs:List Value}(h:Tab w g cs):g<w.1.size:=by
 obtain⟨t,h⟩:=h
 exact(Array.getElem?_eq_some_iff.1 h).1
theorem Tab.below{a b:World}{g:Nat}{cs:List Value}(h:Tab a g cs)(hb:Below a.1.size a b):Tab b g cs:=by
 have hl:=h.lt
 obtain⟨t,h⟩:=h
 exact⟨t,(hb.block g hl).trans h⟩
theorem Tab.cell{w:World}{g:Nat}{cs:List Value}(h:Tab w g cs)(i:Nat):w.cell? ⟨g,i,none⟩=cs[i]? :=by
 obtain⟨t,h⟩:=h
 simp [World.cell?,h]
def Tabs(P:Program)(w:World):List (String×DataW Unit)->Prop
 | []=>True
 |(n,d) :: r=>(∀g,P.globalNamed n=some g->Tab w g (flat d))/\Tabs P w r
def acB(P:Program)(x:String×DataW Unit):Bool:=
 match(P.globalNamed x.1).bind fun g=>(P.globals[g]?).map (·.type)with
 |some t=>ach P 5 t&& !(flat x.2).isEmpty
 |none=>false
theorem acf{P:Program}{w:World}:∀ (l:List (String×DataW Unit)) (ps:List MemPlace),l.all (acB P)=true->DataW.LaidVars P w l ps->
  (∀b off,MemPlace.cell b off∈ps->∃c t,w.1[b]? =some (.cells c t (0,0)))->Tabs P w l
 | [],_,_,_,_=>trivial
 | (n,d) :: r,ps,hok,h,hm=>by
  obtain⟨g,t,cs,fuel,p,q,hg,ht,hv,hd,hr,rfl⟩:=h
  rw [List.all_cons,Bool.and_eq_true]at hok
  refine⟨fun g' hg'=> ?_,acf r q hok.2 hr (fun b off hb=>hm b off (by simp [hb]))⟩
  obtain rfl:=Option.some.inj (hg.symm.trans hg')
  have h1:=hok.1
  unfold acB at h1
  simp only [hg,Option.bind_some,ht,Bool.and_eq_true]at h1
  have hc:=acg 5 fuel t cs.toList (d,p) h1.1 hd
  have hne:0<cs.size:=by
   rcases Nat.eq_zero_or_pos cs.size with h0|h0
   ·have:cs.toList= []:=List.eq_nil_of_length_eq_zero (by simpa using h0)
    rw [this]at hc
    simp only at hc
    rw [←hc]at h1
    simp at h1
   ·exact h0
  obtain⟨c,t',hb⟩:=hm g 0 (by
   apply List.mem_append_left
   apply List.mem_append_left
   simp [MemPlace.row,hne])
  simp only [World.var?,hg,Option.bind_some,hb,Option.some.injEq]at hv
  subst hv
  exact⟨t',by rw [hb,←hc]⟩
theorem tabs_of_laid{P:Program}{w:World}{l:List (String×DataW Unit)}(hok:l.all (acB P)=true)(hh:(l.all fun x=>x.2.handleName?.isNone)=true)(h:laidMetH P l w):Tabs P w l:=by
 rw [MakeChecks.laidMetH_plain _ _ _ hh]at h
 obtain⟨ps,h1,_,h3⟩:=h
 exact acf l ps hok h1 (fun b off hb=>(h3 b off hb).1)
theorem CO(w:World)(cs:Array Value)(t g:Nat)(hg:g=w.1.size):∀j u,cs.toList[j]? =some u->(w.alloc (.cells cs t)).cell? ((⟨g,0,none⟩:Addr).add j)=some u:=by
 subst hg
 exact World.news_of_block (heap_alloc_new w _)
theorem oG{w a b:World}{row:Option Nat}(h:Below w.1.size w a)(hg:a.grownBy b row)(hr:∀k,row=some k->w.1.size<=k):Below w.1.size w b:=h.grown hg h.size hr
section
variable {P:Program} {W:World}
theorem Lv(q:Prop):(∀x,Below W.1.size W x->q)=q:=propext ⟨fun h=>h W (Below.refl _ _),fun h _ _=>h⟩
theorem bH{f:FuncId}{args:Array Value}{R:Ending->World->Prop}{w:World}(F:World->Prop)(h:F w)(k:∀x,F x->Calls P f args x R):Calls P f args w R:=k w h
theorem JN(w:World):Below w.1.size w {w with drawn:=w.drawn+1}:=⟨rfl,rfl,rfl,Nat.le_refl _,fun _ _=>rfl⟩
theorem bP{id:Nat}{Q:Exit->Act->World->Prop}{a:Act}{l:List Oper}(hm:P.follows .mixedOrders=true)(hB:Region.lexB .any l.toArray=true)
  (h:(∀q:Prop,(∀x,Below W.1.size W x->q)=q)->wpQuiet P l.toArray (Below W.1.size W) (fun a'=>∀x,Below W.1.size W x->Q .normal a' x) l a):(Code.region id l.toArray true).wp P Q a W:=
 wp_region_quiet (C:=Below W.1.size W) hm hB (JN W) (by simpa using h Lv)
theorem settle{c:Code}{Q:Exit->Act->World->Prop}{a:Act}{w:World}(F:World->Prop)(h:F w)(k:∀x,F x->c.wp P Q a x):c.wp P Q a w:=k w h
theorem TU{x:World}(hx:Below W.1.size W x){p:Addr}(hp:p.block<W.1.size):x.cell? p=W.cell? p:=hx.cell hp
theorem dJ{o:Oper}{a:Act}{K:Act->Prop}(t:TypeId)(y:Operand)(p:Addr)(ho:o.op= .load t y)(hp:a.eval y= .pointer (some p))(hag:∀w:World,(isAgg t).run P w= .ok false w)
  (hb:p.block<W.1.size) (h:∃v,W.cell? p=some v/\K (a.put o.dst v)):o.quiet P a (Below W.1.size W) K:=by
 obtain⟨v,hv,hk⟩:=h
 refine⟨v,fun x hx=> ?_,hk⟩
 unfold Oper.quietAt
 have e:(execOp a.eval o).run P x= .ok (.value v) x:=by
  have hc:=(TU hx hb).trans hv
  unfold execOp
  simp only [ho,hp,Instr.loadAt,Instr.sureAddr,Sem.run_bind,Sem.run_pure,Result.andThen_ok,loadVar,hag x,Bool.false_eq_true,if_false,run_load,hc]
 rw [e]
 exact⟨rfl,rfl⟩
theorem zF{o:Oper}{a:Act}{K:Act->Prop}(t:TypeId)(y:Operand)(b off:Nat)(cs:List Value)(ho:o.op= .load t y)(hp:a.eval y= .pointer (some ⟨b,off,none⟩))(hag:∀w:World,(isAgg t).run P w= .ok true w)
  (hs:∀w:World,(sizeOf t).run P w= .ok cs.length w) (hc:∀ (j:Nat) u,cs[j]? =some u->W.cell? ⟨b,off+j,none⟩=some u) (hb:b<W.1.size) (hk:K (a.put o.dst (.agg cs.toArray))):o.quiet P a (Below W.1.size W) K:=by
 refine⟨.agg cs.toArray,fun x hx=> ?_,hk⟩
 unfold Oper.quietAt
 have e:(execOp a.eval o).run P x= .ok (.value (.agg cs.toArray)) x:=by
  have hl:=run_loadCells_list (P:=P) x ⟨b,off,none⟩ cs (fun j u hu=>by
   have h1:(⟨b,off,none⟩:Addr).add j=⟨b,off+j,none⟩:=by unfold Addr.add;split <;> simp_all
   rw [h1]
   exact(hx.cell (p:=⟨b,off+j,none⟩) hb).trans (hc j u hu))
  unfold execOp
  simp only [ho,hp,Instr.loadAt,Instr.sureAddr,Sem.run_bind,Sem.run_pure,Result.andThen_ok,loadVar,hag x,if_true,hs x,hl]
 rw [e]
 exact⟨rfl,rfl⟩
theorem dF{o:Oper}{a:Act}{K:Act->Prop}(t:TypeId)(y:Operand)(b off:Nat)(ho:o.op= .load t y)(hp:a.eval y= .pointer (some ⟨b,off,none⟩))(hag:∀w:World,(isAgg t).run P w= .ok true w)
  (hs:∀w:World,(sizeOf t).run P w= .ok 2 w) (hb:b<W.1.size) (h:∃v0 v1,W.cell? ⟨b,off,none⟩=some v0/\W.cell? ⟨b,off+1,none⟩=some v1/\K (a.put o.dst (.agg #[v0,v1]))):o.quiet P a (Below W.1.size W) K:=
 let ⟨v0,v1,h0,h1,hk⟩:=h
 zF t y b off [v0,v1] ho hp hag hs (fun j u hu=>by
  match j,hu with
  |0,hu=>simp at hu;subst hu;exact h0
  |1,hu=>simp at hu;subst hu;exact h1) hb hk
theorem dB{o:Oper}{a:Act}{K:Act->Prop}(t:TypeId)(y:Operand)(b off:Nat)(ho:o.op= .load t y)(hp:a.eval y= .pointer (some ⟨b,off,none⟩))(hag:∀w:World,(isAgg t).run P w= .ok true w)
  (hs:∀w:World,(sizeOf t).run P w= .ok 3 w) (hb:b<W.1.size) (h:∃v0 v1 v2,W.cell? ⟨b,off,none⟩=some v0/\W.cell? ⟨b,off+1,none⟩=some v1/\W.cell? ⟨b,off+2,none⟩=some v2/\K (a.put o.dst (.agg #[v0,v1,v2]))):o.quiet P a (Below W.1.size W) K:=
 let ⟨v0,v1,v2,h0,h1,h2,hk⟩:=h
 zF t y b off [v0,v1,v2] ho hp hag hs (fun j u hu=>by
  match j,hu with
  |0,hu=>simp at hu;subst hu;exact h0
  |1,hu=>simp at hu;subst hu;exact h1
  |2,hu=>simp at hu;subst hu;exact h2) hb hk
theorem dK{o:Oper}{a:Act}{K:Act->Prop}(t:TypeId)(y:Operand)(b off:Nat)(ho:o.op= .load t y)(hp:a.eval y= .pointer (some ⟨b,off,none⟩))(hag:∀w:World,(isAgg t).run P w= .ok true w)
  (hs:∀w:World,(sizeOf t).run P w= .ok 4 w) (hb:b<W.1.size) (h:∃v0 v1 v2 v3,W.cell? ⟨b,off,none⟩=some v0/\W.cell? ⟨b,off+1,none⟩=some v1/\W.cell? ⟨b,off+2,none⟩=some v2/\W.cell? ⟨b,off+3,none⟩=some v3/\K (a.put o.dst (.agg #[v0,v1,v2,v3]))):o.quiet P a (Below W.1.size W) K:=
 let ⟨v0,v1,v2,v3,h0,h1,h2,h3,hk⟩:=h
 zF t y b off [v0,v1,v2,v3] ho hp hag hs (fun j u hu=>by
  match j,hu with
  |0,hu=>simp at hu;subst hu;exact h0
  |1,hu=>simp at hu;subst hu;exact h1
  |2,hu=>simp at hu;subst hu;exact h2
  |3,hu=>simp at hu;subst hu;exact h3) hb hk
theorem ql1 {o : Oper} {a : Act} {K : Act → Prop} (t : TypeId) (y : Operand) (p : Addr) (ho : o.op = .load t y) (hp : a.eval y = .pointer (some p)) (h : ∃ v, W.cell? p = some v ∧ K (a.put o.dst v)) (hag : ∀ w : World, (isAgg t).run P w = .ok false w := by intro _; first | (simp; done) | fail)
 (hb : p.block < W.1.size := by first | assumption | omega | (simp; done) | (simp; omega)) : o.quiet P a (Below W.1.size W) K := dJ t y p ho hp hag hb h
theorem ql2 {o : Oper} {a : Act} {K : Act → Prop} (t : TypeId) (y : Operand) (b off : Nat) (ho : o.op = .load t y) (hp : a.eval y = .pointer (some ⟨b, off, none⟩)) (h : ∃ v0 v1, W.cell? ⟨b, off, none⟩ = some v0 ∧ W.cell? ⟨b, off + 1, none⟩ = some v1 ∧ K (a.put o.dst (.agg #[v0, v1]))) (hag : ∀ w : World, (isAgg t).run P w = .ok true w := by intro _; first | (simp; done) | fail)
 (hs : ∀ w : World, (sizeOf t).run P w = .ok 2 w := by intro _; first | (simp; done) | fail) (hb : b < W.1.size := by first | assumption | omega | (simp; done) | (simp; omega)) : o.quiet P a (Below W.1.size W) K := dF t y b off ho hp hag hs hb h
theorem ql3 {o : Oper} {a : Act} {K : Act → Prop} (t : TypeId) (y : Operand) (b off : Nat) (ho : o.op = .load t y) (hp : a.eval y = .pointer (some ⟨b, off, none⟩)) (h : ∃ v0 v1 v2, W.cell? ⟨b, off, none⟩ = some v0 ∧ W.cell? ⟨b, off + 1, none⟩ = some v1 ∧ W.cell? ⟨b, off + 2, none⟩ = some v2 ∧ K (a.put o.dst (.agg #[v0, v1, v2]))) (hag : ∀ w : World, (isAgg t).run P w = .ok true w := by intro _; first | (simp; done) | fail)
 (hs : ∀ w : World, (sizeOf t).run P w = .ok 3 w := by intro _; first | (simp; done) | fail) (hb : b < W.1.size := by first | assumption | omega | (simp; done) | (simp; omega)) : o.quiet P a (Below W.1.size W) K := dB t y b off ho hp hag hs hb h
theorem ql4 {o : Oper} {a : Act} {K : Act → Prop} (t : TypeId) (y : Operand) (b off : Nat) (ho : o.op = .load t y) (hp : a.eval y = .pointer (some ⟨b, off, none⟩)) (h : ∃ v0 v1 v2 v3, W.cell? ⟨b, off, none⟩ = some v0 ∧ W.cell? ⟨b, off + 1, none⟩ = some v1 ∧ W.cell? ⟨b, off + 2, none⟩ = some v2 ∧ W.cell? ⟨b, off + 3, none⟩ = some v3 ∧ K (a.put o.dst (.agg #[v0, v1, v2, v3]))) (hag : ∀ w : World, (isAgg t).run P w = .ok true w := by intro _; first | (simp; done) | fail)
 (hs : ∀ w : World, (sizeOf t).run P w = .ok 4 w := by intro _; first | (simp; done) | fail) (hb : b < W.1.size := by first | assumption | omega | (simp; done) | (simp; omega)) : o.quiet P a (Below W.1.size W) K := dK t y b off ho hp hag hs hb h
theorem aT{a b:World}(h:Below a.1.size a b):Below a.1.size a b.drew:=h.drew
theorem dn{f:FuncId}{args:Array Value}{x:World}{v:Value}(hx:Below W.1.size W x)
  (c:Calls P f args x fun e w'=>e= .returned v/\Below x.1.size x w'):Calls P f args x fun e w'=>e= .returned v/\Below W.1.size W w':=
 c.mono fun _ _ h=>⟨h.1,hx.trans (h.2.mono hx.size)⟩
theorem jK{f:FuncId}{args:Array Value}{x:World}{v:Value}(hx:Below W.1.size W x)
  (c:Calls P f args x fun e w'=>e= .returned v/\x=w'):Calls P f args x fun e w'=>e= .returned v/\Below W.1.size W w':=
 c.mono fun _ _ h=>⟨h.1,h.2▸hx⟩
end
theorem cso{w:World}{a b:Addr}{v:Value}(h:a≠b:=by simp):(w.setCell a v).cell? b=w.cell? b:=World.cell?_setCell_other _ _ _ _ h
theorem bem{B:Nat}{a b:World}(h:Below B a b:=by repeat(first|exact Below.refl _ _|assumption|(with_reducible refine aT ?_)|(with_reducible refine baa ?_ _)|(with_reducible refine bs ?_ (by first|exact Nat.le_refl _|omega|(simp;done)|(simp;omega)) _)|(with_reducible refine bt ?_ tQ))):Below B a b:=h
theorem ben{B:Nat}{a b:World}(h:Below B a b:=by repeat(first|(with_reducible exact Below.refl _ _)|(with_reducible assumption)|(with_reducible refine aT ?_)|(with_reducible refine baa ?_ _)|(with_reducible refine bs ?_ (by first|exact Nat.le_refl _|omega|(simp;omega)) _)|(with_reducible refine bt ?_ (by with_reducible assumption)))):Below B a b:=h
theorem beo{B:Nat}{a b:World}(h:Below B a b:=by repeat(first|exact Below.refl _ _|assumption|(with_reducible refine aT ?_)|(with_reducible refine baa ?_ _)|(with_reducible refine bs ?_ (by first|exact Nat.le_refl _|omega|(simp;omega)) _)|(with_reducible refine bt ?_ tQ))):Below B a b:=h
theorem beq4{B:Nat}{a b:World}(h:Below B a b:=by repeat(first|(with_reducible assumption)|(with_reducible exact Below.refl _ _)|(with_reducible refine aT ?_)|(with_reducible refine baa ?_ _))):Below B a b:=h
theorem fro{W w':World}{b o:Nat}(hc:∀b o,b<W.1.size->w'.frozen? ⟨b,o,none⟩=W.frozen? ⟨b,o,none⟩)(h1:b<W.1.size:=by first|omega|(simp;done)|(simp;omega))(h2:W.frozen? ⟨b,o,none⟩=false:=by first|(with_reducible assumption)|(simp [go_sem];done)|(simp [go_sem, *];done)):w'.frozen? ⟨b,o,none⟩=false:=(hc b o h1).trans h2
theorem ce4{W w':World}(hc:∀b o,b<W.1.size->w'.cell? ⟨b,o,none⟩=W.cell? ⟨b,o,none⟩)(b:Nat)(a0:Int)(a1:Int)(a2:Bool)(a3:Int)(h:b<W.1.size:=by first|omega|(simp;done)|(simp;omega))(h0:W.cell? ⟨b,0,none⟩=some (a0:vV):=by first|(with_reducible assumption)|(simp [go_sem];done)|(simp [go_sem, *];done)|assumption)(h1:W.cell? ⟨b,1,none⟩=some (a1:vV):=by first|(with_reducible assumption)|(simp [go_sem];done)|(simp [go_sem, *];done)|assumption)(h2:W.cell? ⟨b,2,none⟩=some (.bool a2):=by first|(with_reducible assumption)|(simp [go_sem];done)|(simp [go_sem, *];done)|assumption)(h3:W.cell? ⟨b,3,none⟩=some (a3:vV):=by first|(with_reducible assumption)|(simp [go_sem];done)|(simp [go_sem, *];done)|assumption):w'.cell? ⟨b,0,none⟩=some (a0:vV)/\w'.cell? ⟨b,1,none⟩=some (a1:vV)/\w'.cell? ⟨b,2,none⟩=some (.bool a2)/\w'.cell? ⟨b,3,none⟩=some (a3:vV):=⟨(hc b 0 h).trans h0,(hc b 1 h).trans h1,(hc b 2 h).trans h2,(hc b 3 h).trans h3⟩
theorem ce5{W w':World}(hc:∀b o,b<W.1.size->w'.cell? ⟨b,o,none⟩=W.cell? ⟨b,o,none⟩)(b:Nat)(a0:Int)(a1:Int)(a2:Int)(a3:Int)(h:b<W.1.size:=by first|omega|(simp;done)|(simp;omega))(h0:W.cell? ⟨b,0,none⟩=some (a0:vV):=by first|(with_reducible assumption)|(simp [go_sem];done)|(simp [go_sem, *];done)|assumption)(h1:W.cell? ⟨b,1,none⟩=some (a1:vV):=by first|(with_reducible assumption)|(simp [go_sem];done)|(simp [go_sem, *];done)|assumption)(h2:W.cell? ⟨b,2,none⟩=some (a2:vV):=by first|(with_reducible assumption)|(simp [go_sem];done)|(simp [go_sem, *];done)|assumption)(h3:W.cell? ⟨b,3,none⟩=some (a3:vV):=by first|(with_reducible assumption)|(simp [go_sem];done)|(simp [go_sem, *];done)|assumption):w'.cell? ⟨b,0,none⟩=some (a0:vV)/\w'.cell? ⟨b,1,none⟩=some (a1:vV)/\w'.cell? ⟨b,2,none⟩=some (a2:vV)/\w'.cell? ⟨b,3,none⟩=some (a3:vV):=⟨(hc b 0 h).trans h0,(hc b 1 h).trans h1,(hc b 2 h).trans h2,(hc b 3 h).trans h3⟩
theorem bel{B:Nat}{a b:World}(h:Below B a b:=by repeat(first|(with_reducible exact Below.refl _ _)|(with_reducible assumption)|(with_reducible refine aT ?_)|(with_reducible refine baa ?_ _)|(with_reducible refine bs ?_ (by first|exact Nat.le_refl _|omega|(simp;done)|(simp;omega)) _)|(with_reducible refine bt ?_ (by with_reducible assumption)))):Below B a b:=h
theorem cel{W w':World}{b o:Nat}{v:Value}(hc:∀b o,b<W.1.size->w'.cell? ⟨b,o,none⟩=W.cell? ⟨b,o,none⟩)(h1:b<W.1.size:=by first|omega|(simp;done)|(simp;omega))(h2:W.cell? ⟨b,o,none⟩=some v:=by first|(with_reducible assumption)|(simp [go_sem];done)|(simp [go_sem, *];done)|assumption):w'.cell? ⟨b,o,none⟩=some v:=(hc b o h1).trans h2
theorem bg{W w':World}{b o:Nat}{v:Value}(hc:∀b o,b<W.1.size->w'.cell? ⟨b,o,none⟩=W.cell? ⟨b,o,none⟩)(h1:b<W.1.size:=by first|omega|(simp;done)|(simp;omega))(h2:W.cell? ⟨b,o,none⟩=some v:=by first|assumption|(simp [go_sem];done)|(simp [go_sem, *];done)):w'.cell? ⟨b,o,none⟩=some v:=(hc b o h1).trans h2
end Go.Proofs.YtljbnicolhhicaaGreatDoor
