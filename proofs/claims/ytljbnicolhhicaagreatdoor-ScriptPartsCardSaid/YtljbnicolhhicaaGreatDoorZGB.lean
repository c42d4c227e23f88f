import Derived.Test.YtljbnicolhhicaaGreatDoorZGA
import Derived.Conc.FxBegin
import Derived.Conc.Token
import Derived.Conc.CompanyDraw
import Derived.Conc.LeavingOf
set_option maxHeartbeats 8000000
set_option maxRecDepth 100000
set_option linter.unusedSectionVars false
set_option linter.unusedSimpArgs false
set_option linter.unusedVariables false
namespace Go.Sq
section
open Go Go.Conc
section
variable {P:Program} {gs:Array Goroutine} {w w₁:World} {sl:Option (Nat×Nat)} {i j k:Nat} {g g₂ gj:Goroutine} {es:Array Event} {c cap s r:Nat} {buf:Array Value} {tm closed:Bool} {v z zj:Value}
 {blocking:Bool} {shape shj:CommShape} {cs cases:Array CommCase}
theorem yD(hi:gs[i]? =some g)(h:stepG P (i==0) g w= .comm g₂ cases blocking shape w₁ es)(hk:cases[k]? =some (scase c v z))
  (ho:∀ (m:Nat) (c':CommCase),m≠k->cases[m]? =some c'->NoWays w₁ (gs.setIfInBounds i ph) c')
  (hc:w₁.1[c]? =some (.chan cap buf false s r tm)) (hij:j≠i) (hj:gs[j]? =some (parked gj #[rcase c zj] shj)) (hp:partners (gs.setIfInBounds i ph) c false= [(j,0)]):
  runT P (crowd gs w sl) i=(.next (crowd ((gs.setIfInBounds j (gj.finishComm P #[rcase c zj] shj 0 v true)).setIfInBounds i (g₂.finishComm P cases shape k undef false)) (w₁.setChan c cap buf false (s+1) (r+1) tm) sl),
   MemOp.ofEvents i g.frame.fn g.frame.place es++ #[{g:=i,fn:=g₂.frame.fn,pos:=g₂.frame.place,act:= .send c s},{g:=j,fn:=gj.frame.fn,pos:=gj.frame.place,act:= .recv c r cap},
    {g:=i,fn:=g₂.frame.fn,pos:=g₂.frame.place,act:= .sendDone c s},{g:=j,fn:=gj.frame.fn,pos:=gj.frame.place,act:= .recvDone c r}]):=by
 have hw:ways w₁ (gs.setIfInBounds i ph) (scase c v z)= [.partner j 0]:=by simp [ways,scase,hc,hp]
 have hj':=stand_get (i:=i) hij hj
 have hfp:=finishPartner_at P (gs.setIfInBounds i ph) hj' (cs:= #[rcase c zj]) (sh:=shj) rfl 0 v
 have hgd:(gs.setIfInBounds i ph).getD j default=parked gj #[rcase c zj] shj:=by rw [Array.getD_eq_getD_getElem?,hj'];rfl
 rw [runT_crowd_comm hi h]
 unfold communicate
 simp only [ready_one hk (by rw [hw];simp) ho,hw]
 rw [if_neg]
 ·simp [choose,Sem.run,Question.forced,bind,Sem.bind,pure,scase,crowd,hc,hfp,hgd,set_stand2,finishComm_parked,rcase,parked,World.setChan]
  rfl
 ·rw [Bool.not_eq_true];exact any_ill (made_of_one hk (made_send v z hc) ho)
theorem yE(hi:gs[i]? =some g)(h:stepG P (i==0) g w= .comm g₂ #[rcase c z] blocking shape w₁ es)(hc:w₁.1[c]? =some (.chan cap #[] closed s r tm))
  (hij:j≠i) (hj:gs[j]? =some (parked gj cs shj)) (hk:cs[k]? =some (scase c v zj)) (hp:partners (gs.setIfInBounds i ph) c true= [(j,k)]):
  runT P (crowd gs w sl) i=(.next (crowd ((gs.setIfInBounds j (gj.finishComm P cs shj k undef false)).setIfInBounds i (g₂.finishComm P #[rcase c z] shape 0 v true)) (w₁.setChan c cap #[] closed (s+1) (r+1) tm) sl),
   MemOp.ofEvents i g.frame.fn g.frame.place es++ #[{g:=j,fn:=gj.frame.fn,pos:=gj.frame.place,act:= .send c s},{g:=i,fn:=g₂.frame.fn,pos:=g₂.frame.place,act:= .recv c r cap},
    {g:=j,fn:=gj.frame.fn,pos:=gj.frame.place,act:= .sendDone c s},{g:=i,fn:=g₂.frame.fn,pos:=g₂.frame.place,act:= .recvDone c r}]):=by
 rw [runT_crowd_comm hi h]
 have hj':=stand_get (i:=i) hij hj
 have hfp:=finishPartner_at P (gs.setIfInBounds i ph) hj' (cs:=cs) (sh:=shj) rfl k undef
 have hgd:(gs.setIfInBounds i ph).getD j default=parked gj cs shj:=by rw [Array.getD_eq_getD_getElem?,hj'];rfl
 have hov:offeredValue (gs.setIfInBounds i ph) j k=v:=by simp [offeredValue,hj',parked,hk,scase]
 simp [communicate,ways,rcase,hc,hp,choose,Sem.run,Question.forced,bind,Sem.bind,pure,World.setChan,crowd,hfp,hgd,hov,set_stand2,finishComm_parked,scase,parked,hk]
 rfl
end
section
variable {g:Goroutine} {w:World} {sh:CommShape} {c d:Nat} {x z z1:Value} {cap cap' s s' r r':Nat} {buf buf':Array Value} {tm tm':Bool}
abbrev bB(c d:Nat)(x z z1:Value):Array CommCase:= #[scase c x z,rcase d z1]
theorem G6(hc:w.1[c]? =some (.chan cap buf false s r tm))(hd:w.1[d]? =some (.chan cap' buf' false s' r' tm')):(parked g (bB c d x z z1) sh).again w=parked g (bB c d x z z1) sh:=by
 simp [Goroutine.again,parked,scase,rcase,hc,hd]
theorem Er(hd:w.1[d]? =some (.chan cap' buf' true s' r' tm')):(parked g (bB c d x z z1) sh).again w={parked g (bB c d x z z1) sh with status:= .running}:=by
 simp [Goroutine.again,parked,scase,rcase,hd]
theorem zh{P:Program}(a a':Goroutine)(hc:w.1[c]? =some (.chan cap buf false s r tm))(hd:w.1[d]? =some (.chan cap' buf' false s' r' tm')):woken P a a' w (parked g (bB c d x z z1) sh)=parked g (bB c d x z z1) sh:=by
 unfold woken;split
 ·exact G6 hc hd
 ·rfl
theorem Dj:offersAt (parked g (bB c d x z z1) sh) c true= [0]:=by
 simp [offersAt,parked,scase,rcase,Array.zipIdx]
end
end
section
open Go Go.Conc Go.ConcX
open Go.ConcN (sumTo upd sumTo_upd upd_ne upd_same)
variable [Payload]
section
variable (P:Program) (ty:TypeId) (Wg C Low Cd Ce:Nat) [Shy Wg C] (vals:List Value) (Mine:Loc->Prop) (AnchW:Goroutine->World->Prop) (z z0 z1:Value)
def RS(w w₁:World):Prop:=∀b,b<Low->b≠Wg->b≠Cd->b≠Ce->w₁.1[b]? =w.1[b]?
def FI(x:Value)(g:Goroutine)(w:World):Prop:=
 g.status= .running/\stepG P false g w= .comm (core g) (bB Cd Ce x z0 z1) true .select w #[]/\
  ∀w₂,RS Wg Low Cd Ce w w₂->KCa ty Wg w₂->∃m,Goes P false (RCa ty Wg Low) (DCs Mine Wg C) (AtR0 P ty Wg C Low vals) m (Go.Conc.served (core g) (commResult (bB Cd Ce x z0 z1) .select 1 z1 false)) w₂
def StopB:List Value->Goroutine->World->Prop
 | []=>fun g w=>∃x,FI P ty Wg C Low Cd Ce vals Mine z0 z1 x g w
 | v :: vs=>fun g w=>FI P ty Wg C Low Cd Ce vals Mine z0 z1 v g w/\
   ∀w₂,RS Wg Low Cd Ce w w₂->∃m,Goes P false (RS Wg Low Cd Ce) (DCs Mine Wg C) (StopB vs) m (Go.Conc.served (core g) (commResult (bB Cd Ce v z0 z1) .select 0 undef false)) w₂
def FinA(g:Goroutine)(w:World):Prop:=
 g.status= .running/\mayWake P g=true/\∃g',g'.status= .running/\stepG P true g w= .go g' (w.setChan Ce 0 #[] true 0 0 false) (closeEvents Ce)/\
  ∃m,Goes P true (RPa ty Wg C vals) (DPi Mine Wg C Low) (AtKd P ty Wg C Low vals Mine AnchW) m g' (w.setChan Ce 0 #[] true 0 0 false)
def StopA:List Value->Goroutine->World->Prop
 | []=>FinA P ty Wg C Low Ce vals Mine AnchW
 | v :: vs=>fun g w=>g.status= .running/\stepG P true g w= .comm (core g) #[rcase Cd z] true (.recv false) w #[]/\
   ∀w₂,Aside2 C Cd w w₂->∃m,Goes P true (Aside C) (DPi Mine Wg C Low) (StopA vs) m (Go.Conc.served (core g) v) w₂
structure Geo:Prop where
 hW:Wg<Low
 hC:C<Low
 hD:Cd<Low
 hE:Ce<Low
 CW:C≠Wg
 DW:Cd≠Wg
 EW:Ce≠Wg
 DE:Cd≠Ce
 DC:Cd≠C
 EC:Ce≠C
structure X5:Prop where
 send:∀n,Shy.ok Wg C (.send Cd n)
 recv:∀n k,Shy.ok Wg C (.recv Cd n k)
 sendDone:∀n,Shy.ok Wg C (.sendDone Cd n)
 recvDone:∀n,Shy.ok Wg C (.recvDone Cd n)
 close:Shy.ok Wg C (.close Ce)
 closeR:Shy.ok Wg C (.access ⟨.obj Ce,false,true⟩)
 recvClosed:Shy.ok Wg C (.recvClosed Ce)
def sW(x:MemAct):Prop:=x.touch?=none/\∀m,x≠ .mark m
end
section
variable {P:Program} {ty:TypeId} {Wg C Low Cd Ce:Nat} [Shy Wg C] {vals:List Value} {Mine:Loc->Prop} {AnchW:Goroutine->World->Prop} {z z0 z1:Value}
theorem RS.refl(w:World):RS Wg Low Cd Ce w w:=fun _ _ _ _ _=>rfl
theorem RS.trans{a b c:World}(h:RS Wg Low Cd Ce a b)(h':RS Wg Low Cd Ce b c):RS Wg Low Cd Ce a c:=fun x h1 h2 h3 h4=>(h' x h1 h2 h3 h4).trans (h x h1 h2 h3 h4)
theorem RS.Au{w w':World}(h:AtRel w w'):RS Wg Low Cd Ce w w':=by obtain⟨d,rfl⟩:=h;exact fun _ _ _ _ _=>rfl
theorem RS.of_low{w w':World}(h:∀b,b<Low->w'.1[b]? =w.1[b]?):RS Wg Low Cd Ce w w':=fun b hb _ _ _=>h b hb
theorem RS.of_a{w w':World}(h:RCa ty Wg Low w w'):RS Wg Low Cd Ce w w':=fun b hb hw _ _=>h.low b hb hw
theorem bR{w:World}{c cap s r k:Nat}{buf:Array Value}{cl tm:Bool}(h:k≠c):(w.setChan c cap buf cl s r tm).1[k]? =w.1[k]? :=by
 simp only [World.setChan]
 rw [Array.getElem?_setIfInBounds_ne (Ne.symm h)]
theorem kL{w:World}{c cap s r:Nat}{buf:Array Value}{cl tm:Bool}{o:Obj}(h:w.1[c]? =some o):(w.setChan c cap buf cl s r tm).1[c]? =some (.chan cap buf cl s r tm):=by
 have hlt:c<w.1.size:=(Array.getElem?_eq_some_iff.1 h).1
 simp [World.setChan,hlt]
theorem RS.XW{w:World}{cap s r:Nat}{buf:Array Value}{cl tm:Bool}:RS Wg Low Cd Ce w (w.setChan Cd cap buf cl s r tm):=fun b _ _ h _=>bR h
theorem RS.setE{w:World}{cap s r:Nat}{buf:Array Value}{cl tm:Bool}:RS Wg Low Cd Ce w (w.setChan Ce cap buf cl s r tm):=fun b _ _ _ h=>bR h
theorem Aside.XW{w:World}{cap s r:Nat}{buf:Array Value}{cl tm:Bool}:Aside2 C Cd w (w.setChan Cd cap buf cl s r tm):=⟨rfl,rfl,rfl,by simp [World.setChan],fun k _ h=>bR h⟩
theorem Aside.Au{k:Nat}{w w':World}(h:AtRel w w'):Aside k w w':=by obtain⟨d,rfl⟩:=h;exact⟨rfl,rfl,rfl,rfl,fun _ _=>rfl⟩
omit [Shy Wg C] in
theorem LX{k:Nat}{w w₁:World}(h:Aside C w w₁):Aside2 C k w w₁:=⟨h.tape,h.os,h.output,h.size,fun j a _=>h.block j a⟩
omit [Shy Wg C] in
theorem CQ{k:Nat}{w w₁ w₂:World}(h:Aside2 C k w w₁)(h':Aside2 C k w₁ w₂):Aside2 C k w w₂:=⟨h'.tape.trans h.tape,h'.os.trans h.os,h'.output.trans h.output,h'.size.trans h.size,fun j a b=>(h'.block j a b).trans (h.block j a b)⟩
theorem StopB.sel{vs:List Value}{g:Goroutine}{w:World}(h:StopB P ty Wg C Low Cd Ce vals Mine z0 z1 vs g w):∃x,FI P ty Wg C Low Cd Ce vals Mine z0 z1 x g w/\(∀v vs',vs=v :: vs'->x=v):=by
 cases vs with
 |nil=>obtain⟨x,hx⟩:=h;exact⟨x,hx,fun _ _ e=>by cases e⟩
 |cons v vs=>exact⟨v,h.1,fun _ _ e=>by cases e;rfl⟩
theorem StopB.running{vs:List Value}{g:Goroutine}{w:World}(h:StopB P ty Wg C Low Cd Ce vals Mine z0 z1 vs g w):g.status= .running:=by obtain⟨x,hx,_⟩:=h.sel;exact hx.1
theorem StopA.running{vs:List Value}{g:Goroutine}{w:World}(h:StopA P ty Wg C Low Cd Ce vals Mine AnchW z vs g w):g.status= .running:=by cases vs <;> exact h.1
theorem FI.rely{x:Value}{g:Goroutine}{w w₁:World}(h:FI P ty Wg C Low Cd Ce vals Mine z0 z1 x g w)(hs:stepG P false g w₁= .comm (core g) (bB Cd Ce x z0 z1) true .select w₁ #[])(hr:RS Wg Low Cd Ce w w₁):FI P ty Wg C Low Cd Ce vals Mine z0 z1 x g w₁:=
 ⟨h.1,hs,fun w₂ h₂ hk=>h.2.2 w₂ (hr.trans h₂) hk⟩
theorem Ta{st sm:Int}{buf:Array Value}{n s r d0 d1 p:Nat}{w w':World}{t:Trace}(h:Base Mine ty Wg C n st sm buf false s r d0 d1 false w t p)(hw:w'.1[Wg]? =w.1[Wg]?):Base Mine ty Wg C n st sm buf false s r d0 d1 false w' t p:=
 ⟨h.wg.of_block hw,(fun e=>by cases e),h.jt,h.deaf0,h.deaf1,h.noacq,h.rel⟩
theorem Vn{st sm:Int}{buf:Array Value}{n s r d0 d1 p:Nat}{w:World}{t:Trace}(h:Base Mine ty Wg C n st sm buf false s r d0 d1 false w t p){op:MemOp}(hg:op.g=0∨op.g=1)(ha:sW op.act)(hok:Shy.ok Wg C op.act):
  Base Mine ty Wg C n st sm buf false s r d0 d1 false w (t++ #[op]) p:=by
 have hone:∀y∈(#[op]:Trace),y=op:=vS
 have keep:∀y∈(#[op]:Trace),y.act≠ .mark .disable/\y.act≠ .mark .enable:=fun y hy=>by rw [hone y hy];exact⟨ha.2 _,ha.2 _⟩
 refine⟨h.wg,(fun e=>by cases e),h.jt.app hg (fun y hy=> ?_) (fun _=> .inr (h.noacq rfl)),by rw [Deaf_keep _ _ _ keep,h.deaf0],by rw [Deaf_keep _ _ _ keep,h.deaf1],fun _=>(h.noacq rfl).app fun y hy=> ?_,fun e=>by cases e⟩
 ·rw [hone y hy]
  exact⟨rfl,fun x hx=>(by rw [ha.1]at hx;cases hx),ha.2 _,hok⟩
 ·rw [hone y hy];exact ha.2 _
theorem Ph{st sm:Int}{buf:Array Value}{n s r d0 d1 p:Nat}{w:World}:∀ (l:List MemOp) {t:Trace},Base Mine ty Wg C n st sm buf false s r d0 d1 false w t p->(∀op∈l,(op.g=0∨op.g=1)/\sW op.act/\Shy.ok Wg C op.act)->
  Base Mine ty Wg C n st sm buf false s r d0 d1 false w (t++l.toArray) p
 | [],t,h,_=>by simpa using h
 |x :: l,t,h,hl=>by
  have e:t++(x :: l).toArray=(t++ #[x])++l.toArray:=vS
  rw [e]
  obtain⟨a,b,c⟩:=hl x vS
  exact Ph l (Vn h a b c) fun op ho=>hl op (by simp [ho])
theorem L9(hOk:X5 Wg C Cd Ce):∀e∈closeEvents Ce,EvQ Mine Wg C 0 e:=by
 intro e he
 simp only [closeEvents,List.mem_toArray,List.mem_cons,List.not_mem_nil,or_false]at he
 rcases he with rfl|rfl
 ·refine⟨fun fn pos=>⟨rfl,fun x hx=> ?_,by simp [MemAct.ofEvent],hOk.closeR⟩,vS,vS,vS⟩
  simp only [MemAct.ofEvent,MemAct.touch?,Option.some.injEq]at hx
  subst hx
  refine⟨.inr (.inl ⟨rfl,fun e=>by cases e⟩),fun hs=> ?_,fun⟨y,hy,_⟩=>by cases hy⟩
  rcases hs with ⟨y,hy,_⟩|hs
  ·cases hy
  ·exact⟨vS,vS⟩
 ·exact⟨fun fn pos=>⟨rfl,fun x hx=>(by simp [MemAct.ofEvent,MemAct.touch?]at hx),by simp [MemAct.ofEvent],hOk.close⟩,vS,vS,vS⟩
theorem XA(c n:Nat):sW (.send c n):=⟨rfl,fun m e=>by cases e⟩
theorem Xi(c n k:Nat):sW (.recv c n k):=⟨rfl,fun m e=>by cases e⟩
theorem Oy(c n:Nat):sW (.sendDone c n):=⟨rfl,fun m e=>by cases e⟩
theorem Nz(c n:Nat):sW (.recvDone c n):=⟨rfl,fun m e=>by cases e⟩
theorem JV(c:Nat):sW (.recvClosed c):=⟨rfl,fun m e=>by cases e⟩
end
section
variable {P:Program} {c:Nat} {gs:Array Goroutine} {a b a' b':Goroutine} {T:Trace} {q:Nat->Nat} {w':World}
omit [Payload] in
theorem _root_.Go.ConcX.Big.own0(hB:Big P c gs a b T q)(fn:FuncId)(pos:String)(es:Array Event):Big P c ((gs.map (woken P a a' w')).setIfInBounds 0 a') a' (woken P a a' w' b) (T++MemOp.ofEvents 0 fn pos es) q:=by
 have hp:=hB.pos
 have hlt:0<gs.size:=by have:=hB.size;omega
 refine⟨by simp [hB.size],hB.pos,by simp [hlt], ?_,fun j x hj hjc hx=> ?_,fun j hj=>by rw [Deaf_other T (g':=0) vO _ g_of_ofEvents];exact hB.above j hj⟩
 ·rw [Array.getElem?_setIfInBounds_ne vO,Array.getElem?_map,hB.hc];rfl
 ·rw [Array.getElem?_setIfInBounds_ne vO,Array.getElem?_map]at hx
  obtain⟨y,hy,rfl⟩:=Option.map_eq_some_iff.1 hx
  have hq:=hB.old j y hj hjc hy
  rw [woken_quitsD hq,Deaf_other T (g':=0) vO _ g_of_ofEvents]
  exact hq
omit [Payload] in
theorem _root_.Go.ConcX.Big.ownc(hB:Big P c gs a b T q)(fn:FuncId)(pos:String)(es:Array Event):Big P c ((gs.map (woken P b b' w')).setIfInBounds c b') (woken P b b' w' a) b' (T++MemOp.ofEvents c fn pos es) q:=by
 have hp:=hB.pos
 have hlt:c<gs.size:=by have:=hB.size;omega
 refine⟨by simp [hB.size],hB.pos, ?_,by simp [hlt],fun j x hj hjc hx=> ?_,fun j hj=>by rw [Deaf_other T (g':=c) vO _ g_of_ofEvents];exact hB.above j hj⟩
 ·rw [Array.getElem?_setIfInBounds_ne vO,Array.getElem?_map,hB.h0];rfl
 ·rw [Array.getElem?_setIfInBounds_ne vO,Array.getElem?_map]at hx
  obtain⟨y,hy,rfl⟩:=Option.map_eq_some_iff.1 hx
  have hq:=hB.old j y hj hjc hy
  rw [woken_quitsD hq,Deaf_other T (g':=c) vO _ g_of_ofEvents]
  exact hq
omit [Payload] in
theorem _root_.Go.ConcX.Big.ops(hB:Big P c gs a b T q)(u:Trace)(hu:∀op∈u,op.act≠ .mark .disable/\op.act≠ .mark .enable):Big P c gs a b (T++u) q:=
 ⟨hB.size,hB.pos,hB.h0,hB.hc,fun j x hj hjc hx=>by rw [Deaf_keep _ _ _ hu];exact hB.old j x hj hjc hx,fun j hj=>by rw [Deaf_keep _ _ _ hu];exact hB.above j hj⟩
omit [Payload] in
theorem _root_.Go.ConcX.Big.set0(hB:Big P c gs a b T q)(a':Goroutine):Big P c (gs.setIfInBounds 0 a') a' b T q:=by
 have hp:=hB.pos
 have hlt:0<gs.size:=by have:=hB.size;omega
 refine⟨by simp [hB.size],hB.pos,by simp [hlt], ?_,fun j x hj hjc hx=> ?_,hB.above⟩
 ·rw [Array.getElem?_setIfInBounds_ne vO,hB.hc]
 ·rw [Array.getElem?_setIfInBounds_ne vO]at hx
  exact hB.old j x hj hjc hx
omit [Payload] in
theorem _root_.Go.ConcX.Big.setc(hB:Big P c gs a b T q)(b':Goroutine):Big P c (gs.setIfInBounds c b') a b' T q:=by
 have hp:=hB.pos
 have hlt:c<gs.size:=by have:=hB.size;omega
 refine⟨by simp [hB.size],hB.pos, ?_,by simp [hlt],fun j x hj hjc hx=> ?_,hB.above⟩
 ·rw [Array.getElem?_setIfInBounds_ne vO,hB.h0]
 ·rw [Array.getElem?_setIfInBounds_ne vO]at hx
  exact hB.old j x hj hjc hx
omit [Payload] in
theorem _root_.Go.ConcX.Big.get(hB:Big P c gs a b T q){i:Nat}{g:Goroutine}(h:gs[i]? =some g):(i=0/\g=a)∨(i=c/\g=b)∨(0<i/\i<c/\QuitsD P (q i) (Deaf T i) g):=by
 have hlt:=(Array.getElem?_eq_some_iff.1 h).1
 have:=hB.size
 by_cases h0:i=0
 ·subst h0;rw [hB.h0]at h;exact .inl ⟨rfl,(Option.some.inj h).symm⟩
 ·by_cases h1:i=c
  ·subst h1;rw [hB.hc]at h;exact .inr (.inl ⟨rfl,(Option.some.inj h).symm⟩)
  ·exact .inr (.inr ⟨vO,vO,hB.old i g vO vO h⟩)
omit [Payload] in
theorem _root_.Go.ConcX.Big.slip(hB:Big P c gs a b T q){i k:Nat}{g g':Goroutine}(w:World)(hi:gs[i]? =some g)(h0:0<i)(hc:i<c)(fn:FuncId)(pos:String)(es:Array Event)
  (hq:QuitsD P k (Deaf (T++MemOp.ofEvents i fn pos es) i) g'):Big P c ((gs.map (woken P g g' w)).setIfInBounds i g') (woken P g g' w a) (woken P g g' w b) (T++MemOp.ofEvents i fn pos es) (upd q i k):=by
 have hlt:i<gs.size:=(Array.getElem?_eq_some_iff.1 hi).1
 refine⟨by simp [hB.size],hB.pos, ?_, ?_,fun j x hj hjc hx=> ?_,fun j hj=>by rw [Deaf_other T (g':=i) vO _ g_of_ofEvents];exact hB.above j hj⟩
 ·rw [Array.getElem?_setIfInBounds_ne vO,Array.getElem?_map,hB.h0];rfl
 ·rw [Array.getElem?_setIfInBounds_ne vO,Array.getElem?_map,hB.hc];rfl
 ·by_cases hji:i=j
  ·subst hji
   rw [Array.getElem?_setIfInBounds_self_of_lt (by simpa using hlt)]at hx
   obtain rfl:=Option.some.inj hx
   rw [upd_same]
   exact hq
  ·rw [Array.getElem?_setIfInBounds_ne hji,Array.getElem?_map]at hx
   obtain⟨y,hy,rfl⟩:=Option.map_eq_some_iff.1 hx
   have hq:=hB.old j y hj hjc hy
   rw [woken_quitsD hq,upd_ne q k (Ne.symm hji),Deaf_other T hji _ g_of_ofEvents]
   exact hq
end
end
section
open Go Go.Conc Go.ConcX
open Go.ConcN (sumTo upd sumTo_upd upd_ne upd_same)
variable [Payload]
def Ch(Cd Ce:Nat)(cl:Bool)(w:World):Prop:=(∃s r,w.1[Cd]? =some (.chan 0 #[] false s r false))/\w.1[Ce]? =some (.chan 0 #[] cl 0 0 false)
theorem Ch.of{Cd Ce:Nat}{cl:Bool}{w w':World}(h:Ch Cd Ce cl w)(h1:w'.1[Cd]? =w.1[Cd]?)(h2:w'.1[Ce]? =w.1[Ce]?):Ch Cd Ce cl w':=by
 obtain⟨⟨s,r,e⟩,e2⟩:=h
 exact⟨⟨s,r,h1.trans e⟩,h2.trans e2⟩
section
variable (P:Program) (ty:TypeId) (Wg C Low Cd Ce:Nat) [Shy Wg C] (vals:List Value) (Mine:Loc->Prop) (AnchW:Goroutine->World->Prop) (Post:Value->World->Prop) (z z0 z1:Value) (c:Nat) (t₀:Trace)
abbrev WalkA(vs:List Value)(m:Nat)(g:Goroutine)(w:World):Prop:=Goes P true (Aside C) (DPi Mine Wg C Low) (StopA P ty Wg C Low Cd Ce vals Mine AnchW z vs) m g w
abbrev yR(vs:List Value)(n:Nat)(g:Goroutine)(w:World):Prop:=Goes P false (RS Wg Low Cd Ce) (DCs Mine Wg C) (StopB P ty Wg C Low Cd Ce vals Mine z0 z1 vs) n g w
abbrev qJ(st:Int)(d0:Nat)(w:World)(s:Trace)(p:Nat):Prop:=Base Mine ty Wg C vals.length st 0 vals.toArray false vals.length 0 d0 0 false w s p
inductive su:(Nat×Nat×Nat×Nat)->Goroutine->Goroutine->World->Trace->Prop
 |ww {vs:List Value} {m n p:Nat} {a b:Goroutine} {w:World} {s:Trace}:Ch Cd Ce false w->qJ ty Wg C vals Mine KK 0 w s p->WalkA P ty Wg C Low Cd Ce vals Mine AnchW z vs m a w->yR P ty Wg C Low Cd Ce vals Mine z0 z1 vs n b w->su (vs.length+2,(m+1)+(n+1),0,0) a b w s
 | pw {v:Value} {vs:List Value} {n p:Nat} {a b:Goroutine} {w:World} {s:Trace}:Ch Cd Ce false w->qJ ty Wg C vals Mine KK 0 w s p->(∀w₂,Aside2 C Cd w w₂->∃m,WalkA P ty Wg C Low Cd Ce vals Mine AnchW z vs m (Go.Conc.served a v) w₂)->yR P ty Wg C Low Cd Ce vals Mine z0 z1 (v :: vs) n b w->
   su ((v :: vs).length+2,n+1,0,0) (parked a #[rcase Cd z] (.recv false)) b w s
 | wp {vs:List Value} {m p:Nat} {a b:Goroutine} {x:Value} {w:World} {s:Trace}:Ch Cd Ce false w->qJ ty Wg C vals Mine KK 0 w s p->WalkA P ty Wg C Low Cd Ce vals Mine AnchW z vs m a w->(∀v vs',vs=v :: vs'->x=v)->(∀w₂,RS Wg Low Cd Ce w w₂->StopB P ty Wg C Low Cd Ce vals Mine z0 z1 vs b w₂)->
   su (vs.length+2,m+1,0,0) a (parked (core b) (bB Cd Ce x z0 z1) .select) w s
 |sa {n rp mp d0 p:Nat} {a b:Goroutine} {w:World} {s:Trace}:Ch Cd Ce true w->qJ ty Wg C vals Mine KK d0 w s p->PA P ty Wg C Low vals Mine AnchW Post rp d0 mp a w->yR P ty Wg C Low Cd Ce vals Mine z0 z1 [] n b w->su (1,n,rp+2,mp) a b w s
 |sb {n rp mp p:Nat} {a b:Goroutine} {w:World} {s:Trace}:Ch Cd Ce true w->qJ ty Wg C vals Mine (KK+1) 1 w s p->PB P ty Wg C Low vals Mine Post rp mp a w->yR P ty Wg C Low Cd Ce vals Mine z0 z1 [] n b w->su (1,n,rp,mp) a b w s
def VF(μ:Nat×(Nat×Nat×Nat×Nat))(M:Machine)(T:Trace):Prop:=
 ∃ (gs:Array Goroutine) (a b:Goroutine) (w:World) (sl:Option (Nat×Nat)) (s:Trace) (q:Nat->Nat) (μs:Nat×Nat×Nat×Nat),
  M=crowd gs w sl/\Big P c gs a b T q/\su P ty Wg C Low Cd Ce vals Mine AnchW Post z z0 z1 μs a b w s/\Linked c t₀ s T/\μ=(sumTo c q,μs)
end
section
variable {P:Program} {ty:TypeId} {Wg C Low Cd Ce:Nat} [Shy Wg C] {vals:List Value} {Mine:Loc->Prop} {AnchW:Goroutine->World->Prop} {Post:Value->World->Prop} {z z0 z1:Value} {c:Nat} {t₀:Trace}
theorem WalkA.running{vs:List Value}{m:Nat}{g:Goroutine}{w:World}(h:WalkA P ty Wg C Low Cd Ce vals Mine AnchW z vs m g w):g.status= .running:=Goes.running (fun _ _ x=>x.running) w (Aside.refl C w) h
theorem yR.running{vs:List Value}{m:Nat}{g:Goroutine}{w:World}(h:yR P ty Wg C Low Cd Ce vals Mine z0 z1 vs m g w):g.status= .running:=Goes.running (fun _ _ x=>x.running) w (RS.refl w) h
theorem WalkA.rely{vs:List Value}{m:Nat}{g:Goroutine}{w w':World}(h:WalkA P ty Wg C Low Cd Ce vals Mine AnchW z vs m g w)(hr:Aside C w w'):WalkA P ty Wg C Low Cd Ce vals Mine AnchW z vs m g w':=Goes.rely (R:=Aside C) (fun _ _ _ h1 h2=>h1.trans h2) h hr
theorem yR.rely{vs:List Value}{m:Nat}{g:Goroutine}{w w':World}(h:yR P ty Wg C Low Cd Ce vals Mine z0 z1 vs m g w)(hr:RS Wg Low Cd Ce w w'):yR P ty Wg C Low Cd Ce vals Mine z0 z1 vs m g w':=Goes.rely (R:=RS Wg Low Cd Ce) (fun _ _ _ h1 h2=>h1.trans h2) h hr
theorem su.at{μ:Nat×Nat×Nat×Nat}{a b:Goroutine}{w:World}{s:Trace}(h:su P ty Wg C Low Cd Ce vals Mine AnchW Post z z0 z1 μ a b w s)(d:Nat):su P ty Wg C Low Cd Ce vals Mine AnchW Post z z0 z1 μ a b (w.at d) s:=by
 have hr:AtRel w (w.at d):=⟨d,rfl⟩
 cases h with
 |ww h1 h2 h3 h4=>exact .ww (h1.of rfl rfl) (h2.at d) (h3.rely (Aside.Au hr)) (h4.rely (RS.Au hr))
 |pw h1 h2 h3 h4=>exact .pw (h1.of rfl rfl) (h2.at d) (fun w₂ h=>h3 w₂ (CQ (LX (Aside.Au hr)) h)) (h4.rely (RS.Au hr))
 |wp h1 h2 h3 h4 h5=>exact .wp (h1.of rfl rfl) (h2.at d) (h3.rely (Aside.Au hr)) h4 (fun w₂ h=>h5 w₂ ((RS.Au hr).trans h))
 |sa h1 h2 h3 h4=>exact .sa (h1.of rfl rfl) (h2.at d) (h3.rely (RPa.at w d)) (h4.rely (RS.Au hr))
 |sb h1 h2 h3 h4=>exact .sb (h1.of rfl rfl) (h2.at d) (h3.rely (RPb.at w d)) (h4.rely (RS.Au hr))
theorem su.awake(hAr:∀g w,AnchW g w->g.status= .running){μ:Nat×Nat×Nat×Nat}{a b:Goroutine}{w:World}{s:Trace}(h:su P ty Wg C Low Cd Ce vals Mine AnchW Post z z0 z1 μ a b w s):
  awake a/\awake b/\(a.status= .running∨b.status= .running):=by
 cases h with
 |ww _ _ h3 h4=>exact⟨awake_of (.inl h3.running),awake_of (.inl h4.running),.inl h3.running⟩
 |pw _ _ _ h4=>exact⟨awake_of (.inr (.inl rfl)),awake_of (.inl h4.running),.inr h4.running⟩
 |wp _ _ h3=>exact⟨awake_of (.inl h3.running),awake_of (.inr (.inl rfl)),.inl h3.running⟩
 |sa _ _ h3 h4=>exact⟨awake_of (.inl (h3.running hAr)),awake_of (.inl h4.running),.inr h4.running⟩
 |sb _ _ h3 h4=>exact⟨awake_of (h3.status.elim (fun x=> .inl x.2) (fun x=> .inr (.inl x.2.1))),awake_of (.inl h4.running),.inr h4.running⟩
theorem su.woken(hAr:∀g w,AnchW g w->g.status= .running){μ:Nat×Nat×Nat×Nat}{a b:Goroutine}{w:World}{s:Trace}(h:su P ty Wg C Low Cd Ce vals Mine AnchW Post z z0 z1 μ a b w s)(g g':Goroutine):
  ∃μ',su P ty Wg C Low Cd Ce vals Mine AnchW Post z z0 z1 μ' (Go.Conc.woken P g g' w a) (Go.Conc.woken P g g' w b) w s:=by
 cases h with
 |ww h1 h2 h3 h4=>rw [woken_run h3.running,woken_run h4.running];exact⟨_,.ww h1 h2 h3 h4⟩
 |pw h1 h2 h3 h4=>
  obtain⟨s,r,e⟩:=h1.1
  rw [woken_recv_open g g' e,woken_run h4.running]
  exact⟨_,.pw h1 h2 h3 h4⟩
 |wp h1 h2 h3 h4 h5=>
  obtain⟨s,r,e⟩:=h1.1
  rw [woken_run h3.running,zh g g' e h1.2]
  exact⟨_,.wp h1 h2 h3 h4 h5⟩
 |sa h1 h2 h3 h4=>rw [woken_run (h3.running hAr),woken_run h4.running];exact⟨_,.sa h1 h2 h3 h4⟩
 |sb h1 h2 h3 h4=>
  obtain⟨r',m',hp⟩:=h3.woken (b:=g) (b':=g')
  rw [woken_run h4.running]
  exact⟨_,.sb h1 h2 hp h4⟩
theorem zL{gs:Array Goroutine}{i r:Nat}{sd:Bool}(h:∀ (j:Nat) (g:Goroutine),j≠i->gs[j]? =some g->offersAt g r sd= []):partners (gs.setIfInBounds i ph) r sd= []:=
 partners_nil fun j g hj=>by
  rcases getElem?_stand gs i j g hj with ⟨_,rfl⟩|⟨h1,h2⟩
  ·rfl
  ·exact h j g h1 h2
theorem jF{k d:Nat}{g:Goroutine}(h:QuitsD P k d g)(r:Nat)(sd:Bool):offersAt g r sd= []:=offersAt_of_not_blocked (h.status.elim (fun e=>by rw [e];simp) (fun e=>by rw [e];simp)) r sd
theorem IC{g:Goroutine}(h:g.status= .running)(r:Nat)(sd:Bool):offersAt g r sd= []:=offersAt_of_not_blocked (by rw [h];simp) r sd
theorem PS{g:Goroutine}(h:g.status≠ .blocked∨g.offers=none)(r:Nat)(sd:Bool):offersAt g r sd= []:=by
 rcases h with h|h
 ·exact offersAt_of_not_blocked h r sd
 ·unfold offersAt;rw [h];split <;> first|rfl|(rename_i e;cases e)
theorem lX{gs:Array Goroutine}{i j r:Nat}{sd:Bool}{g:Goroutine}{k:Nat}(hij:j≠i)(hj:gs[j]? =some g)(hk:offersAt g r sd= [k])(h:∀ (j':Nat) (g:Goroutine),j'≠i->j'≠j->gs[j']? =some g->offersAt g r sd= []):
  partners (gs.setIfInBounds i ph) r sd= [(j,k)]:=by
 rw [partners_one (stand_get (i:=i) hij hj) fun j' x hne hx=> ?_,hk]
 ·rfl
 ·rcases getElem?_stand gs i j' x hx with ⟨_,rfl⟩|⟨h1,h2⟩
  ·rfl
  ·exact h j' x h1 hne h2
end
end
section
open Go Go.Conc Go.ConcX
open Go.ConcN (sumTo upd sumTo_upd upd_ne upd_same)
variable [Payload]
section
variable {P:Program} {ty:TypeId} {Wg C Low Cd Ce:Nat} [Shy Wg C] {vals:List Value} {Mine:Loc->Prop} {AnchW:Goroutine->World->Prop} {Post:Value->World->Prop} {z z0 z1:Value} {c:Nat} {t₀:Trace}
theorem E9{st:Int}{d0 p:Nat}{w w':World}{s:Trace}{es:Array Event}(hG:Geo Wg C Low Cd Ce)(hB:qJ ty Wg C vals Mine st d0 w s p)(hD:DPi Mine Wg C Low w w' es)(fn:FuncId)(pos:String):qJ ty Wg C vals Mine st d0 w' (s++MemOp.ofEvents 0 fn pos es) p:=
 base_idle0 hG.hW hG.hC hB hD fn pos
theorem qb(hG:Geo Wg C Low Cd Ce){st:Int}{d0 p:Nat}{w w':World}{s:Trace}{es:Array Event}(hB:qJ ty Wg C vals Mine st d0 w s p)(hD:DCs Mine Wg C w w' es)(fn:FuncId)(pos:String):qJ ty Wg C vals Mine st d0 w' (s++MemOp.ofEvents 1 fn pos es) p:=
 hB.step1 fn pos hD.2 (hB.wg.of_block (hD.1.block Wg (Ne.symm hG.CW))) (fun e=>by cases e)
theorem Ch.own{cl:Bool}{w w':World}(hG:Geo Wg C Low Cd Ce)(h:Ch Cd Ce cl w)(hl:Aside C w w'):Ch Cd Ce cl w':=h.of (hl.block _ hG.DC) (hl.block _ hG.EC)
theorem Ch.low{cl:Bool}{w w':World}(hG:Geo Wg C Low Cd Ce)(h:Ch Cd Ce cl w)(hl:∀b,b<Low->w'.1[b]? =w.1[b]?):Ch Cd Ce cl w':=h.of (hl _ hG.hD) (hl _ hG.hE)
theorem Ch.rca{cl:Bool}{w w':World}(hG:Geo Wg C Low Cd Ce)(h:Ch Cd Ce cl w)(hl:RCa ty Wg Low w w'):Ch Cd Ce cl w':=h.of (hl.low _ hG.hD hG.DW) (hl.low _ hG.hE hG.EW)
theorem U5{x y:Nat}(h:x<y)(p q:Nat×Nat×Nat):Lt4 (x,p) (y,q):= .left _ _ h
theorem FP{k x y:Nat}(h:x<y)(p q:Nat×Nat):Lt4 (k,x,p) (k,y,q):= .right _ (.left _ _ h)
theorem z8{gs:Array Goroutine}{a b:Goroutine}{w:World}{sl:Option (Nat×Nat)}{s T:Trace}{q:Nat->Nat}{μs:Nat×Nat×Nat×Nat}(h1:Big P c gs a b T q)(h2:su P ty Wg C Low Cd Ce vals Mine AnchW Post z z0 z1 μs a b w s)(h3:Linked c t₀ s T):
  VF P ty Wg C Low Cd Ce vals Mine AnchW Post z z0 z1 c t₀ (sumTo c q,μs) (crowd gs w sl) T:=⟨gs,a,b,w,sl,s,q,μs,rfl,h1,h2,h3,rfl⟩
theorem MC{gs:Array Goroutine}{a b a' b':Goroutine}{w w':World}{sl:Option (Nat×Nat)}{s T:Trace}{q:Nat->Nat}{μs:Nat×Nat×Nat×Nat}(hOk:X5 Wg C Cd Ce)(hc0:c≠0)(hB:Big P c gs a b T q)(hL:Linked c t₀ s T)
  {p n m:Nat} {f0 f1:FuncId} {p0 p1:String} (hBs:qJ ty Wg C vals Mine KK 0 w s p) (hw:w'.1[Wg]? =w.1[Wg]?)
  (hS:∀s',qJ ty Wg C vals Mine KK 0 w' s' p->su P ty Wg C Low Cd Ce vals Mine AnchW Post z z0 z1 μs a' b' w' s'):
  ∀ops,ops=(#[{g:=c,fn:=f1,pos:=p1,act:= .send Cd n},{g:=0,fn:=f0,pos:=p0,act:= .recv Cd m 0},{g:=c,fn:=f1,pos:=p1,act:= .sendDone Cd n},{g:=0,fn:=f0,pos:=p0,act:= .recvDone Cd m}]:Trace)->
   (∀gs',Big P c gs' a' b' (T++ops) q->VF P ty Wg C Low Cd Ce vals Mine AnchW Post z z0 z1 c t₀ (sumTo c q,μs) (crowd gs' w' sl) (T++ops))/\(∀op∈ops,op.act≠ .mark .disable/\op.act≠ .mark .enable):=by
 intro ops e
 subst e
 let l:List MemOp:= [{g:=1,fn:=f1,pos:=p1,act:= .send Cd n},{g:=0,fn:=f0,pos:=p0,act:= .recv Cd m 0},{g:=1,fn:=f1,pos:=p1,act:= .sendDone Cd n},{g:=0,fn:=f0,pos:=p0,act:= .recvDone Cd m}]
 have hBs':=Ph l (Ta hBs hw) (by
  intro op ho
  simp only [l,List.mem_cons,List.not_mem_nil,or_false]at ho
  rcases ho with rfl|rfl|rfl|rfl
  ·exact⟨.inr rfl,XA _ _,hOk.send _⟩
  ·exact⟨.inl rfl,Xi _ _ _,hOk.recv _ _⟩
  ·exact⟨.inr rfl,Oy _ _,hOk.sendDone _⟩
  ·exact⟨.inl rfl,Nz _ _,hOk.recvDone _⟩)
 have hL':=Linked.boths hc0 l (by
  intro op ho
  simp only [l,List.mem_cons,List.not_mem_nil,or_false]at ho
  rcases ho with rfl|rfl|rfl|rfl
  ·exact .inr rfl
  ·exact .inl rfl
  ·exact .inr rfl
  ·exact .inl rfl) hL
 refine⟨fun gs' hg=>z8 hg (hS _ hBs') ?_, ?_⟩
 ·simpa [l,renOp,renG,renAct]using hL'
 ·intro op ho
  simp at ho
  rcases ho with rfl|rfl|rfl|rfl <;> exact⟨vS,vS⟩
end
section
variable {P:Program} {ty:TypeId} {Wg C Low Cd Ce:Nat} [Shy Wg C] {vals:List Value} {Mine:Loc->Prop} {AnchW:Goroutine->World->Prop} {Post:Value->World->Prop} {z z0 z1:Value} {c:Nat} {t₀:Trace}
variable (hG:Geo Wg C Low Cd Ce) (hOk:X5 Wg C Cd Ce) (hAr:∀g w,AnchW g w->g.status= .running)
 (hAn:∀g w,AnchW g w->∃m,Goes P true (RPa ty Wg C vals) (DPi Mine Wg C Low) (AtW1 P ty Wg C Low vals Mine AnchW Post) m g w)
abbrev YO(P:Program)(ty:TypeId)(Wg C Low Cd Ce:Nat)[Shy Wg C](vals:List Value)(Mine:Loc->Prop)(AnchW:Goroutine->World->Prop)(Post:Value->World->Prop)(z z0 z1:Value)(c:Nat)(t₀:Trace)(μ:Nat×(Nat×Nat×Nat×Nat))(X:Stepped×Array MemOp)(T:Trace):Prop:=
 ∃M' ops,X=(.next M',ops)/\((∃μ',LtG μ' μ/\VF P ty Wg C Low Cd Ce vals Mine AnchW Post z z0 z1 c t₀ μ' M' (T++ops))∨∃μ',GInv P ty Wg C Low vals Mine AnchW Post c t₀ μ' M' (T++ops))
include hG hOk hAr hAn in
theorem ZT{gs:Array Goroutine}{a b:Goroutine}{w:World}{sl:Option (Nat×Nat)}{s T:Trace}{q:Nat->Nat}{μs:Nat×Nat×Nat×Nat}(hB:Big P c gs a b T q)(hS:su P ty Wg C Low Cd Ce vals Mine AnchW Post z z0 z1 μs a b w s)(hL:Linked c t₀ s T)(hrun:a.status= .running):
  YO P ty Wg C Low Cd Ce vals Mine AnchW Post z z0 z1 c t₀ (sumTo c q,μs) (runT P (crowd gs w sl) 0) T:=by
 have hc0:c≠0:=Nat.ne_of_gt hB.pos
 -- an ordinary step of the walk
 have own:∀{g':Goroutine} {w':World} {es:Array Event} {μ':Nat×Nat×Nat×Nat},stepG P true a w= .go g' w' es->Lt4 μ' μs->su P ty Wg C Low Cd Ce vals Mine AnchW Post z z0 z1 μ' g' (Go.Conc.woken P a g' w' b) w' (s++MemOp.ofEvents 0 a.frame.fn a.frame.place es)->
   YO P ty Wg C Low Cd Ce vals Mine AnchW Post z z0 z1 c t₀ (sumTo c q,μs) (runT P (crowd gs w sl) 0) T:=by
  intro g' w' es μ' hgo hlt hS'
  exact⟨_,_,runT_crowd_go (P:=P) (sl:=sl) (i:=0) hB.h0 hgo,.inl ⟨(sumTo c q,μ'),.right _ hlt,z8 (hB.own0 _ _ _) hS' (hL.events hc0 (.inl rfl) _ _ _)⟩⟩
 cases hS with
 | @ww vs m n p _ _ _ _ hCh hBs hA hBw=>
  have hrb:=hBw.running
  rcases Goes.cases hA with hstop|⟨m',rfl,hstep⟩
  ·have hs:=hstop w (Aside.refl C w)
   cases vs with
   | nil=>
    obtain⟨_,hmw,g',hg',hgo,m',hk⟩:=hs
    refine own (μ':=(1,n,4+2,m')) hgo (U5 vS _ _) ?_
    rw [woken_run hrb]
    have hst:=hCh.2
    refine .sa (d0:=0) (p:=p) ⟨?_,kL hst⟩ ?_ (.kd hk) (hBw.rely RS.setE)
    ·obtain⟨s1,r1,e⟩:=hCh.1
     exact⟨s1,r1,by rw [bR hG.DE];exact e⟩
    ·exact hBs.step0 _ _ (L9 hOk) (hBs.wg.of_block (bR (Ne.symm hG.EW))) (fun e=>by cases e)
   | cons v vs=>
    -- it waits
    obtain⟨_,hcm,hk⟩:=hs
    obtain⟨s1,r1,e⟩:=hCh.1
    have hp:partners (gs.setIfInBounds 0 ph) Cd true= []:=zL fun j g hj hg=>by
     rcases hB.get hg with ⟨h,_⟩|⟨_,rfl⟩|⟨_,_,h⟩
     ·exact absurd h hj
     ·exact IC hrb _ _
     ·exact jF h _ _
    have hw:=crowd_waits (P:=P) (sl:=sl) (i:=0) hB.h0 (show stepG P (0==0) a w=_ from hcm) (by
     intro cc hcc
     simp only [List.mem_toArray,List.mem_singleton]at hcc
     subst hcc
     exact ways_recv_none e hp)
    refine⟨_,_,hw,.inl ⟨(sumTo c q,((v :: vs).length+2,n+1,0,0)),.right _ (FP vO _ _), ?_⟩⟩
    have e0:MemOp.ofEvents 0 a.frame.fn a.frame.place #[]= #[]:=by simp [MemOp.ofEvents]
    rw [e0,Array.append_empty]
    exact z8 (hB.set0 _) (.pw hCh hBs (fun w₂ h=>by obtain⟨m',hm⟩:=hk w₂ h;exact⟨m',hm⟩) hBw) hL
  ·obtain⟨a',w',es,hgo,hD,hg'⟩:=hstep w (Aside.refl C w)
   refine own (μ':=(vs.length+2,(m'+1)+(n+1),0,0)) hgo (FP vO _ _) ?_
   rw [woken_run hrb]
   exact .ww (hCh.low hG hD.1) (E9 hG hBs hD _ _) hg' (hBw.rely (RS.of_low hD.1))
 |pw=>exact absurd hrun (by simp [parked])
 | @wp vs m p _ b0 x _ _ hCh hBs hA hx hst=>
  obtain⟨s1,r1,e⟩:=hCh.1
  rcases Goes.cases hA with hstop|⟨m',rfl,hstep⟩
  ·have hs:=hstop w (Aside.refl C w)
   cases vs with
   | nil=>
    -- it closes the other channel
    obtain⟨_,hmw,g',hg',hgo,m',hk⟩:=hs
    have hst2:∀w₂,RS Wg Low Cd Ce (w.setChan Ce 0 #[] true 0 0 false) w₂->StopB P ty Wg C Low Cd Ce vals Mine z0 z1 [] {parked (core b0) (bB Cd Ce x z0 z1) .select with status:= .running} w₂:=by
     intro w₂ h
     obtain⟨y,h1,h2,h3⟩:=hst w₂ ((RS.setE).trans h)
     refine⟨y,rfl, ?_,h3⟩
     have:stepG P false {parked (core b0) (bB Cd Ce x z0 z1) .select with status:= .running} w₂=stepG P false b0 w₂:=stepG_same rfl rfl rfl w₂
     rw [this];exact h2
    refine own (μ':=(1,0,4+2,m')) hgo (U5 vS _ _) ?_
    have hwk:Go.Conc.woken P a g' (w.setChan Ce 0 #[] true 0 0 false) (parked (core b0) (bB Cd Ce x z0 z1) .select)={parked (core b0) (bB Cd Ce x z0 z1) .select with status:= .running}:=by
     unfold Go.Conc.woken
     rw [if_pos (by rw [hmw,hg'];rfl)]
     exact Er (kL hCh.2)
    rw [hwk]
    refine .sa (d0:=0) (p:=p) ⟨⟨s1,r1,by rw [bR hG.DE];exact e⟩,kL hCh.2⟩ ?_ (.kd hk) hst2
    ·exact hBs.step0 _ _ (L9 hOk) (hBs.wg.of_block (bR (Ne.symm hG.EW))) (fun e=>by cases e)
   | cons v vs=>
    -- it meets the worker
    obtain⟨_,hcm,hk⟩:=hs
    obtain rfl:=hx v vs rfl
    have hlt0:0<gs.size:=(Array.getElem?_eq_some_iff.1 hB.h0).1
    have hp:partners (gs.setIfInBounds 0 ph) Cd true= [(c,0)]:=lX hc0 hB.hc Dj fun j g h1 h2 hg=>by
     rcases hB.get hg with ⟨h,_⟩|⟨h,_⟩|⟨_,_,h⟩
     ·exact absurd h h1
     ·exact absurd h h2
     ·exact jF h _ _
    have hm:=yE (P:=P) (sl:=sl) (i:=0) (k:=0) hB.h0 (show stepG P (0==0) a w=_ from hcm) e hc0 hB.hc rfl hp
    obtain⟨m',hk'⟩:=hk (w.setChan Cd 0 #[] false (s1+1) (r1+1) false) Aside.XW
    obtain⟨_,hB2⟩:=hst w (RS.refl w)
    obtain⟨n',hn'⟩:=hB2 (w.setChan Cd 0 #[] false (s1+1) (r1+1) false) RS.XW
    obtain⟨hf,hkeep⟩:=MC (P:=P) (z:=z) (sl:=sl) (μs:=(vs.length+2,(m'+1)+(n'+1),0,0)) (a':=Go.Conc.served (core a) x) (b':=Go.Conc.served (core b0) (commResult (bB Cd Ce x z0 z1) .select 0 undef false)) (AnchW:=AnchW) (Post:=Post) (n:=s1) (m:=r1)
     (w':=w.setChan Cd 0 #[] false (s1+1) (r1+1) false) (f0:=(core a).frame.fn) (p0:=(core a).frame.place) (f1:=(core b0).frame.fn) (p1:=(core b0).frame.place) hOk hc0 hB hL hBs (bR (Ne.symm hG.DW))
     (fun s' hb=> .ww ⟨⟨_,_,kL e⟩,by rw [bR (Ne.symm hG.DE)];exact hCh.2⟩ hb hk' hn') _ rfl
    refine⟨_,_,hm,.inl ⟨(sumTo c q,(vs.length+2,(m'+1)+(n'+1),0,0)),.right _ (U5 (show vs.length+2<(x :: vs).length+2 by simp) _ _), ?_⟩⟩
    have e0:MemOp.ofEvents 0 a.frame.fn a.frame.place #[]= #[]:=by simp [MemOp.ofEvents]
    rw [e0,Array.empty_append]
    exact hf _ (((hB.setc _).set0 _).ops _ hkeep)
  ·obtain⟨a',w',es,hgo,hD,hg'⟩:=hstep w (Aside.refl C w)
   refine own (μ':=(vs.length+2,m'+1,0,0)) hgo (FP vO _ _) ?_
   have hCh':=hCh.low hG hD.1
   obtain⟨s2,r2,e2⟩:=hCh'.1
   rw [zh _ _ e2 hCh'.2]
   exact .wp hCh' (E9 hG hBs hD _ _) hg' hx (fun w₂ h=>hst w₂ ((RS.of_low hD.1).trans h))
 | @sa n rp mp d0 p _ _ _ _ hCh hBs hp hBw=>
  obtain⟨a',w',ops,hX,hrc,hout⟩:=PA.moveA hG.hW hG.hC hG.CW hAn (b:=b) (sl:=none) hBs hp
  rw [duo_eq_crowd]at hX
  obtain⟨g0,g',w'',es,hg0,hgo,hm',rfl⟩:=runTX_next hX
  obtain rfl:g0=a:=by simpa using hg0.symm
  have hmm:g'=a'/\w''=w':=by
   have h0:=congrArg (fun m:Machine=>m.gs[0]?) hm'
   have h1:=congrArg (fun m:Machine=>m.world) hm'
   simp [crowd,duo]at h0 h1
   exact⟨h0.symm,h1.symm⟩
  obtain⟨rfl,rfl⟩:=hmm
  cases hout with
  |stay rp' d0' mp' hl hB' hp'=>
   refine own (μ':=(1,n,rp'+2,mp')) hgo (lt4_caller (lt2_shift 2 hl)) ?_
   rw [woken_run hBw.running]
   exact .sa (hCh.rca hG hrc) hB' hp' (hBw.rely (RS.of_a hrc))
  |reg mp' hB' hp'=>
   refine own (μ':=(1,n,1,mp')) hgo (lt4_caller (.left _ _ vO)) ?_
   rw [woken_run hBw.running]
   exact .sb (hCh.rca hG hrc) hB' hp' (hBw.rely (RS.of_a hrc))
 | @sb n rp mp p _ _ _ _ hCh hBs hp hBw=>
  obtain rfl:rp=1:=hp.status.elim (fun x=>x.1) (fun x=>by rw [x.2.1]at hrun;cases hrun)
  obtain⟨a',w',ops,hX,hrc,rp',mp',hl,hB',hp'⟩:=PB.move0 hG.hW hG.hC (b:=b) (sl:=none) hBs hp
  rw [duo_eq_crowd]at hX
  obtain⟨g0,g',w'',es,hg0,hgo,hm',rfl⟩:=runTX_next hX
  obtain rfl:g0=a:=by simpa using hg0.symm
  have hmm:g'=a'/\w''=w':=by
   have h0:=congrArg (fun m:Machine=>m.gs[0]?) hm'
   have h1:=congrArg (fun m:Machine=>m.world) hm'
   simp [crowd,duo]at h0 h1
   exact⟨h0.symm,h1.symm⟩
  obtain⟨rfl,rfl⟩:=hmm
  refine own (μ':=(1,n,rp',mp')) hgo (lt4_caller hl) ?_
  rw [woken_run hBw.running]
  exact .sb (hCh.low hG hrc) hB' hp' (hBw.rely (RS.of_low hrc))
include hG hOk hAr hAn in
theorem ZP{gs:Array Goroutine}{a b:Goroutine}{w:World}{sl:Option (Nat×Nat)}{s T:Trace}{q:Nat->Nat}{μs:Nat×Nat×Nat×Nat}(hB:Big P c gs a b T q)(hS:su P ty Wg C Low Cd Ce vals Mine AnchW Post z z0 z1 μs a b w s)(hL:Linked c t₀ s T)(hrun:b.status= .running):
  YO P ty Wg C Low Cd Ce vals Mine AnchW Post z z0 z1 c t₀ (sumTo c q,μs) (runT P (crowd gs w sl) c) T:=by
 have hc0:c≠0:=Nat.ne_of_gt hB.pos
 have hcb:(c==0)=false:=by simp [hc0]
 have own:∀{g':Goroutine} {w':World} {es:Array Event} {μ':Nat×Nat×Nat×Nat},stepG P false b w= .go g' w' es->Lt4 μ' μs->su P ty Wg C Low Cd Ce vals Mine AnchW Post z z0 z1 μ' (Go.Conc.woken P b g' w' a) g' w' (s++MemOp.ofEvents 1 b.frame.fn b.frame.place es)->
   YO P ty Wg C Low Cd Ce vals Mine AnchW Post z z0 z1 c t₀ (sumTo c q,μs) (runT P (crowd gs w sl) c) T:=by
  intro g' w' es μ' hgo hlt hS'
  exact⟨_,_,runT_crowd_go (P:=P) (sl:=sl) (i:=c) hB.hc (by rw [hcb];exact hgo),.inl ⟨(sumTo c q,μ'),.right _ hlt,z8 (hB.ownc _ _ _) hS' (hL.events hc0 (.inr rfl) _ _ _)⟩⟩
 -- at the select, the other channel closed
 have shut:∀{x:Value} {st:Int} {d0 p:Nat},KCa ty Wg w->Ch Cd Ce true w->qJ ty Wg C vals Mine st d0 w s p->(a.status≠ .blocked∨a.offers=none)->FI P ty Wg C Low Cd Ce vals Mine z0 z1 x b w->
   ∃ (b':Goroutine) (m:Nat) (op:MemOp),Goes P false (RCa ty Wg Low) (DCs Mine Wg C) (AtR0 P ty Wg C Low vals) m b' w/\qJ ty Wg C vals Mine st d0 w (s++ #[op]) p/\
    runT P (crowd gs w sl) c=(.next (crowd (gs.setIfInBounds c b') w sl),#[renOp c op])/\Linked c t₀ (s++ #[op]) (T++ #[renOp c op])/\Big P c (gs.setIfInBounds c b') a b' (T++ #[renOp c op]) q:=by
  intro x st d0 p hkc hCh hBs ha hs
  obtain⟨_,hcm,hk⟩:=hs
  obtain⟨m,hm⟩:=hk w (RS.refl w) hkc
  obtain⟨s1,r1,e⟩:=hCh.1
  have hnil:∀r sd,partners (gs.setIfInBounds c ph) r sd= []:=fun r sd=>zL fun j g hj hg=>by
   rcases hB.get hg with ⟨_,rfl⟩|⟨h,_⟩|⟨_,_,h⟩
   ·exact PS ha _ _
   ·exact absurd h hj
   ·exact jF h _ _
  have hr:=crowd_sel_recv_closed (P:=P) (sl:=sl) (i:=c) (k:=1) hB.hc (show stepG P (c==0) b w=_ by rw [hcb];exact hcm) (c:=Ce) (z:=z1) rfl (by
   intro m' c' hm' hc'
   match m' with
   |0=>
    simp [bB]at hc'
    subst hc'
    exact ways_send_none e vS (hnil _ _)
   |1=>exact absurd rfl hm'
   |(m'+2)=>simp [bB]at hc') hCh.2 (hnil _ _)
  let op:MemOp:={g:=1,fn:=(core b).frame.fn,pos:=(core b).frame.place,act:= .recvClosed Ce}
  refine⟨_,m,op,hm,Vn hBs (.inr rfl) (JV _) hOk.recvClosed, ?_, ?_,(hB.setc _).ops _ (by intro y hy;simp [op,renOp,renAct]at hy;subst hy;exact⟨vS,vS⟩)⟩
  ·have e0:MemOp.ofEvents c b.frame.fn b.frame.place #[]= #[]:=by simp [MemOp.ofEvents]
   rw [hr,e0,Array.empty_append]
   rfl
  ·have:=Linked.boths hc0 [op] (by intro y hy;simp at hy;subst hy;exact .inr rfl) hL
   simpa using this
 cases hS with
 | @ww vs m n p _ _ _ _ hCh hBs hA hBw=>
  have hra:=hA.running
  rcases Goes.cases hBw with hstop|⟨n',rfl,hstep⟩
  ·
   obtain⟨x,⟨_,hcm,_⟩,hx⟩:=(hstop w (RS.refl w)).sel
   obtain⟨s1,r1,e⟩:=hCh.1
   have hnil:∀r sd,partners (gs.setIfInBounds c ph) r sd= []:=fun r sd=>zL fun j g hj hg=>by
    rcases hB.get hg with ⟨_,rfl⟩|⟨h,_⟩|⟨_,_,h⟩
    ·exact IC hra _ _
    ·exact absurd h hj
    ·exact jF h _ _
   have hw:=crowd_waits (P:=P) (sl:=sl) (i:=c) hB.hc (show stepG P (c==0) b w=_ by rw [hcb];exact hcm) (by
    intro cc hcc
    simp only [bB,List.mem_toArray,List.mem_cons,List.not_mem_nil,or_false]at hcc
    rcases hcc with rfl|rfl
    ·exact ways_send_none e vS (hnil _ _)
    ·exact ways_recv_none hCh.2 (hnil _ _))
   refine⟨_,_,hw,.inl ⟨(sumTo c q,(vs.length+2,m+1,0,0)),.right _ (FP vO _ _), ?_⟩⟩
   have e0:MemOp.ofEvents c b.frame.fn b.frame.place #[]= #[]:=by simp [MemOp.ofEvents]
   rw [e0,Array.append_empty]
   exact z8 (hB.setc _) (.wp hCh hBs hA hx hstop) hL
  ·obtain⟨b',w',es,hgo,hD,hg'⟩:=hstep w (RS.refl w)
   refine own (μ':=(vs.length+2,(m+1)+(n'+1),0,0)) hgo (FP vO _ _) ?_
   rw [woken_run hra]
   exact .ww (hCh.own hG hD.1) (qb hG hBs hD _ _) (hA.rely hD.1) hg'
 | @pw v vs n p a0 _ _ _ hCh hBs hK hBw=>
  rcases Goes.cases hBw with hstop|⟨n',rfl,hstep⟩
  ·
   obtain⟨⟨_,hcm,_⟩,hB2⟩:=hstop w (RS.refl w)
   obtain⟨s1,r1,e⟩:=hCh.1
   have hp:partners (gs.setIfInBounds c ph) Cd false= [(0,0)]:=lX (Ne.symm hc0) hB.h0 (by rw [offersAt_parked_recv];simp) fun j g h1 h2 hg=>by
    rcases hB.get hg with ⟨h,_⟩|⟨h,_⟩|⟨_,_,h⟩
    ·exact absurd h h2
    ·exact absurd h h1
    ·exact jF h _ _
   have hnil:partners (gs.setIfInBounds c ph) Ce true= []:=zL fun j g hj hg=>by
    rcases hB.get hg with ⟨_,rfl⟩|⟨h,_⟩|⟨_,_,h⟩
    ·exact offersAt_parked_recv' _ _ _ _ _
    ·exact absurd h hj
    ·exact jF h _ _
   have hm:=yD (P:=P) (sl:=sl) (i:=c) (k:=0) (c:=Cd) (v:=v) (z:=z0) hB.hc (show stepG P (c==0) b w=_ by rw [hcb];exact hcm) rfl (by
    intro m' c' hm' hc'
    match m' with
    |0=>exact absurd rfl hm'
    |1=>
     simp [bB]at hc'
     subst hc'
     exact ways_recv_none hCh.2 hnil
    |(m'+2)=>simp [bB]at hc') e (Ne.symm hc0) hB.h0 hp
   obtain⟨m',hk'⟩:=hK (w.setChan Cd 0 #[] false (s1+1) (r1+1) false) Aside.XW
   obtain⟨n',hn'⟩:=hB2 (w.setChan Cd 0 #[] false (s1+1) (r1+1) false) RS.XW
   obtain⟨hf,hkeep⟩:=MC (P:=P) (z:=z) (sl:=sl) (μs:=(vs.length+2,(m'+1)+(n'+1),0,0)) (a':=Go.Conc.served a0 v) (b':=Go.Conc.served (core b) (commResult (bB Cd Ce v z0 z1) .select 0 undef false)) (AnchW:=AnchW) (Post:=Post) (n:=s1) (m:=r1)
    (w':=w.setChan Cd 0 #[] false (s1+1) (r1+1) false) (f0:=a0.frame.fn) (p0:=a0.frame.place) (f1:=(core b).frame.fn) (p1:=(core b).frame.place) hOk hc0 hB hL hBs (bR (Ne.symm hG.DW))
    (fun s' hb=> .ww ⟨⟨_,_,kL e⟩,by rw [bR (Ne.symm hG.DE)];exact hCh.2⟩ hb hk' hn') _ rfl
   refine⟨_,_,hm,.inl ⟨(sumTo c q,(vs.length+2,(m'+1)+(n'+1),0,0)),.right _ (U5 (show vs.length+2<(v :: vs).length+2 by simp) _ _), ?_⟩⟩
   have e0:MemOp.ofEvents c b.frame.fn b.frame.place #[]= #[]:=by simp [MemOp.ofEvents]
   rw [e0,Array.empty_append]
   exact hf _ (((hB.set0 _).setc _).ops _ hkeep)
  ·obtain⟨b',w',es,hgo,hD,hg'⟩:=hstep w (RS.refl w)
   refine own (μ':=((v :: vs).length+2,n'+1,0,0)) hgo (FP vO _ _) ?_
   have hbs:=qb hG hBs hD b.frame.fn b.frame.place
   have hCh':=hCh.own hG hD.1
   obtain⟨s1,r1,e⟩:=hCh'.1
   rw [woken_recv_open _ _ e]
   exact .pw hCh' hbs (fun w₂ h=>hK w₂ (CQ (LX hD.1) h)) hg'
 |wp=>exact absurd hrun (by simp [parked])
 | @sa n rp mp d0 p _ _ _ _ hCh hBs hp hBw=>
  rcases Goes.cases hBw with hstop|⟨n',rfl,hstep⟩
  ·obtain⟨x,hsel⟩:=hstop w (RS.refl w)
   obtain⟨b',m,op,h1,h2,h3,h4,h5⟩:=shut (.inl hBs.wg) hCh hBs (.inl (by rw [hp.running hAr];simp)) hsel
   refine⟨_,_,h3,.inr ⟨_,_,a,b',w,sl,_,q,_,rfl,h5,.a a b' w none _ p d0 0 7 m rp mp false false vals [] vS h2 hp (.r0 h1),h4,rfl⟩⟩
  ·obtain⟨b',w',es,hgo,hD,hg'⟩:=hstep w (RS.refl w)
   refine own (μ':=(1,n',rp+2,mp)) hgo (FP vO _ _) ?_
   have hbs:=qb hG hBs hD b.frame.fn b.frame.place
   rw [woken_run (hp.running hAr)]
   exact .sa (hCh.own hG hD.1) hbs (hp.rely (rpa_of_a hBs.wg (.of_C hD.1) (.inl hbs.wg))) hg'
 | @sb n rp mp p _ _ _ _ hCh hBs hp hBw=>
  rcases Goes.cases hBw with hstop|⟨n',rfl,hstep⟩
  ·obtain⟨x,hsel⟩:=hstop w (RS.refl w)
   obtain⟨b',m,op,h1,h2,h3,h4,h5⟩:=shut (.inr hBs.wg) hCh hBs hp.noPartner hsel
   refine⟨_,_,h3,.inr ⟨_,_,a,b',w,sl,_,q,_,rfl,h5,.b a b' w none _ p 0 7 m rp mp false false vals [] vS h2 hp (.r0 h1),h4,rfl⟩⟩
  ·obtain⟨b',w',es,hgo,hD,hg'⟩:=hstep w (RS.refl w)
   have hbs:=qb hG hBs hD b.frame.fn b.frame.place
   obtain⟨r',m',hp'⟩:=(hp.rely (rpb_of_0 hBs.wg (.of_C hD.1) (.inl hbs.wg))).woken (b:=b) (b':=b')
   refine own (μ':=(1,n',r',m')) hgo (FP vO _ _) ?_
   exact .sb (hCh.own hG hD.1) hbs hp' hg'
include hG hOk hAr hAn in
theorem ab2(μ:Nat×(Nat×Nat×Nat×Nat))(M:Machine)(T:Trace)(h:VF P ty Wg C Low Cd Ce vals Mine AnchW Post z z0 z1 c t₀ μ M T):
  YO P ty Wg C Low Cd Ce vals Mine AnchW Post z z0 z1 c t₀ μ (stepT P M) T:=by
 obtain⟨gs,a,b,w,sl,s,q,μs,rfl,hB,hS,hL,rfl⟩:=h
 obtain⟨awa,awb,hrun⟩:=hS.awake hAr
 have haw:∀g∈gs,awake g:=by
  intro g hg
  obtain⟨i,hi,rfl⟩:=Array.mem_iff_getElem.1 hg
  rcases hB.get (Array.getElem?_eq_getElem hi)with ⟨_,e⟩|⟨_,e⟩|⟨_,_,h⟩
  ·rw [e];exact awa
  ·rw [e];exact awb
  ·exact awake_of (h.status.elim .inl fun x=> .inr (.inr x))
 obtain⟨i,g,d,sl',hi,hg,hst⟩:=crowd_pick (P:=P) (w:=w) (sl:=sl) haw (hrun.elim (fun x=>⟨0,a,hB.h0,x⟩) (fun x=>⟨c,b,hB.hc,x⟩))
 have hSd:=hS.at d
 rw [hst]
 rcases hB.get hi with ⟨rfl,rfl⟩|⟨rfl,rfl⟩|⟨h0,hc,hq⟩
 ·exact ZT hG hOk hAr hAn hB hSd hL hg
 ·exact ZP hG hOk hAr hAn hB hSd hL hg
 ·cases hqi:q i with
  |zero=>rw [hqi]at hq;rw [hq.1]at hg;cases hg
  | succ k=>
   rw [hqi]at hq
   rcases hq with ⟨hf,_⟩|⟨_,g',es,hm,hstp,hq'⟩
   ·rw [hf]at hg;cases hg
   have hi0:(i==0)=false:=vQ
   have hrunT:=runT_crowd_go (P:=P) (sl:=sl') (i:=i) hi (by rw [hi0];exact hstp (w.at d))
   have hsum:sumTo c (upd q i k)+(k+1)=sumTo c q+k:=by
    have:=sumTo_upd q k id hc
    simpa [hqi]using this
   obtain⟨μ',hS'⟩:=hSd.woken hAr g g'
   refine⟨_,_,hrunT,.inl ⟨(sumTo c (upd q i k),μ'),.left _ _ vO,z8 (hB.slip _ hi h0 hc _ _ es ?_) hS' (hL.mutes vO vO _ _ hm)⟩⟩
   rw [Deaf_own]
   exact hq'
include hG hOk hAr hAn in
theorem abE:∀ (μ:Nat×(Nat×Nat×Nat×Nat)) (M:Machine) (T:Trace),VF P ty Wg C Low Cd Ce vals Mine AnchW Post z z0 z1 c t₀ μ M T->∃N M' T' μ',runNT P N M T=(.next M',T')/\GInv P ty Wg C Low vals Mine AnchW Post c t₀ μ' M' T':=by
 intro μ
 induction μ using ltG_wf.induction with
 | _ μ ih=>
  intro M T h
  obtain⟨M',ops,hs,h|⟨μ',h⟩⟩:=ab2 hG hOk hAr hAn μ M T h
  ·obtain⟨μ',hlt,hI⟩:=h
   obtain⟨N,M'',T'',μ'',hr,hd⟩:=ih μ' hlt M' _ hI
   exact⟨N+1,M'',T'',μ'',by simp only [runNT,hs];exact hr,hd⟩
  ·exact⟨1,M',T++ops,μ',by simp only [runNT,hs],h⟩
end
end
section
open Go Go.Conc Go.ConcX
open Go.ConcN (sumTo upd sumTo_upd upd_ne upd_same)
variable [Payload]
section
variable (P:Program) (ty:TypeId) (Wg C Low Cd Ce:Nat) [Shy Wg C] (vals:List Value) (Mine:Loc->Prop) (AnchW:Goroutine->World->Prop) (z z0 z1:Value) (vs:List Value)
def AtGoS(a:Goroutine)(w:World):Prop:=
 a.status= .running/\∃ (a' child:Goroutine) (w':World) (es:Array Event),stepG P true a w= .spawn a' child w' es/\(∀e∈es,EvS Wg C e)/\WgAt ty Wg w' KK 0/\Ch Cd Ce false w'/\
  (∃m,WalkA P ty Wg C Low Cd Ce vals Mine AnchW z vs m a' w')/\∃n,yR P ty Wg C Low Cd Ce vals Mine z0 z1 vs n child w'
def XY(a:Goroutine)(w:World):Prop:=
 ∃n,Goes P true AtRel (DE (EvS Wg C)) (AtMkS P .disable fun a w=>∃n,Goes P true AtRel (DE (EvS Wg C)) (AtMkS P .enable fun a w=>∃n,Goes P true AtRel (DE (EvS Wg C)) (AtGoS P ty Wg C Low Cd Ce vals Mine AnchW z z0 z1 vs) n a w) n a w) n a w
end
section
variable {P:Program} {ty:TypeId} {Wg C Low Cd Ce:Nat} [Shy Wg C] {vals:List Value} {Mine:Loc->Prop} {AnchW:Goroutine->World->Prop} {Post:Value->World->Prop} {z z0 z1:Value} {vs:List Value} {t₀:Trace}
theorem OA{gs:Array Goroutine}{a:Goroutine}{w:World}{sl:Option (Nat×Nat)}{q:Nat->Nat}(h0:gs[0]? =some a)(hL:Leavers P t₀ gs q)(hear:Deaf t₀ 0=0)
  (h:XY P ty Wg C Low Cd Ce vals Mine AnchW z z0 z1 vs a w):
  ∃N M T μ,runNT P N (crowd gs w sl) t₀=(.next M,T)/\VF P ty Wg C Low Cd Ce vals Mine AnchW Post z z0 z1 gs.size t₀ μ M T:=by
 have hpos:0<gs.size:=(Array.getElem?_eq_some_iff.1 h0).1
 have hc0:gs.size≠0:=vO
 obtain⟨n0,g0⟩:=h
 obtain⟨N0,gs0,a0,w0,sl0,T0,q0,s0,d0,sl0',r0,z0',h00,L0,ST0,K0,⟨_,a0',go0,n1,g1⟩,st0⟩:=
  lone_beside (c:=gs.size) (t₀:=t₀) (fun _ _ x=>x.1) hc0 _ n0 gs a w sl t₀ q #[] 0 rfl (Nat.le_refl _) h0 hL ST.nil ⟨id,Link.init hear (hL.above _ (Nat.le_refl _)) id⟩ g0
 have p0:0<gs0.size:=vO
 have e0:=runNT_then r0 (st0.trans (runT_crowd_go (P:=P) (i:=0) h00 (show stepG P (0==0) a0 (w0.at d0)=_ from go0)))
 obtain⟨N1,gs1,a1,w1,sl1,T1,q1,s1,d1,sl1',r1,z1',h01,L1,ST1,K1,⟨_,a1',go1,n2,g2⟩,st1⟩:=
  lone_beside (c:=gs.size) (t₀:=t₀) (fun _ _ x=>x.1) hc0 _ n1 ((gs0.map (Go.Conc.woken P a0 a0' (w0.at d0))).setIfInBounds 0 a0') a0' (w0.at d0) sl0' (T0++MemOp.ofEvents 0 a0.frame.fn a0.frame.place #[mk .disable]) q0
   (s0++MemOp.ofEvents 0 a0.frame.fn a0.frame.place #[mk .disable]) 1 rfl (by simp [z0']) (by simp [p0]) (L0.own p0 _ _ _)
   (ST0.mark a0.frame.fn a0.frame.place .disable rfl vS vS Shy.disable) (K0.events hc0 (.inl rfl) a0.frame.fn a0.frame.place _) g1
 have z1'':gs1.size=gs.size:=by rw [z1'];simp [z0']
 have p1:0<gs1.size:=vO
 have e1:=runNT_then (runNT_trans e0 r1) (st1.trans (runT_crowd_go (P:=P) (i:=0) h01 (show stepG P (0==0) a1 (w1.at d1)=_ from go1)))
 obtain⟨N2,gs2,a2,w2,sl2,T2,q2,s2,d2,sl2',r2,z2,h02,L2,ST2,K2,⟨_,a',child,w',es,hsp,hes,hwg,hCh,⟨mA,hA⟩,⟨mC,hC0⟩⟩,st2⟩:=
  lone_beside (c:=gs.size) (t₀:=t₀) (fun _ _ x=>x.1) hc0 _ n2 ((gs1.map (Go.Conc.woken P a1 a1' (w1.at d1))).setIfInBounds 0 a1') a1' (w1.at d1) sl1' (T1++MemOp.ofEvents 0 a1.frame.fn a1.frame.place #[mk .enable]) q1
   (s1++MemOp.ofEvents 0 a1.frame.fn a1.frame.place #[mk .enable]) 0 rfl (by simp [z1'']) (by simp [p1]) (L1.own p1 _ _ _)
   (ST1.mark a1.frame.fn a1.frame.place .enable rfl vS vS Shy.enable) (K1.events hc0 (.inl rfl) a1.frame.fn a1.frame.place _) g2
 have z2':gs2.size=gs.size:=by rw [z2];simp [z1'']
 have p2:0<gs2.size:=vO
 have e2:=runNT_then (runNT_trans e1 r2) (st2.trans (runT_crowd_spawn (P:=P) (i:=0) h02 (show stepG P (0==0) a2 (w2.at d2)=_ from hsp)))
 have hST:=ST2.events a2.frame.fn a2.frame.place hes
 obtain⟨hJT,hd0,hd1,hna⟩:=JT.init (Mine:=Mine) (x:={g:=0,fn:=a2.frame.fn,pos:=a2.frame.place,act:= .go 1}) (y:={g:=1,fn:=child.frame.fn,pos:=a2.frame.place,act:= .start}) hST ⟨rfl,rfl⟩ ⟨rfl,rfl⟩
 obtain⟨φ,Lk⟩:=K2.events hc0 (.inl rfl) a2.frame.fn a2.frame.place es
 have Lk2:=(Lk.both hc0 (op:={g:=0,fn:=a2.frame.fn,pos:=a2.frame.place,act:= .go 1}) (.inl rfl)).both hc0 (op:={g:=1,fn:=child.frame.fn,pos:=a2.frame.place,act:= .start}) (.inr rfl)
 have keep:∀op∈((MemOp.ofEvents 0 a2.frame.fn a2.frame.place es).push {g:=0,fn:=a2.frame.fn,pos:=a2.frame.place,act:= .go gs2.size}).push {g:=gs2.size,fn:=child.frame.fn,pos:=a2.frame.place,act:= .start},op.act≠ .mark .disable/\op.act≠ .mark .enable:=by
  intro op hop
  simp only [Array.mem_push]at hop
  rcases hop with (hop|rfl)|rfl
  ·rw [ofEvents_eq]at hop
   obtain⟨e,he,rfl⟩:=Array.mem_map.1 hop
   exact⟨(hes e he).2.2.2.1,(hes e he).2.2.2.2.1⟩
  ·simp
  ·simp
 refine⟨_,_,_,(sumTo gs.size q2,(vs.length+2,(mA+1)+(mC+1),0,0)),e2,(gs2.setIfInBounds 0 a').push child,a',child,w',sl2',_,q2,_,rfl,⟨by simp [z2'],hpos, ?_, ?_,fun j x hj hjc hx=> ?_,fun j hj=> ?_⟩,
  .ww (p:=(s2++MemOp.ofEvents 0 a2.frame.fn a2.frame.place es).size) hCh ⟨hwg,(fun e=>by cases e),hJT,hd0,hd1,(fun _=>hna),fun e=>by cases e⟩ hA hC0, ?_,rfl⟩
 ·rw [Array.getElem?_push_lt (by simpa using p2)];simp
 ·have e:gs.size=(gs2.setIfInBounds 0 a').size:=by simp [z2']
  rw [e,Array.getElem?_push_size]
 ·have hx':gs2[j]? =some x:=by
   rw [Array.getElem?_push,if_neg vQ,Array.getElem?_setIfInBounds_ne vO]at hx
   exact hx
  rw [Deaf_keep _ j _ keep]
  exact L2.old j x hj hx'
 ·rw [Deaf_keep _ j _ keep]
  exact L2.above j vO
 ·have e3:((s2++MemOp.ofEvents 0 a2.frame.fn a2.frame.place es).push {g:=0,fn:=a2.frame.fn,pos:=a2.frame.place,act:= .go 1}).push {g:=1,fn:=child.frame.fn,pos:=a2.frame.place,act:= .start}
    =s2++MemOp.ofEvents 0 a2.frame.fn a2.frame.place es++ #[{g:=0,fn:=a2.frame.fn,pos:=a2.frame.place,act:= .go 1}]++ #[{g:=1,fn:=child.frame.fn,pos:=a2.frame.place,act:= .start}]:=vS
  have e4:T2++((MemOp.ofEvents 0 a2.frame.fn a2.frame.place es).push {g:=0,fn:=a2.frame.fn,pos:=a2.frame.place,act:= .go gs2.size}).push {g:=gs2.size,fn:=child.frame.fn,pos:=a2.frame.place,act:= .start}
    =T2++MemOp.ofEvents (renG gs.size 0) a2.frame.fn a2.frame.place es++ #[renOp gs.size {g:=0,fn:=a2.frame.fn,pos:=a2.frame.place,act:= .go 1}]++ #[renOp gs.size {g:=1,fn:=child.frame.fn,pos:=a2.frame.place,act:= .start}]:=by
   simp [renOp,renG,renAct,z2']
  rw [e3,e4]
  exact⟨_,Lk2⟩
end
end
section
open Go Go.Conc
inductive Ord(md:Region.Mode)(ops:Array Oper):Nat->Array Bool->List Nat->Prop
 |zero {L:Array Bool}:Ord md ops 0 L []
 |stop {n:Nat} {L:Array Bool}:Region.ready md ops L= []->Ord md ops n L []
 |cons {n i:Nat} {L:Array Bool} {l:List Nat}:i∈Region.ready md ops L->Ord md ops n (L.setIfInBounds i true) l->Ord md ops (n+1) L (i :: l)
theorem abV(md:Region.Mode)(ops:Array Oper):∀ (fuel t:Nat) (L:Array Bool),Ord md ops fuel L (Region.linearise.go md ops fuel t L []):=by
 intro fuel
 induction fuel with
 |zero=>intro t L;exact .zero
 | succ fuel ih=>
  intro t L
  simp only [Region.linearise.go]
  change Ord md ops (fuel+1) L (match(Region.ready md ops L)[t % (Region.ready md ops L).length]? with
   |some i=>Region.linearise.go md ops fuel (t / (Region.ready md ops L).length) (L.setIfInBounds i true) [i]
   |none=> [].reverse)
  cases hi:(Region.ready md ops L)[t % (Region.ready md ops L).length]? with
  | none=>
   refine .stop ?_
   cases hr:Region.ready md ops L with
   |nil=>rfl
   |cons x xs=>
    rw [hr]at hi
    have hlt:t % (x :: xs).length<(x :: xs).length:=Nat.mod_lt _ vS
    simp at hi
    simp at hlt
    omega
  |some i=>
   simp only []
   rw [linearise_go_acc,List.reverse_singleton,List.singleton_append]
   exact .cons (List.mem_of_getElem? hi) (ih _ _)
theorem M9{ops:Array Oper}{mixed:Bool}(h:mixed=true)(t:Nat):Ord .any ops ops.size (Array.replicate ops.size false) (Region.schedule mixed ops t):=by
 subst h
 have:Region.schedule true ops t=Region.linearise.go .any ops ops.size t (Array.replicate ops.size false) []:=by simp [Region.schedule,Region.linearise]
 rw [this]
 exact abV _ _ _ _ _
theorem aal{md:Region.Mode}{ops:Array Oper}{L:Array Bool}{l:List Nat}(h:Ord md ops 0 L l):l= []:=by cases h <;> rfl
end
section
open Go Go.Conc Go.ConcX
theorem iI{P:Program}{main:Bool}{R:World->World->Prop}{D:World->World->Array Event->Prop}{S S':Goroutine->World->Prop}(h:∀g w,S g w->S' g w):∀ (n:Nat) {g:Goroutine} {w:World},Goes P main R D S n g w->Goes P main R D S' n g w
 |0,_,_,hg=>fun w₁ r=>h _ _ (hg w₁ r)
 | n+1,_,_,hg=>hg.imp (fun x w₁ r=>h _ _ (x w₁ r)) fun x=>⟨x.1,fun w₁ r=>by
   have:=x.2 w₁ r
   revert this
   unfold GStep.goes
   split
   ·exact fun y=>⟨y.1,iI h n y.2⟩
   ·exact id⟩
section
variable [Payload] {P:Program} {ty:TypeId} {Wg C Low:Nat} [Shy Wg C] {vals:List Value} {Mine:Loc->Prop} {A A':Goroutine->World->Prop} {Post:Value->World->Prop}
theorem VU(h:∀g w,A g w->A' g w){g:Goroutine}{w:World}(hk:AtKd P ty Wg C Low vals Mine A g w):AtKd P ty Wg C Low vals Mine A' g w:=by
 obtain⟨h1,g',h2,m,h3⟩:=hk
 exact⟨h1,g',h2,m,iI h m h3⟩
theorem WA(h:∀g w,A g w->A' g w){g:Goroutine}{w:World}(hk:AtW2 P ty Wg C Low vals Mine A Post g w):AtW2 P ty Wg C Low vals Mine A' Post g w:=by
 obtain⟨h1,h2,h3⟩:=hk
 exact⟨h1,h2,fun k=>let ⟨g',e,m,hm⟩:=h3 k;⟨g',e,m,iI h m hm⟩⟩
theorem WZ(h:∀g w,A g w->A' g w){g:Goroutine}{w:World}(hk:AtW1 P ty Wg C Low vals Mine A Post g w):AtW1 P ty Wg C Low vals Mine A' Post g w:=by
 obtain⟨h1,g',h2,h3,h4⟩:=hk
 exact⟨h1,g',h2,fun k=>let ⟨m,hm⟩:=h3 k;⟨m,iI (fun g w=>WA h) m hm⟩,h4⟩
end
theorem RB{P:Program}(w:World)(base:Nat)(t ty e:TypeId)(i:TypeInfo)(z:Value)(bytes:Nat)(ht:P.underlying t=some (.slice e))(hi:P.info? e=some i)(hz:i.zero=some z)
  (hsize:i.size=1) (hby:i.bytes=bytes) (v:Value) (n:Nat) (xs:List Value) (hown:w.ownsRow base e 1 v n xs)
  (a:Addr) (c:Nat) (x:Value) (hnews:∀j u,[x][j]? =some u->w.cell? (a.add j)=some u) (h1:x.oneCell'=true)
  (h63:n+1<=maxLen) (hbytes:(n+1)*bytes<=140737488355328) (v':Value) (w':World) (hr:(Builtin.append_ #[t,t] ty #[v,.slice (some a) 1 c]).run P w= .ok v' w'):w'.1.size<=w.1.size+1:=by
 subst hby
 have hsmall:n+1<=9223372036854775807:=by simp only [maxLen]at h63;omega
 have h1':∀u∈ [x],u.oneCell'=true:=by intro u hu;simp at hu;subst hu;exact h1
 rcases hown.2 with ⟨rfl,rfl⟩|⟨g,cap,cur,rfl,hbg,hg,hnc,hcm,hcs,htake⟩
 ·have:=run_append_nil (P:=P) w t ty e i z ht hi hz a 1 c [x] (by simp [hsize]) hnews vO vO (by have hb:=hbytes;simp only [Nat.zero_add]at hb;omega)
  rw [this]at hr
  cases hr
  simp
 ·by_cases hroom:n+1<=cap
  ·have:=run_append_room (P:=P) w t ty e i ht hi g n cap cur hg a 1 c [x] (by simp [hsize]) hnews h1' hroom (by simp [hsize];omega)
   rw [this]at hr
   cases hr
   simp
  ·have holds:∀j u,xs[j]? =some u->w.cell? ((⟨g,0,none⟩:Addr).add j)=some u:=hown.cells (g:=g) rfl
   have:=run_append_grow (P:=P) w t ty e i z ht hi hz ⟨g,0,none⟩ n cap xs (by rw [hown.1,hsize]) holds a 1 c [x] (by simp [hsize]) hnews vO vO (growslice_fits vO hbytes)
   rw [this]at hr
   cases hr
   simp
end
section
open Go Go.Conc Go.ConcX
open Go.ConcN (sumTo upd sumTo_upd upd_ne upd_same)
variable [Payload]
def OfS(Wg Ce:Nat)(l:Loc):Prop:=OfWg Wg l∨l= .obj Ce
def okS(Shun Mine:Loc->Prop)(B' Wg Ce:Nat)(act:MemAct):Prop:=
 (∀x,act.touch?=some x->(Shun x.loc->x.kind≠ .plain)/\(x.kind= .atomic->OfS Wg Ce x.loc∨Mine x.loc)/\(x.loc= .obj Ce->x.kind≠ .plain))/\act.low B'/\∀k,act= .go k->k=1
omit [Payload] in
theorem iX{Shun Mine:Loc->Prop}{B' Wg Ce:Nat}{act:MemAct}(h:act.touch?=none)(hl:act.low B')(hg:∀k,act≠ .go k):okS Shun Mine B' Wg Ce act:=
 ⟨fun x hx=>(by rw [h]at hx;cases hx),hl,fun k e=>absurd e (hg k)⟩
omit [Payload] in
theorem VA{Shun Mine:Loc->Prop}{B' Wg Ce:Nat}(a:Addr)(wr:Bool)(hS:¬ Shun (.cell a))(hB:a.block<B'):okS Shun Mine B' Wg Ce (.access ⟨.cell a,wr,false⟩):=by
 refine⟨fun x hx=> ?_,hB,fun k e=>by cases e⟩
 simp only [MemAct.touch?,Option.some.injEq]at hx
 subst hx
 exact⟨fun h=>absurd h hS,(fun e=>by simp at e),fun e=>by cases e⟩
@[reducible] def shyS(Shun Mine:Loc->Prop)(B' Wg C Ce:Nat)(stop:Goroutine->World->Prop)(hW:Wg<B')(hC:C<B')(hCS:∀a:Addr,a.block=C->¬ Shun (.cell a)):Shy Wg C where
 ok:=okS Shun Mine B' Wg Ce
 atomicWg a wr h:=⟨fun x hx=>by simp only [MemAct.touch?,Option.some.injEq]at hx;subst hx;exact⟨fun _=>by simp,(fun _=> .inl (.inl ⟨a,rfl,h⟩)),fun _=>by simp⟩,(by show a.block<B';omega),fun k e=>by cases e⟩
 readWg a h:=⟨fun x hx=>by simp only [MemAct.touch?,Option.some.injEq]at hx;subst hx;exact⟨fun _=>by simp,(fun e=>by cases e),fun _=>by simp⟩,(by show a.block<B';omega),fun k e=>by cases e⟩
 writeWg a h:=⟨fun x hx=>by simp only [MemAct.touch?,Option.some.injEq]at hx;subst hx;exact⟨fun _=>by simp,(fun e=>by cases e),fun _=>by simp⟩,(by show a.block<B';omega),fun k e=>by cases e⟩
 theirs a wr h:=VA a wr (hCS a h) vO
 disable:=iX rfl trivial (fun k e=>by cases e)
 enable:=iX rfl trivial (fun k e=>by cases e)
 relMerge:=iX rfl hW (fun k e=>by cases e)
 acquire:=iX rfl hW (fun k e=>by cases e)
 go1:=⟨fun x hx=>(by cases hx),trivial,fun k e=>by cases e;rfl⟩
 start:=iX rfl trivial (fun k e=>by cases e)
 stop:=stop
section
variable {P:Program} {ty:TypeId} {Wg C Low Ce:Nat} [Shy Wg C] {vals:List Value} {Mine:Loc->Prop} {Post:Value->World->Prop} {c:Nat} {t₀:Trace} {Shun:Loc->Prop} {B B':Nat}
omit [Payload] in
theorem R8(hMS:∀l,Mine l->¬ ShT Wg C l)(hok:∀act,Shy.ok Wg C act->okS Shun Mine B' Wg Ce act){s:Trace}{p:Nat}(hj:JT Mine Wg C s p)(hA:Acq Wg s){i:Nat}{a:Touch}(ha:touchAt s i=some a)(hm:a.loc.isMemory=true):
  Knows s 0 i∨(OfS Wg Ce a.loc/\a.kind= .atomic):=by
 obtain⟨op,hop,hoa⟩:=touch_of ha
 have own:=knows_own hop
 rcases hj.fm.two hop with g0|g1
 ·rw [g0]at own;exact .inl own
 obtain⟨q,r,hr,hq,hqg,hqh,hrq⟩:=hA
 have hig:s.g? i=some 1:=by simp [Trace.g?,hop,g1]
 by_cases hri:r<i
 ·right
  have hk:a.kind= .atomic:=Classical.byContradiction fun hk=>hr.after i hri hig ⟨a,ha,hm,.inl hk⟩
  refine⟨(((hok _ (hj.oks op (mem_of_getElem? hop))).1 a hoa).2.1 hk).resolve_right fun hm=> ?_,hk⟩
  have hpi:p+1<i:=by
   obtain⟨st,hst,st1,st2⟩:=hj.fm.start
   obtain⟨gp,hgp,gp1,gp2⟩:=hj.fm.go
   rcases Nat.lt_trichotomy i (p+1)with h|h|h
   ·rcases Nat.lt_or_ge i p with h'|h'
    ·have:=hj.fm.early i op hop h';omega
    ·have:i=p:=vO
     subst this
     rw [hgp]at hop
     cases hop
     omega
   ·subst h
    rw [hst]at hop
    cases hop
    rw [st2]at hoa
    cases hoa
   ·exact h
  rcases(hj.fm.late i op hop hpi).2 a hoa with h|⟨h,_⟩|⟨_,_,h⟩
  ·exact hMS _ hm h
  ·omega
  ·exact h hm
 ·left
  obtain⟨zq,hzq,hzg⟩:=Option.map_eq_some_iff.1 hqg
  have e1:HappensBefore s r q:= .single (.inr ⟨.marked hrq (.inr hr.act) hq (fun k _ _=>hj.norel k),hr.heard,hqh⟩)
  refine⟨q,zq,hzq,hzg,.inr ?_⟩
  by_cases hir:i=r
  ·rw [hir];exact e1
  ·exact .trans (.single (.inl ⟨vO,1,hig,hr.g⟩)) e1
omit [Payload] in
theorem OV{s:Trace}{p:Nat}(hj:JT Mine Wg C s p){i:Nat}(hi:s.g? i=some 1):∃j,s.g? j=some 0/\HappensBefore s j i:=by
 obtain⟨gp,hgp,gp1,gp2⟩:=hj.fm.go
 obtain⟨st,hst,st1,st2⟩:=hj.fm.start
 obtain⟨op,hop,hog⟩:=Option.map_eq_some_iff.1 hi
 have e1:HappensBefore s p (p+1):= .single (.inr ⟨.spawn (child:=1) (by rw [act?_of hgp,gp2]) (by rw [act?_of hst,st2]) (by simp [Trace.g?,hst,st1]),hj.fm.hgo,hj.fm.hstart⟩)
 refine⟨p,by simp [Trace.g?,hgp,gp1], ?_⟩
 have hpi:p<i:=by
  rcases Nat.lt_trichotomy i p with h|h|h
  ·have:=hj.fm.early i op hop h;omega
  ·subst h;rw [hgp]at hop;cases hop;omega
  ·exact h
 by_cases h:i=p+1
 ·rw [h];exact e1
 ·exact e1.trans (hb_po vO hst hop (st1.trans hog.symm))
theorem SL(hMS:∀l,Mine l->¬ ShT Wg C l)(hok:∀act,Shy.ok Wg C act->okS Shun Mine B' Wg Ce act)(hP:Past Shun B t₀)(hB:B<=B'){M:Machine}{T:Trace}(h:GDone P ty Wg C Low vals Mine Post c t₀ M T):
  ∃ (N:Nat) (gs:Array Goroutine) (a:Goroutine) (w:World) (sl:Option (Nat×Nat)) (T':Trace) (q:Nat->Nat),runNT P N M T=(.next (crowd gs w sl),T')/\gs.size=c+1/\gs[0]? =some a/\
   a.status= .running/\Shy.stop Wg C a w/\Leavers P T' gs q/\Past (fun l=>Shun l∨OfS Wg Ce l) B' T':=by
 obtain⟨gs,a,b,w,sl,s,q,rfl,hBig,⟨a1,b1,w1,sl1,p,d1,k,mp,r,vs,e,hBase,hG,hA,hq⟩,φ,L⟩:=h
 obtain⟨rfl,rfl,rfl,rfl⟩:=duo_inj e
 have hj:=hBase.jt
 have hP':Past (fun l=>Shun l∨OfS Wg Ce l) B' T:=by
  refine past_of_link hj.two (fun i n hi=> ?_) hP hB L hj.nr (fun i a ha hm=>R8 hMS hok hj hA ha hm) (fun i hi=>OV hj hi) (fun i a ha hs=> ?_) (fun op hop=>(hok _ (hj.oks op hop)).2.1) (hA.handedOver hj) hBase.deaf0
  ·obtain⟨op,hop,hoa⟩:=Option.map_eq_some_iff.1 hi
   have:=(hok _ (hj.oks op (mem_of_getElem? hop))).2.2 n hoa
   omega
  ·obtain⟨op,hop,hoa⟩:=touch_of ha
   exact((hok _ (hj.oks op (mem_of_getElem? hop))).1 a hoa).1 hs
 have hL:Leavers P T gs (upd q c k):=by
  refine⟨fun i g hi hg=> ?_,fun j hj=>hBig.above j (by have:=hBig.size;omega)⟩
  rcases hBig.get hg with ⟨h0,_⟩|⟨hc,rfl⟩|⟨_,hc,h⟩
  ·omega
  ·subst hc
   have:=L.dfe 1 (.inr rfl)
   rw [renG_one,hBase.deaf1]at this
   rw [upd_same,this]
   exact hq
  ·rw [upd_ne q k vO];exact h
 have hE:∀w w' es,DPj Mine Wg C Low w w' es->∀e∈es,EvL (fun l=>Shun l∨OfS Wg Ce l) B' e:=by
  intro w w' es hD e he
  obtain⟨h1,h2,h3⟩:=hD.2 e he
  obtain⟨_,ht,_,hk⟩:=h1 0 ""
  refine⟨fun x hx hs=> ?_,h2,h3,(hok _ hk).2.1⟩
  rcases hs with hs|⟨y,hy,hyb⟩|hs
  ·exact((hok _ hk).1 x hx).1 hs
  ·exact(ht x hx).2.1 (.inl ⟨y,hy,hyb⟩)
  ·exact((hok _ hk).1 x hx).2.2 hs
 obtain⟨N,gs',a',w',sl',T',q',hr,hs',h0',hS,hL',hP''⟩:=walk_beside (P:=P) hE _ mp gs a w sl T (upd q c k) (Nat.le_refl _) hBig.h0 hL hP' hG
 exact⟨N,gs',a',w',sl',T',q',hr,hs'.trans hBig.size,h0',hS.1,hS.2,hL',hP''⟩
theorem OD{Low Cd:Nat}{AnchW:Goroutine->World->Prop}{z z0 z1:Value}{vs:List Value}(hG:Geo Wg C Low Cd Ce)(hOk:X5 Wg C Cd Ce)(hAr:∀g w,AnchW g w->g.status= .running)
  (hAn:∀g w,AnchW g w->∃m,Goes P true (RPa ty Wg C vals) (DPi Mine Wg C Low) (AtW1 P ty Wg C Low vals Mine AnchW Post) m g w)
  (hMS:∀l,Mine l->¬ ShT Wg C l) (hok:∀act,Shy.ok Wg C act->okS Shun Mine B' Wg Ce act) (hB:B<=B')
  {gs:Array Goroutine} {a:Goroutine} {w:World} {sl:Option (Nat×Nat)} {q:Nat->Nat} (h0:gs[0]? =some a) (hL:Leavers P t₀ gs q) (hP:Past Shun B t₀) (h:XY P ty Wg C Low Cd Ce vals Mine AnchW z z0 z1 vs a w):
  ∃ (N:Nat) (gs':Array Goroutine) (a':Goroutine) (w':World) (sl':Option (Nat×Nat)) (T':Trace) (q':Nat->Nat),runNT P N (crowd gs w sl) t₀=(.next (crowd gs' w' sl'),T')/\gs'.size=gs.size+1/\gs'[0]? =some a'/\
   a'.status= .running/\Shy.stop Wg C a' w'/\Leavers P T' gs' q'/\Past (fun l=>Shun l∨OfS Wg Ce l) B' T':=by
 obtain⟨N1,M1,T1,μ,r1,hI⟩:=OA (Post:=Post) (sl:=sl) h0 hL hP.hears h
 obtain⟨N2,M2,T2,μ2,r2,hI2⟩:=abE hG hOk hAr hAn μ M1 T1 hI
 obtain⟨N3,M3,T3,r3,hD⟩:=ghost_runs hG.hW hG.hC hG.CW hAr hAn μ2 M2 T2 hI2
 obtain⟨N4,gs',a',w',sl',T',q',r4,hs,h0',hr,hst,hL',hP'⟩:=SL hMS hok hP hB hD
 exact⟨N1+N2+N3+N4,gs',a',w',sl',T',q',runNT_trans (runNT_trans (runNT_trans r1 r2) r3) r4,hs,h0',hr,hst,hL',hP'⟩
end
end
section
open Go
structure AvB(Z:Nat->Prop)(L:Lk)(w:World):Prop where
 obj:∀b o,¬ Z b->w.1[b]? =some o->AvO Z L o
theorem AvW.b{Z:Nat->Prop}{L:Lk}{v:World}(h:AvW Z L v):AvB Z L v:=⟨h.obj⟩
section
variable {Z:Nat->Prop} {L:Lk} {v:World}
theorem AvB.cell(h:AvB Z L v){a:Addr}{x:Value}(ha:¬ Z a.block)(hx:v.cell? a=some x):Av Z L x:=by
 unfold World.cell? at hx
 split at hx
 ·next c t f e=>
  split at hx
  ·cases hx
  ·have:=h.obj _ _ ha e
   cases this with
   |cells hc=>exact hc _ (Array.mem_of_getElem? hx)
 ·cases hx
theorem AvB.setCell(h:AvB Z L v)(a:Addr){x:Value}(hx:Av Z L x):AvB Z L (v.setCell a x):=by
 refine⟨fun b o hb e=> ?_⟩
 by_cases eb:b=a.block
 ·subst eb
  rw [jX]at e
  obtain⟨o',ho',rfl⟩:=Option.map_eq_some_iff.1 e
  have:=h.obj _ _ hb ho'
  cases this with
  | cells hc=>
   refine .cells fun y hy=> ?_
   split at hy
   ·exact hc y hy
   ·rcases Array.mem_or_eq_of_mem_setIfInBounds hy with m|m
    ·exact hc y m
    ·exact m▸hx
  |map hm=>exact .map hm
  |number hm=>exact .number hm
  |iter s n=>exact .iter s n
  |view hm ht=>exact .view hm ht
 ·rw [iV _ _ _ eb]at e
  exact h.obj b o hb e
theorem AvB.freeze(h:AvB Z L v)(a:Addr)(n:Nat):AvB Z L (v.freeze a n):=by
 refine⟨fun b o hb e=> ?_⟩
 unfold World.freeze at e
 split at e
 ·exact h.obj b o hb e
 ·simp only [Array.getElem?_modify]at e
  split at e
  ·obtain⟨o',ho',rfl⟩:=Option.map_eq_some_iff.1 e
   have:=h.obj _ _ hb ho'
   cases this with
   |cells hc=>exact .cells hc
   |map hm=>exact .map hm
   |number hm=>exact .number hm
   |iter s n=>exact .iter s n
   |view hm ht=>exact .view hm ht
  ·exact h.obj b o hb e
theorem AvB.push(h:AvB Z L v){o:Obj}(ho:AvO Z L o):AvB Z L {v with heap:=v.1.push o}:=by
 refine⟨fun b o' hb e=> ?_⟩
 simp only [Array.getElem?_push]at e
 split at e
 ·cases e;exact ho
 ·exact h.obj b o' hb e
theorem AvB.setObj(h:AvB Z L v)(r:Nat){o:Obj}(ho:AvO Z L o):AvB Z L {v with heap:=v.heap.setIfInBounds r o}:=by
 refine⟨fun b o' hb e=> ?_⟩
 by_cases eb:r=b
 ·subst eb
  simp only [Array.getElem?_setIfInBounds_self]at e
  split at e
  ·cases e;exact ho
  ·cases e
 ·rw [Array.getElem?_setIfInBounds_ne eb]at e
  exact h.obj b o' hb e
theorem AvB.draw(h:AvB Z L v)(d:Nat):AvB Z L {v with drawn:=d}:=⟨h.obj⟩
theorem ZQ{v v':World}(hb:AvB Z L v){p:Program}{a:Addr}{x:Value}{t:List Addr}(hz:¬ Z a.block)(hx:Av Z L x)(e:qw p v a x= .ok (v',t)):AvB Z L v':=by
 unfold qw at e
 split at e
 ·split at e
  ·cases e
  ·cases e
   exact hb.setCell a hx
 ·unfold World.farStore at e
  split at e
  ·next s u hh=>
   have ho:=hb.obj _ _ hz hh
   cases ho with
   | view hz2=>
    split at e
    ·next r hv=>
     obtain⟨v2,t2⟩:=r
     cases e
     obtain⟨c,e',fz,c',h1,rfl,h3,h4,_⟩:=um hv
     have hc:=hb.obj _ _ hz2 h1
     cases hc with
     |cells hc=>exact hb.setObj _ (.cells (h3 Z L hc))
    ·cases e
  ·cases e
end
theorem Hyg.out{P:Program}{F:Array Func}{Z Z₁:Nat->Prop}{L:Lk}(hT:∀u,L.t u->I7 P u){α:Type}{Q₀ Q:α->Prop}{s:Sem α}(h:Hyg P (sw P F) Z₁ L Q s):
  Hyg P (sw P F) Z L Q₀ s->∀{v:World} {a:α} {v':World},AvW Z L v->AvB Z₁ L v->(∀b,v.1.size<=b->b<v'.1.size->¬ Z₁ b)->s.run (sw P F) v= .ok a v'->Q a/\AvB Z₁ L v':=by
 have grows:∀{s:Sem α} {v v':World} {a:α},Hyg P (sw P F) Z L Q₀ s->AvW Z L v->s.run (sw P F) v= .ok a v'->v.1.size<=v'.1.size:=by
  intro s v v' a h0 hv e
  obtain⟨_,⟨w',new,_,hr,_,hs,_⟩,_⟩:=h0.sim hT #[] a v' (w:=v) ⟨rfl,rfl,rfl,rfl,rfl,fun _ _=>rfl⟩ hv e
  rw [←hr.size];exact hs
 induction h with
 |pure hq=>
  intro _ v a v' _ hb _ e
  simp only [Sem.run,Result.ok.injEq]at e
  obtain⟨rfl,rfl⟩:=e
  exact⟨hq,hb⟩
 | @load a k hz _ ih=>
  intro h0 v x v' hv hb hf e
  cases h0 with
  |load hz0 h0=>
  rw [run_load]at e
  cases hg:sM (sw P F) v a with
  |error h=>rw [hg]at e;cases e
  |ok r=>
   rw [hg]at e
   exact ih r.1 (Dp (fun u hu=>sU F (hT u hu)) hb.obj hz hg).1 (h0 r.1 (Dp (fun u hu=>sU F (hT u hu)) hv.obj hz0 hg).1) hv hb hf e
 | @store a x k hz hx _ ih=>
  intro h0 v y v' hv hb hf e
  cases h0 with
  |store hz0 hx0 h0=>
  have hne:(∀c,x≠ .agg c)/\(∀c,x≠ .tuple c):=by
   constructor <;> · rintro c rfl;simp [Sem.run]at e
  rw [run_store _ _ hne]at e
  cases hg:qw (sw P F) v a x with
  |error h=>rw [hg]at e;cases e
  |ok r=>
   obtain⟨v1,t⟩:=r
   rw [hg]at e
   obtain⟨q1,q2,_⟩:=Jo hv hz0 hx0 hg
   exact ih h0 q1 (ZQ hb hz hx hg) (by rw [q2];exact hf) e
 | @new o k ho _ ih=>
  intro h0 v y v' hv hb hf e
  cases h0 with
  |new ho0 h0=>
  have hn:¬ Z v.1.size:=fun hz=>absurd (hv.low _ hz) (Nat.lt_irrefl _)
  have e':(k v.1.size).run (sw P F) {v with heap:=v.1.push o}= .ok y v':=by simpa [Sem.run]using e
  have hg:=grows (h0 v.1.size hn) (hv.push ho0) e'
  simp only [Array.size_push]at hg
  exact ih v.1.size (hf _ (Nat.le_refl _) vO) (h0 v.1.size hn) (hv.push ho0) (hb.push ho) (fun b h1 h2=>hf b (by simp only [Array.size_push]at h1;omega) h2) e'
 | @shape r k hz _ ih=>
  intro h0 v y v' hv hb hf e
  cases h0 with
  |shape hz0 h0=>exact ih _ (h0 _) hv hb hf (by simpa [Sem.run]using e)
 | @frozen a k hz _ ih=>
  intro h0 v y v' hv hb hf e
  cases h0 with
  |frozen hz0 h0=>exact ih _ (h0 _) hv hb hf (by simpa [Sem.run]using e)
 | @freeze a n k hz _ ih=>
  intro h0 v y v' hv hb hf e
  cases h0 with
  |freeze hz0 h0=>exact ih h0 (hv.freeze a n hz0) (hb.freeze a n) (by rw [mI];exact hf) (by simpa [Sem.run]using e)
 | @getObj r k hz _ ih=>
  intro h0 v y v' hv hb hf e
  cases h0 with
  |getObj hz0 h0=>
  cases hc:v.1[r]? with
  |none=>simp [Sem.run,hc]at e
  | some o=>
   have e':(k o).run (sw P F) v= .ok y v':=by
    simp only [Sem.run,hc]at e
    cases o <;> first|exact e|cases e
   exact ih o (hb.obj _ _ hz hc) (h0 o (hv.obj _ _ hz0 hc)) hv hb hf e'
 | @setObj r o k hz ho _ ih=>
  intro h0 v y v' hv hb hf e
  cases h0 with
  |setObj hz0 ho0 h0=>
  cases hc:v.1[r]? with
  |none=>simp [Sem.run,hc]at e
  | some o'=>
   have e':k.run (sw P F) {v with heap:=v.heap.setIfInBounds r o}= .ok y v':=by
    simp only [Sem.run,hc]at e
    cases o' <;> first|exact e|cases e
   exact ih h0 (hv.setObj r hz0 ho0) (hb.setObj r ho) (by simp only [Array.size_setIfInBounds];exact hf) e'
 | @choose q k _ ih=>
  intro h0 v y v' hv hb hf e
  cases h0 with
  |choose h0=>
  by_cases hq:q.forced=true
  ·have e':(k 0).run (sw P F) v= .ok y v':=by simpa only [Sem.run,hq,if_true]using e
   exact ih 0 (h0 0) hv hb hf e'
  ·have e':(k (q.cut (v.tape v.drawn q))).run (sw P F) {v with drawn:=v.drawn+1}= .ok y v':=by rw [←e];simp only [Sem.run];rw [if_neg hq]
   exact ih _ (h0 _) (hv.draw (v.drawn+1)) (hb.draw (v.drawn+1)) hf e'
 | @program k hk _ ih=>
  intro h0 v y v' hv hb hf e
  cases h0 with
  |program hk0 h0=>exact ih h0 hv hb hf (by rw [←e];simp only [Sem.run];rw [hk])
 | @noRoom mk k hmk _ ih=>
  intro h0 v y v' hv hb hf e
  cases h0 with
  |noRoom _ h0=>exact ih h0 hv hb hf (by simpa [Sem.run]using e)
 |env _ h2 _=>
  intro _ v y v' _ _ _ e
  simp only [Sem.run]at e
  exact(h2 _ _ _ _ e).elim
 |halt _=>
  intro _ v y v' _ _ _ e
  simp [Sem.run]at e
end
section
open Go Go.Conc
variable [Wn]
omit [Wn] in
theorem mK{Z Z':Nat->Prop}{L:Lk}(h:∀b,Z' b->Z b){o:Obj}(ho:AvO Z L o):AvO Z' L o:=by
 cases ho with
 |cells hc=>exact .cells fun v hv=>mF h (hc v hv)
 |map hm=>exact .map fun e he=>⟨mF h (hm e he).1,mF h (hm e he).2⟩
 |number hz=>exact .number fun z=>hz (h _ z)
 |iter s n=>exact .iter s n
 |view hm ht=>exact .view (fun z=>hm (h _ z)) ht
theorem FOk.anti{Z Z':Nat->Prop}{Lb:Nat->Bool}{ok:Oper->Bool}{sat:Nat}{fr:Frame}(h:∀b,Z' b->Z b)(hf:FOk Z Lb ok sat fr):FOk Z' Lb ok sat fr:=
 ⟨hf.kind,hf.round,hf.defers,hf.fn,hf.notSat,fun i v hv=>(hf.tmps i v hv).imp (mF h) id,hf.todo⟩
def up(Z:Nat->Prop)(n:Nat):Nat->Prop:=fun b=>Z b∨n<=b
omit [Wn] in
theorem BZ{Z:Nat->Prop}{n m:Nat}(h:n<=m):∀b,up Z m b->up Z n b:=fun b=>Or.imp id fun x=>by omega
omit [Wn] in
theorem zS{Z:Nat->Prop}{n:Nat}:∀b,Z b->up Z n b:=fun b=> .inl
structure Well(P:Program)(Z:Nat->Prop)(Lb Gb:Nat->Bool)(s:Nat)(fr:Frame)(cs:List Frame)(v:World):Prop where
 top:FOk (up Z v.1.size) Lb (aF P Lb Gb) s fr
 below:∀c∈cs,FOk (up Z v.1.size) Lb (aF P Lb Gb) s c/\c.mode= .run
 mem:AvB (up Z v.1.size) (lk Lb (aF P Lb Gb)) v
 low:∀b,Z b->b<v.1.size
 win:∀b o,Wn.x b=some o->Z b/\v.1[b]? =some o
 mode:fr.mode= .run∨fr.mode= .returning
section
variable {P:Program} {F:Array Func} {Z:Nat->Prop} {Lb Gb:Nat->Bool} {s:Nat} {fr:Frame} {cs:List Frame} {v:World}
theorem Well.avw(h:Well P Z Lb Gb s fr cs v):AvW Z (lk Lb (aF P Lb Gb)) v:=
 ⟨fun b o hb e=>mK zS (h.mem.obj b o (fun u=>u.elim hb fun hn=>by have:=lt_of_heap e;omega) e),h.low,h.win⟩
theorem Well.fr0(h:Well P Z Lb Gb s fr cs v):FOk Z Lb (aF P Lb Gb) s fr:=h.top.anti zS
theorem Well.cs0(h:Well P Z Lb Gb s fr cs v):∀c∈cs,FOk Z Lb (aF P Lb Gb) s c/\c.mode= .run:=fun c hc=>⟨(h.below c hc).1.anti zS,(h.below c hc).2⟩
theorem Well.tp(h:Well P Z Lb Gb s fr cs v)(τ:Nat->Question->Nat)(d:Nat):Well P Z Lb Gb s fr cs (Sq.tp v τ d):=⟨h.top,h.below,⟨h.mem.obj⟩,h.low,h.win,h.mode⟩
theorem Well.step(S:zo P F Z Lb Gb)(hG:∀g,Gb g=true->g<v.1.size)(hgz:P.globals.size<v.1.size)(hs:Lb s=false)(h:Well P Z Lb Gb s fr cs v)(hb:¬ Ew fr cs){tl:List Frame}{g1:Goroutine}{v1:World}{es:Array Event}
  (e:stepG (sw P F) true (G fr (cs++tl)) v= .go g1 v1 es):(∃fr1 cs1,g1=G fr1 (cs1++tl)/\Well P Z Lb Gb s fr1 cs1 v1)∨∃fr2,Mi fr.fn fr2/\g1=G fr2 (cs++tl):=by
 have hGn:∀n,v.1.size<=n->∀g,Gb g=true->¬ up Z n g:=fun n hn g hg u=>u.elim (S.hG g hg) fun x=>by have:=hG g hg;omega
 have S1:∀n,v.1.size<=n->zo P F (up Z n) Lb Gb:=fun n hn=>⟨hGn n hn,fun u=>u.elim S.hZ fun x=>by omega,S.ext,S.fn,S.wn,S.sp,S.spOp,S.sc⟩
 cases cls (S1 _ (Nat.le_refl _)) hs h.top h.below h.mode hb with
 |still fr' cs' h1 h2 h3 h4=>
  obtain⟨es',e'⟩:=h4 tl v
  rw [e']at e
  cases e
  exact .inl ⟨fr',cs',rfl,h1,h2,h.mem,h.low,h.win,h3⟩
 |draw id ops k h1 h2=>
  rw [nK h1 h2]at e
  cases e
  refine .inl ⟨_,cs,rfl,h.top.lay fun i hi=> ?_,h.below,⟨h.mem.obj⟩,h.low,h.win,.inl h1⟩
  have ht:=h.top.todo
  rw [h2]at ht
  simp only [List.mem_cons]at hi
  rcases hi with rfl|hi
  ·exact ht (.code (.region id ops true)) vS
  ·exact ht i (by simp [hi])
 | op ops i rest k o h1 h2 h3 h4 h5 hyg hH=>
  have h0:=hyg Z zS S.hG
  cases hrun:(execOp fr.eval o).run (sw P F) v with
  | halt hh w''=>
   have hok:=h0.FC lkT _ _ h.avw hrun
   by_cases hp:∃x,hh= .panic x
   ·obtain⟨x,rfl⟩:=hp
    obtain⟨es1,e1⟩:=nP (main:=true) (cs:=cs++tl) h1 h5 h.top.kind h2 h3 h4 hrun
    rw [e1]at e
    cases e
    exact .inr ⟨_,jv h.fr0 h1 _,rfl⟩
   ·obtain⟨oc,w3,es1,e1⟩:=sj (main:=true) (cs:=cs++tl) h1 h5 h.top.kind h2 h3 h4 hrun hok fun x e=>hp ⟨x,e⟩
    rw [e1]at e
    cases e
  | ok n v'=>
   obtain⟨_,⟨w',new,_,hr,_,hsz,_⟩,hav⟩:=h0.sim lkT #[] n v' (w:=v) ⟨rfl,rfl,rfl,rfl,rfl,fun _ _=>rfl⟩ h.avw hrun
   have hle:v.1.size<=v'.1.size:=by rw [←hr.size];exact hsz
   have hm1:=BZ (Z:=Z) hle
   obtain⟨o1,o2⟩:=(hyg (up Z v'.1.size) hm1 (hGn _ hle)).out lkT h0 h.avw ⟨fun b o' hb e'=>mK hm1 (h.mem.obj b o' (fun u=>u.elim (fun z=>hb (.inl z)) fun hn=>by have:=lt_of_heap e';omega) e')⟩
    (fun b hb1 hb2 u=>u.elim (fun z=>by have:=h.low b z;omega) fun hn=>by omega) hrun
   have hcs:∀c∈cs,FOk (up Z v'.1.size) Lb (aF P Lb Gb) s c/\c.mode= .run:=fun c hc=>⟨(h.below c hc).1.anti hm1,(h.below c hc).2⟩
   cases n with
   |value x=>
    rw [lM h1 h5 h.top.kind h2 h3 h4 hrun]at e
    cases e
    refine .inl ⟨fr.finish x,cs,rfl,(h.top.anti hm1).finish o1,hcs,o2,hav.low,hav.win, ?_⟩
    left;unfold Frame.finish;split <;> exact h1
   |skip=>
    rw [nJ h1 h5 h.top.kind h2 h3 h4 hrun]at e
    cases e
    refine .inl ⟨fr.finish undef,cs,rfl,(h.top.anti hm1).finish o8,hcs,o2,hav.low,hav.win, ?_⟩
    left;unfold Frame.finish;split <;> exact h1
   |_=>exact o1.elim
 | sp ops i rest k o h1 h2 h3 h4 hsp=>
  obtain⟨h5,r,hgood,hbad⟩:=hsp
  cases r with
  | none=>
   obtain⟨hh,d,hrv,hok⟩:=hbad rfl (sw P F) (.inr rfl) v h.avw.ac0
   by_cases hp:∃x,hh= .panic x
   ·obtain⟨x,rfl⟩:=hp
    obtain⟨es1,e1⟩:=nP (main:=true) (cs:=cs++tl) h1 h5 h.top.kind h2 h3 h4 hrv
    rw [e1]at e
    cases e
    exact .inr ⟨_,jv h.fr0 h1 _,rfl⟩
   ·obtain⟨oc,w3,es1,e1⟩:=sj (main:=true) (cs:=cs++tl) h1 h5 h.top.kind h2 h3 h4 hrv hok fun x e=>hp ⟨x,e⟩
    rw [e1]at e
    cases e
  |some x=>
   obtain⟨hval,hrun⟩:=hgood x rfl
   rw [lM h1 h5 h.top.kind h2 h3 h4 (hrun (sw P F) (.inr rfl) v h.avw.ac0).1]at e
   cases e
   refine .inl ⟨fr.finish x,cs,rfl,h.top.acV (acZ h2 h3 hval),h.below,h.mem,h.low,h.win, ?_⟩
   left;unfold Frame.finish;split <;> exact h1
 | leave fn c cs' h1 hd h2 h3 hH=>
  subst h2
  have h0:Hyg P (sw P F) Z (lk Lb (aF P Lb Gb)) (Av Z (lk Lb (aF P Lb Gb))) (results fn fr.tmps):=jA S.hZ fn (acS S h.fr0 h3)
  cases hrun:(results fn fr.tmps).run (sw P F) v with
  |halt hh w''=>
   obtain⟨oc,w3,es3,e3⟩:=lQ (main:=true) (cs:=(c :: cs')++tl) h1 hd h3 hrun
   rw [e3]at e
   cases e
  | ok x v'=>
   obtain⟨_,⟨w',new,_,hr,_,hsz,_⟩,hav⟩:=h0.sim lkT #[] x v' (w:=v) ⟨rfl,rfl,rfl,rfl,rfl,fun _ _=>rfl⟩ h.avw hrun
   have hle:v.1.size<=v'.1.size:=by rw [←hr.size];exact hsz
   have hm1:=BZ (Z:=Z) hle
   have hx1:Hyg P (sw P F) (up Z v'.1.size) (lk Lb (aF P Lb Gb)) (Av (up Z v'.1.size) (lk Lb (aF P Lb Gb))) (results fn fr.tmps):=
    jA (fun u=>u.elim S.hZ fun x=>by omega) fn (acS (S1 _ hle) (h.top.anti hm1) h3)
   obtain⟨o1,o2⟩:=hx1.out lkT h0 h.avw ⟨fun b o' hb e'=>mK hm1 (h.mem.obj b o' (fun u=>u.elim (fun z=>hb (.inl z)) fun hn=>by have:=lt_of_heap e';omega) e')⟩
    (fun b hb1 hb2 u=>u.elim (fun z=>by have:=h.low b z;omega) fun hn=>by omega) hrun
   rw [List.cons_append,kD h1 hd h.top.kind h3 hrun]at e
   cases e
   obtain⟨c1,c2⟩:=h.below c vS
   refine .inl ⟨c.finish x,cs',rfl,(c1.anti hm1).finish o1,fun y hy=>⟨(h.below y (by simp [hy])).1.anti hm1,(h.below y (by simp [hy])).2⟩,o2,hav.low,hav.win, ?_⟩
   left;unfold Frame.finish;split <;> exact c2
 |panics ch h1 h2=>
  obtain⟨es',e'⟩:=h2 tl v
  rw [e']at e
  cases e
  exact .inr ⟨_,jv h.fr0 h1 ch,rfl⟩
 |stops hst=>
  obtain⟨oc,w',es',e'⟩:=hst tl v
  rw [e']at e
  cases e
end
end
section
open Go Go.Conc
open Go.ConcN (sumTo upd sumTo_upd upd_ne upd_same)
inductive iW(P:Program)(Q:Goroutine->World->Prop):Goroutine->World->Goroutine->World->Prop
 |one {g g1:Goroutine} {v v1:World} {τ:Nat->Question->Nat} {d:Nat} {es:Array Event}:¬ Q g v->stepG P true g (tp v τ d)= .go g1 v1 es->iW P Q g v g1 v1
 |more {g g1 g2:Goroutine} {v v1 v2:World} {τ:Nat->Question->Nat} {d:Nat} {es:Array Event}:iW P Q g v g1 v1->¬ Q g1 v1->stepG P true g1 (tp v1 τ d)= .go g2 v2 es->iW P Q g v g2 v2
section
variable {P:Program} {Q:Goroutine->World->Prop}
theorem iW.head{g g':Goroutine}{v v':World}(h:iW P Q g v g' v'):¬ Q g v/\∃τ d g1 v1 es,stepG P true g (tp v τ d)= .go g1 v1 es/\((g'=g1/\v'=v1)∨iW P Q g1 v1 g' v'):=by
 induction h with
 |one hq hs=>exact⟨hq,_,_,_,_,_,hs,.inl ⟨rfl,rfl⟩⟩
 |more _ hq hs ih=>
  obtain⟨h1,τ,d,g1,v1,es,h2,h3⟩:=ih
  refine⟨h1,τ,d,g1,v1,es,h2,.inr ?_⟩
  rcases h3 with ⟨rfl,rfl⟩|h3
  ·exact .one hq hs
  ·exact .more h3 hq hs
theorem iW.trans{g g1 g2:Goroutine}{v v1 v2:World}(h:iW P Q g v g1 v1)(h2:iW P Q g1 v1 g2 v2):iW P Q g v g2 v2:=by
 induction h2 with
 |one hq hs=>exact .more h hq hs
 |more _ hq hs ih=>exact .more (ih h) hq hs
theorem jQ.next{g g1:Goroutine}{v v1:World}{τ:Nat->Question->Nat}{d:Nat}{es:Array Event}(h:jQ P Q g v)(hq:¬ Q g v)(hs:stepG P true g (tp v τ d)= .go g1 v1 es):jQ P Q g1 v1:=by
 cases h with
 |done h=>exact absurd h hq
 |step _ h=>exact h _ _ _ _ _ hs
theorem jQ.goes{g:Goroutine}{v:World}(h:jQ P Q g v)(hq:¬ Q g v)(τ:Nat->Question->Nat)(d:Nat):∃g1 v1 es,stepG P true g (tp v τ d)= .go g1 v1 es:=by
 cases h with
 |done h=>exact absurd h hq
 |step h _=>exact h τ d
theorem jQ.leads{g g':Goroutine}{v v':World}(h:jQ P Q g v)(hl:iW P Q g v g' v'):jQ P Q g' v':=by
 induction hl with
 |one hq hs=>exact h.next hq hs
 |more _ hq hs ih=>exact(ih h).next hq hs
theorem Xq{motive:Goroutine->World->Prop}(hstep:∀g v,jQ P Q g v->(∀g' v',iW P Q g v g' v'->motive g' v')->motive g v){g:Goroutine}{v:World}(h:jQ P Q g v):motive g v:=by
 have key:motive g v/\∀g' v',iW P Q g v g' v'->motive g' v':=by
  induction h with
  |done h=>
   have hv:∀g' v',iW P Q _ _ g' v'->motive g' v':=fun g' v' hl=>absurd h hl.head.1
   exact⟨hstep _ _ (.done h) hv,hv⟩
  | step hg hw ih=>
   have hv:∀g' v',iW P Q _ _ g' v'->motive g' v':=fun g' v' hl=>by
    obtain⟨_,τ,d,g1,v1,es,h2,h3⟩:=hl.head
    rcases h3 with ⟨rfl,rfl⟩|h3
    ·exact(ih _ _ _ _ _ h2).1
    ·exact(ih _ _ _ _ _ h2).2 _ _ h3
   exact⟨hstep _ _ (.step hg hw) hv,hv⟩
 exact key.1
end
theorem Ya{g:Nat}{fn:FuncId}{pos:String}{es:Array Event}:∀op∈MemOp.ofEvents g fn pos es,op.g=g:=by
 intro op hop
 rw [ofEvents_eq]at hop
 obtain⟨e,he,rfl⟩:=Array.mem_map.1 hop
 rfl
theorem aaG{P:Program}{Shun:Loc->Prop}{B:Nat}{a:Goroutine}:∀ (M:Nat) (gs:Array Goroutine) (w:World) (sl:Option (Nat×Nat)) (T:Trace) (q:Nat->Nat),sumTo gs.size q=M->gs[0]? =some a->a.status= .running->Leavers P T gs q->Past Shun B T->
  ∃ (N:Nat) (gs':Array Goroutine) (d d':Nat) (sl' sl'':Option (Nat×Nat)) (T':Trace) (q':Nat->Nat),runNT P N (crowd gs w sl) T=(.next (crowd gs' (w.at d) sl'),T')/\gs'.size=gs.size/\gs'[0]? =some a/\Leavers P T' gs' q'/\Past Shun B T'/\
   stepT P (crowd gs' (w.at d) sl')=runT P (crowd gs' (w.at d') sl'') 0:=by
 intro M
 induction M using Nat.strongRecOn with
 | _ M ih=>
  intro gs w sl T q hM h0 hrun hL hP
  have haw:∀g∈gs,awake g:=by
   intro g hg
   obtain⟨i,hi,rfl⟩:=Array.mem_iff_getElem.1 hg
   rcases Nat.eq_zero_or_pos i with rfl|hp
   ·have:gs[0]=a:=by simpa [Array.getElem?_eq_getElem hi]using h0
    rw [this];exact awake_of (.inl hrun)
   ·exact awake_of ((hL.old i _ hp (Array.getElem?_eq_getElem hi)).status.elim .inl fun x=> .inr (.inr x))
  obtain⟨i,g,d,sl',hi,hg,hst⟩:=crowd_pick (P:=P) (w:=w) (sl:=sl) haw ⟨0,a,h0,hrun⟩
  rcases Nat.eq_zero_or_pos i with rfl|hp
  ·exact⟨0,gs,w.drawn,d,sl,sl',T,q,rfl,rfl,h0,hL,hP,hst⟩
  ·have hq:=hL.old i g hp hi
   have hi0:(i==0)=false:=vQ
   have hlt:i<gs.size:=(Array.getElem?_eq_some_iff.1 hi).1
   cases hqi:q i with
   |zero=>rw [hqi]at hq;rw [hq.1]at hg;cases hg
   | succ k=>
    rw [hqi]at hq
    rcases hq with ⟨hf,_⟩|⟨_,g',es,hm,hstp,hq'⟩
    ·rw [hf]at hg;cases hg
    have hrunT:=runT_crowd_go (P:=P) (sl:=sl') (i:=i) hi (by rw [hi0];exact hstp (w.at d))
    have hsz:((gs.map (woken P g g' (w.at d))).setIfInBounds i g').size=gs.size:=vS
    have hsum:sumTo gs.size (upd q i k)+(k+1)=sumTo gs.size q+k:=by
     have:=sumTo_upd q k id hlt
     simpa [hqi]using this
    obtain⟨N,gs',d1,d2,sl1,sl2,T',q',hr,hs',h0',hL',hP',hst'⟩:=ih (sumTo gs.size (upd q i k)) vO ((gs.map (woken P g g' (w.at d))).setIfInBounds i g') (w.at d) sl' (T++MemOp.ofEvents i g.frame.fn g.frame.place es) (upd q i k) (by rw [hsz])
     (by rw [Array.getElem?_setIfInBounds_ne vO,Array.getElem?_map,h0];simp [woken_run hrun]) hrun
     ⟨fun j x hj hx=>by
      by_cases hji:i=j
      ·subst hji
       rw [Array.getElem?_setIfInBounds_self_of_lt (by simpa using hlt)]at hx
       obtain rfl:=Option.some.inj hx
       rw [upd_same,Deaf_own]
       exact hq'
      ·rw [Array.getElem?_setIfInBounds_ne hji,Array.getElem?_map]at hx
       obtain⟨y,hy,rfl⟩:=Option.map_eq_some_iff.1 hx
       have hq:=hL.old j y hj hy
       rw [woken_quitsD hq,upd_ne q k (Ne.symm hji),Deaf_other T hji (MemOp.ofEvents i g.frame.fn g.frame.place es) Ya]
       exact hq,
      fun j hj=>by
      have hj':gs.size<=j:=by simpa using hj
      rw [Deaf_other T (g':=i) vO (MemOp.ofEvents i g.frame.fn g.frame.place es) Ya]
      exact hL.above j hj'⟩ (hP.mute vO hm)
    exact⟨N+1,gs',d1,d2,sl1,sl2,T',q',by simp only [runNT,hst,hrunT];exact hr,hs'.trans hsz,h0',hL',hP',hst'⟩
variable [Wn]
section
variable (P:Program) (F:Array Func) (Lb Gb:Nat->Bool) (s sat:Nat) (Zo:Nat->Prop) (Wo:World)
structure CSt(Z:Nat->Prop)(Shun:Loc->Prop)(B:Nat)(gs:Array Goroutine)(fr:Frame)(cs:List Frame)(w v:World)(T:Trace)(q:Nat->Nat):Prop where
 h0:gs[0]? =some (G fr cs)
 lv:Leavers P T gs q
 pt:Past Shun B T
 rel:Rel Z w v
 well:Well P Z Lb Gb s fr cs v
 ns:fr.fn≠sat/\∀c∈cs,c.fn≠sat
 sh:∀l,Shun l->(∃a,l= .cell a/\Z a.block/\Wn.x a.block=none)∨∃r,l= .obj r/\Z r
 gb:∀g,Gb g=true->¬ Z g/\g<v.1.size
 gz:¬ Z P.globals.size/\P.globals.size<v.1.size
 old:∀b,Zo b->Z b/\w.1[b]? =Wo.1[b]?
def N8(Q:Goroutine->World->Prop):Prop:=
 ∀ (Z:Nat->Prop) (Shun:Loc->Prop) (B:Nat) (gs:Array Goroutine) (fr:Frame) (cs:List Frame) (w v:World) (sl:Option (Nat×Nat)) (T:Trace) (q:Nat->Nat) (args:Array Value),fr.mode= .run->
  gs[0]? =some (G (Frame.enter P sat args .normal) (fr :: cs))->Leavers P T gs q->Past Shun B T->Rel Z w v->Well P Z Lb Gb s (Frame.enter (sw P F) sat args .normal) (fr :: cs) v->(fr.fn≠sat/\∀c∈cs,c.fn≠sat)->
  (∀l,Shun l->(∃a,l= .cell a/\Z a.block/\Wn.x a.block=none)∨∃r,l= .obj r/\Z r)->(∀g,Gb g=true->¬ Z g/\g<v.1.size)->(¬ Z P.globals.size/\P.globals.size<v.1.size)->(∀b,Zo b->Z b/\w.1[b]? =Wo.1[b]?)->jQ (sw P F) Q (G (Frame.enter (sw P F) sat args .normal) (fr :: cs++ [bV F])) v->
  ∃ (N:Nat) (gs':Array Goroutine) (x:Value) (w' v':World) (sl':Option (Nat×Nat)) (T':Trace) (q':Nat->Nat) (Z':Nat->Prop) (Shun':Loc->Prop) (B':Nat),runNT P N (crowd gs w sl) T=(.next (crowd gs' w' sl'),T')/\
   iW (sw P F) Q (G (Frame.enter (sw P F) sat args .normal) (fr :: cs++ [bV F])) v (G (fr.finish x) (cs++ [bV F])) v'/\CSt P Lb Gb s sat Zo Wo Z' Shun' B' gs' (fr.finish x) cs w' v' T' q'
end
section
variable {P:Program} {F:Array Func} {Lb Gb:Nat->Bool} {s sat:Nat} {Zo:Nat->Prop} {Wo:World} {Z0:Nat->Prop} {Rx:Value->World->Prop}
theorem Fq{Z:Nat->Prop}{Shun:Loc->Prop}{n B:Nat}(hS:∀l,Shun l->(∃a,l= .cell a/\Z a.block/\Wn.x a.block=none)∨∃r,l= .obj r/\Z r)(hB:n<=B){e:Event}(h:Bq Z n e):EvL Shun B e:=by
 rcases h with ⟨a,wr,rfl,h1,h2⟩|⟨r,wr,rfl,h1,h2⟩|⟨m,hm,rfl⟩
 ·refine⟨fun x hx hs=> ?_,vS,vS,by show a.block<B;omega⟩
  simp only [MemAct.ofEvent,MemAct.touch?,Option.some.injEq]at hx
  subst hx
  rcases hS _ hs with ⟨y,hy,hz,_⟩|⟨y,hy,_⟩
  ·cases hy;exact absurd hz h2
  ·cases hy
 ·refine⟨fun x hx hs=> ?_,vS,vS, ?_⟩
  ·have:MemAct.ofEvent ⟨.obj r,wr,false⟩= .access ⟨.obj r,wr,false⟩:=by cases wr <;> rfl
   rw [this]at hx
   simp only [MemAct.touch?,Option.some.injEq]at hx
   subst hx
   rcases hS _ hs with ⟨y,hy,_⟩|⟨y,hy,hz⟩
   ·cases hy
   ·cases hy;exact absurd hz h2
  ·have:MemAct.ofEvent ⟨.obj r,wr,false⟩= .access ⟨.obj r,wr,false⟩:=by cases wr <;> rfl
   rw [this]
   show r<B
   omega
 ·rcases hm with rfl|⟨f,rfl⟩ <;> exact⟨fun x hx=>by simp [MemAct.ofEvent,MemAct.touch?]at hx,vS,vS,trivial⟩
theorem adA{Z:Nat->Prop}{Shun:Loc->Prop}{n B:Nat}(hS:∀l,Shun l->(∃a,l= .cell a/\Z a.block/\Wn.x a.block=none)∨∃r,l= .obj r/\Z r)(hB:n<=B){e:Event}{w:World}(hw:ade w)(hn:w.1.size<=n)
  (h:Bq Z n e∨∃a ob,e=⟨.cell a,false,false⟩/\Wn.x a.block=some ob):EvL Shun B e:=by
 rcases h with h|⟨a,ob,rfl,ha⟩
 ·exact Fq hS hB h
 ·refine⟨fun x hx hs=> ?_,vS,vS,by have:=lt_of_heap (hw _ _ ha);show a.block<B;omega⟩
  simp only [MemAct.ofEvent,MemAct.touch?,Option.some.injEq]at hx
  subst hx
  rcases hS _ hs with ⟨y,hy,_,hz⟩|⟨y,hy,_⟩
  ·cases hy;rw [ha]at hz;cases hz
  ·cases hy
omit [Wn] in
theorem Nl{fr fr':Frame}{cs cs':List Frame}{b:Frame}(h:G fr (cs++ [b])=G fr' (cs'++ [b])):fr=fr'/\cs=cs':=by
 simp only [G,Goroutine.mk.injEq]at h
 exact⟨h.1,List.append_cancel_right h.2.1⟩
variable (P F Lb Gb s sat Zo Wo Z0 Rx) in
def Xy (g:Goroutine) (v:World):Prop:=
  ∀ (Z:Nat->Prop) (Shun:Loc->Prop) (B:Nat) (gs:Array Goroutine) (fr:Frame) (cs:List Frame) (w:World) (sl:Option (Nat×Nat)) (T:Trace) (q:Nat->Nat),g=G fr (cs++ [bV F])->CSt P Lb Gb s sat Zo Wo Z Shun B gs fr cs w v T q->
   ∃ (N:Nat) (gs':Array Goroutine) (fr':Frame) (w' v':World) (sl':Option (Nat×Nat)) (T':Trace) (q':Nat->Nat) (Z':Nat->Prop) (Shun':Loc->Prop) (B':Nat),runNT P N (crowd gs w sl) T=(.next (crowd gs' w' sl'),T')/\
    Qb P F Z0 Lb Gb s Rx (G fr' [bV F]) v'/\CSt P Lb Gb s sat Zo Wo Z' Shun' B' gs' fr' [] w' v' T' q'
theorem company(hSys:∀Z:Nat->Prop,(∀g,Gb g=true->¬ Z g)->¬ Z P.globals.size->Sys P F Z Lb Gb sat)(hSysF:∀Z:Nat->Prop,(∀g,Gb g=true->¬ Z g)->¬ Z P.globals.size->zo P F Z Lb Gb)(hs:Lb s=false)(hWo:∀b o,Wn.x b=some o->Zo b/\Wo.1[b]? =some o)
  (hPh:N8 P F Lb Gb s sat Zo Wo (Qb P F Z0 Lb Gb s Rx)) {g:Goroutine} {v:World} (hw:jQ (sw P F) (Qb P F Z0 Lb Gb s Rx) g v):
  Xy P F Lb Gb s sat Zo Wo Z0 Rx g v:=by
 refine Xq (motive:=Xy P F Lb Gb s sat Zo Wo Z0 Rx) (fun g v hw ih=> ?_) hw
 intro Z Shun B gs fr cs w sl T q hg hC
 subst hg
 by_cases hq:Qb P F Z0 Lb Gb s Rx (G fr (cs++ [bV F])) v
 ·obtain⟨fr',fn,x,e,_⟩:=id hq
  have:cs= []:=by
   have:=(Nl (cs':= []) (by simpa using e)).2
   exact this
  subst this
  exact⟨0,gs,fr,w,v,sl,T,q,Z,Shun,B,rfl,by simpa using hq,hC⟩
 have hrun:(G fr cs).status= .running:=rfl
 obtain⟨N,gs',d,d',sl',sl'',T',q',hr,hsz,h0',hL',hP',hst⟩:=aaG _ gs w sl T q rfl hC.h0 hrun hC.lv hC.pt
 obtain⟨g1,v1,es1,hgo⟩:=hw.goes hq w.tape d'
 have hw1:=hw.next hq hgo
 have hlead:iW (sw P F) (Qb P F Z0 Lb Gb s Rx) (G fr (cs++ [bV F])) v g1 v1:= .one hq hgo
 have hWell:=hC.well.tp w.tape d'
 have hGz:∀g,Gb g=true->¬ Z g:=fun g hg=>(hC.gb g hg).1
 have hSF:=hSysF Z hGz hC.gz.1
 have hbase:¬ Ew fr cs:=by
  rintro⟨rfl,hm⟩
  have hd:=hC.well.fr0.defers
  obtain⟨fn,body,h2,_,_,_⟩:=hSF.fn fr.fn hC.well.top.fn
  cases hrun:(results fn fr.tmps).run (sw P F) (tp v w.tape d')with
  |halt hh w''=>
   obtain⟨oc,w3,es3,e3⟩:=lQ (main:=true) (cs:= []++ [bV F]) hm hd (show(sw P F).funcs[fr.fn]? =some fn from h2) hrun
   rw [e3]at hgo
   cases hgo
  |ok x v'=>
   have e2:stepG (sw P F) true (G fr ([]++ [bV F])) (tp v w.tape d')= .go (G ((bV F).finish x) []) v' _:=kD hm hd hC.well.top.kind (show(sw P F).funcs[fr.fn]? =some fn from h2) hrun
   rw [hgo]at e2
   cases e2
   obtain⟨n,hn⟩:=hw1.runs
   exact(qV.back (P:=P) (Z:=Z) x _).AV n _ hn
 have hstep:=Well.step (v:=tp v w.tape d') (hSysF Z hGz hC.gz.1) (fun g hg=>(hC.gb g hg).2) hC.gz.2 hs hWell hbase hgo
 rcases hstep with ⟨fr1,cs1,rfl,hW1⟩|⟨fr2,hp2,rfl⟩
 rotate_left
 ·
  exfalso
  obtain⟨n,hn⟩:=hw1.runs
  exact(jB hSF hC.well.fr0 hC.well.cs0 hp2).AV n _ hn
 have hfs:FOk Z Lb (aF P Lb Gb) sat fr:=⟨hC.well.fr0.kind,hC.well.fr0.round,hC.well.fr0.defers,hC.well.fr0.fn,hC.ns.1,hC.well.fr0.tmps,hC.well.fr0.todo⟩
 have hcss:∀c∈cs,FOk Z Lb (aF P Lb Gb) sat c/\c.mode= .run:=fun c hc=>by
  obtain⟨h1,h2⟩:=hC.well.cs0 c hc
  exact⟨⟨h1.kind,h1.round,h1.defers,h1.fn,hC.ns.2 c hc,h1.tmps,h1.todo⟩,h2⟩
 have hrel:Rel Z (w.at d') (tp v w.tape d'):=⟨hC.rel.size,rfl,rfl,hC.rel.os,hC.rel.output,hC.rel.same⟩
 have hwin:ade (w.at d'):=fun b o e=>((hC.old b (hWo b o e).1).2).trans (hWo b o e).2
 have hnp:∀ch,(G fr1 (cs1++ [bV F])).frame.mode≠ .panicking ch:=fun ch e=>by
  have e':fr1.mode= .panicking ch:=e
  rcases hW1.mode with h|h <;> rw [h]at e' <;> cases e'
 obtain⟨w',es,hWent,hcase⟩:=Xx (tl:= []) (tl':= [bV F]) (hSys Z hGz hC.gz.1) true hfs hcss hC.well.mode hbase hrel hwin hWell.avw hgo hnp
 have hpos:0<gs'.size:=(Array.getElem?_eq_some_iff.1 h0').1
 have hB:Past Shun (max B w'.1.size) (T'++MemOp.ofEvents 0 fr.fn fr.place es):=(hP'.mono (Nat.le_max_left _ _)).own fun e he=>adA hC.sh (Nat.le_max_right _ _) hwin hWent.size (hWent.good e he)
 have hgb1:∀g,Gb g=true->¬ Z g/\g<v1.1.size:=fun g hg=>⟨hGz g hg,by
  have h1:=(hC.gb g hg).2
  have h2:=hWent.size
  have h3:=hWent.rel.size
  have h4:=hC.rel.size
  have h5:(w.at d').1.size=w.1.size:=rfl
  omega⟩
 have hgz1:¬ Z P.globals.size/\P.globals.size<v1.1.size:=⟨hC.gz.1,by
  have h1:=hC.gz.2
  have h2:=hWent.size
  have h3:=hWent.rel.size
  have h4:=hC.rel.size
  have h5:(w.at d').1.size=w.1.size:=rfl
  omega⟩
 have hold1:∀b,Zo b->Z b/\w'.1[b]? =Wo.1[b]? :=fun b hb=>⟨(hC.old b hb).1,(hWent.hid b (hC.old b hb).1).trans (hC.old b hb).2⟩
 have lead1:∀a',Leavers P (T'++MemOp.ofEvents 0 fr.fn fr.place es) ((gs'.map (woken P (G fr cs) a' w')).setIfInBounds 0 a') q':=fun a'=>hL'.own hpos _ _ _
 have hset:∀a',(((gs'.map (woken P (G fr cs) a' w')).setIfInBounds 0 a'))[0]? =some a':=fun a'=>by simp [hpos]
 have hrunN:∀{m'':Machine} {ops:Array MemOp},stepT P (crowd gs' (w.at d) sl')=(.next m'',ops)->runNT P (N+1) (crowd gs w sl) T=(.next m'',T'++ops):=fun h=>Go.ConcX.runNT_then hr h
 rcases hcase with ⟨fr',cs',e1,hf',hcs',hm',hgoP⟩|⟨frX,args,hfX,hmr,hargs,e1,hgoP⟩
 ·obtain⟨rfl,rfl⟩:=Nl e1
  have hgoP':stepG P (0==0) (G fr cs) (w.at d')= .go (G fr1 cs1) w' es:=by simpa using hgoP
  have hstep:=hrunN (hst.trans (runT_crowd_go (P:=P) (i:=0) h0' hgoP'))
  obtain⟨N2,r⟩:=ih _ _ hlead Z Shun _ _ fr1 cs1 w' sl'' _ q' rfl ⟨hset _,lead1 _,hB,hWent.rel,hW1,⟨hf'.notSat,fun c hc=>(hcs' c hc).1.notSat⟩,hC.sh,hgb1,hgz1,hold1⟩
  obtain⟨gs2,fr2,w2,v2,sl2,T2,q2,Z2,Sh2,B2,r1,r2,r3⟩:=r
  exact⟨N+1+N2,gs2,fr2,w2,v2,sl2,T2,q2,Z2,Sh2,B2,Go.ConcX.runNT_trans hstep r1,r2,r3⟩
 ·have e1':G fr1 (cs1++ [bV F])=G (Frame.enter (sw P F) sat args .normal) ((frX :: cs)++ [bV F]):=by simpa using e1
  obtain⟨rfl,rfl⟩:=Nl e1'
  have hgoP':stepG P (0==0) (G fr cs) (w.at d')= .go (G (Frame.enter P sat args .normal) (frX :: cs)) w' es:=by simpa using hgoP
  have hstep:=hrunN (hst.trans (runT_crowd_go (P:=P) (i:=0) h0' hgoP'))
  obtain⟨N2,gs2,x,w2,v2,sl2,T2,q2,Z2,Sh2,B2,r1,r2,r3⟩:=hPh Z Shun _ _ frX cs w' v1 sl'' _ q' args hmr (hset _) (lead1 _) hB hWent.rel hW1 ⟨hfX.notSat,hC.ns.2⟩ hC.sh hgb1 hgz1 hold1 hw1
  have hl2:=hlead.trans r2
  obtain⟨N3,gs3,fr3,w3,v3,sl3,T3,q3,Z3,Sh3,B3,t1,t2,t3⟩:=ih _ _ hl2 Z2 Sh2 B2 gs2 _ cs w2 sl2 T2 q2 rfl r3
  exact⟨N+1+N2+N3,gs3,fr3,w3,v3,sl3,T3,q3,Z3,Sh3,B3,Go.ConcX.runNT_trans (Go.ConcX.runNT_trans hstep r1) t1,t2,t3⟩
end
end
section
open Go
section
variable (P:Program) (F:Array Func)
theorem run_program(w:World):Go.program.run P w= .ok P w:=rfl
theorem Ea(t:TypeId):(sw P F).underlying t=P.underlying t:=rfl
theorem PK(i:Nat):(sw P F).funcs[i]? =F[i]? :=rfl
theorem Mx:(sw P F).toTables=P.toTables:=rfl
theorem sI(t:TypeId)(w:World):(typeInfo t).run (sw P F) w=(typeInfo t).run P w:=by
 unfold typeInfo
 simp only [Sem.run_bind,run_program,Result.andThen_ok]
 cases P.info? t <;> rfl
theorem Rh(t:TypeId)(w:World):(sizeOf t).run (sw P F) w=(sizeOf t).run P w:=by
 unfold sizeOf
 simp only [Sem.run_bind,sI]
 cases (typeInfo t).run P w <;> rfl
theorem sN(t:TypeId)(w:World):(underlying t).run (sw P F) w=(underlying t).run P w:=by
 unfold underlying
 simp only [Sem.run_bind,run_program,Result.andThen_ok,Ea]
 cases P.underlying t <;> rfl
theorem Vb(t:TypeId)(w:World):(isAgg t).run (sw P F) w=(isAgg t).run P w:=by
 unfold isAgg
 simp only [Sem.run_bind,sN]
 congr 1
 funext d w
 split <;> simp only [Sem.run_pure]
theorem Fy(t:TypeId)(w:World):(zeroValue t).run (sw P F) w=(zeroValue t).run P w:=by
 unfold zeroValue
 simp only [Sem.run_bind,sI]
 congr 1
 funext i w
 split
 ·simp only [Sem.run_pure]
 ·rfl
theorem abP{n:Nat}{fn:Func}{c:Code}(Pg:Program)(hf:Pg.funcs[n]? =some fn)(hb:fn.body=some c)(hn:(fn.name== "runtime.NumGoroutine")=false)(args:Array Value)(w:World):(callFunc n args).run Pg w= .ok (.enter n args) w:=by
 have h1:¬ fn.name= "runtime.NumGoroutine" :=by simpa using hn
 simp [callFunc,hf,h1,hb]
end
end
section
open Go Go.Conc Go.RowKit
variable [Wn]
def Zst(P:Program)(Gb:Nat->Bool)(W:World):Nat->Prop:=fun b=>b<W.1.size/\Gb b=false/\b≠P.globals.size
theorem Rel.refl(Z:Nat->Prop)(w:World):Rel Z w w:=⟨rfl,rfl,rfl,rfl,rfl,fun _ _=>rfl⟩
theorem Rel.eq{Z:Nat->Prop}{w w' v:World}(h:Rel Z w v)(h':Rel Z w' v)(hid:∀b,Z b->w'.1[b]? =w.1[b]?):w'=w:=by
 obtain⟨a1,a2,a3,a4,a5,a6⟩:=h
 obtain⟨b1,b2,b3,b4,b5,b6⟩:=h'
 obtain⟨h1,h2,h3,h4,h5⟩:=w
 obtain⟨k1,k2,k3,k4,k5⟩:=w'
 simp only at*
 have e:k1=h1:=by
  apply Array.ext_getElem?
  intro b
  by_cases hb:Z b
  ·exact hid b hb
  ·rw [b6 b hb,a6 b hb]
 subst e
 rw [b2,a2.symm,b3,a3.symm,b4,a4.symm,b5,a5.symm]
theorem Ye{Pg:Program}{fr:Frame}{w:World}{fn:Func}{x:Value}(hm:fr.mode= .returning)(hd:fr.defers= [])(hk:fr.kind= .normal)(hf:Pg.funcs[fr.fn]? =some fn)(he:(results fn fr.tmps).run Pg w= .ok x w)(hin:Pg.inits.idxOf? fr.fn=none):
  stepG Pg true (G fr []) w= .ended (.done x) w (seen Pg fr.fn ((results fn fr.tmps).events Pg w #[])):=by
 simp [G,stepG,unwind,doReturn,hm,hd,hk,hf,he,hin,Sem.runT_eq,GStep.after]
section
variable {P:Program} {F:Array Func} {Lb Gb:Nat->Bool} {s sat:Nat}
def Kept(W:World)(X:Value)(x:Value)(w:World):Prop:=x=X/\Below W.1.size W (tp w W.tape w.drawn)
theorem Kept.tp{W:World}{X x:Value}{v:World}(h:Kept W X x v)(τ:Nat->Question->Nat)(d:Nat):Kept W X x (Sq.tp v τ d):=
 ⟨h.1,h.2.os,rfl,h.2.output,h.2.size,h.2.block⟩
theorem Xr(hSys:∀Z:Nat->Prop,(∀g,Gb g=true->¬ Z g)->¬ Z P.globals.size->Sys P F Z Lb Gb sat)(hSysF:∀Z:Nat->Prop,(∀g,Gb g=true->¬ Z g)->¬ Z P.globals.size->zo P F Z Lb Gb)(hs:Lb s=false)
  (hPh:∀ (Zo:Nat->Prop) (Wo:World) (Z0:Nat->Prop) (Rx:Value->World->Prop),(∀b o,Wn.x b=some o->Zo b/\Wo.1[b]? =some o)->N8 P F Lb Gb s sat Zo Wo (Qb P F Z0 Lb Gb s Rx))
  (hin:∀f,Lb f=true->P.inits.idxOf? f=none) {f:FuncId} (hf:Lb f=true) (hfs:f≠sat) {W:World} {args:Array Value} {X:Value} (hgs:P.globals.size<W.1.size) (hg:∀g,Gb g=true->g<W.1.size)
  (hobj:∀b o,(Gb b=true∨b=P.globals.size)->W.1[b]? =some o->AvO (up (Zst P Gb W) W.1.size) (lk Lb (aF P Lb Gb)) o)
  (hwn:∀b o,Wn.x b=some o->Zst P Gb W b/\W.1[b]? =some o)
  (hargs:∀ (j:Nat) x,args[j]? =some x->Av (up (Zst P Gb W) W.1.size) (lk Lb (aF P Lb Gb)) x∨Wn.wv (Wn.kd f j) x)
  (hc:∀τ d,Calls (sw P F) f args (Sq.tp W τ d) fun e w'=>e= .returned X/\Below W.1.size (Sq.tp W τ d) w'):
  ∃M last o w' t',runNT P (M+1) (solo (G (Frame.enter P f args .normal) []) W) #[]=(.ended o w',t')/\runN P M (solo (G (Frame.enter P f args .normal) []) W)= .next last/\
   step P last= .ended o w'/\Conc.Good P (Kept W X) last o w' t':=by
 have hG:∀g,Gb g=true->¬ Zst P Gb W g:=fun g h z=>by have h1:=z.2.1;rw [h]at h1;cases h1
 have hZ:¬ Zst P Gb W P.globals.size:=fun z=>z.2.2 rfl
 have hG1:∀g,Gb g=true->¬ up (Zst P Gb W) W.1.size g:=fun g h u=>u.elim (hG g h) fun x=>by have:=hg g h;omega
 have hZ1:¬ up (Zst P Gb W) W.1.size P.globals.size:=fun u=>u.elim hZ fun x=>by omega
 have hmem:AvB (up (Zst P Gb W) W.1.size) (lk Lb (aF P Lb Gb)) W:=by
  refine⟨fun b o hb e=>hobj b o ?_ e⟩
  have hlt:=lt_of_heap e
  have hn:¬ Zst P Gb W b:=fun z=>hb (.inl z)
  cases hgb:Gb b with
  |true=>exact .inl rfl
  |false=>exact .inr (Classical.byContradiction fun h=>hn ⟨hlt,hgb,h⟩)
 have hargs0:∀ (j:Nat) x,args[j]? =some x->Av (Zst P Gb W) (lk Lb (aF P Lb Gb)) x∨Wn.wv (Wn.kd f j) x:=fun j x hx=>(hargs j x hx).imp (mF zS) id
 have hav:AvW (Zst P Gb W) (lk Lb (aF P Lb Gb)) W:=⟨fun b o hb e=>mK zS (hmem.obj b o (fun u=>u.elim hb fun hn=>by have:=lt_of_heap e;omega) e),fun b hb=>hb.1,hwn⟩
 have hwins:=KY (hSysF (Zst P Gb W) hG hZ) hs hf hargs0 hav (Rx:=Kept W X) (fun x v τ d h=>h.tp τ d)
  (fun τ d=>(hc τ d).mono fun e w' h=>⟨X,h.1,rfl,h.2.os,rfl,h.2.output,h.2.size,h.2.block⟩)
 obtain⟨e1,e2,e3⟩:=IZ (hSys _ hG1 hZ1) hf hfs hargs
 have ef:=e1.fn
 have hfn:(Frame.enter P f args .normal).fn=f:=by
  obtain⟨fn,body,h1,_,h3,_⟩:=(hSys _ hG1 hZ1).fn f hf hfs
  simp [Frame.enter,h1,h3]
 obtain⟨f1,f2⟩:=Ad (hSysF _ hG1 hZ1) hs hf hargs
 rw [e2]at f1 f2 hwins
 have hC:CSt P Lb Gb s sat (Zst P Gb W) W (Zst P Gb W) (fun _=>False) 0 #[G (Frame.enter P f args .normal) []] (Frame.enter P f args .normal) [] W W #[] (fun _=>0):=
  ⟨rfl,leavers_one P _,past_nil,.refl _ _,⟨f1,vS,hmem,fun b hb=>hb.1,hwn,.inl e3⟩,⟨by rw [hfn];exact hfs,vS⟩,fun l h=>h.elim,fun g h=>⟨hG g h,hg g h⟩,⟨hZ,hgs⟩,fun b hb=>⟨hb,rfl⟩⟩
 obtain⟨N,gs',fr',w',v',sl',T',q',Z',Shun',B',r1,r2,r3⟩:=company hSys hSysF hs hwn (hPh (Zst P Gb W) W (Zst P Gb W) (Kept W X) hwn) hwins (Zst P Gb W) _ 0 _ (Frame.enter P f args .normal) [] W none #[] _ rfl hC
 obtain⟨fr2,fn,x,eq,hm,hdf,hfok,hfn2,hres,hRx,hav2⟩:=r2
 obtain rfl:fr'=fr2:=by
  simp only [G,Goroutine.mk.injEq]at eq
  exact eq.1
 -- the last step
 obtain⟨fnP,bodyP,hP1,hF1,hb1,_,_⟩:=(hSys Z' (fun g h=>(r3.gb g h).1) r3.gz.1).fn fr'.fn r3.well.top.fn r3.ns.1
 obtain rfl:fnP=fn:=Option.some.inj (hF1.symm.trans hfn2)
 have hy:Hyg P (sw P F) Z' (lk Lb (aF P Lb Gb)) (Av Z' (lk Lb (aF P Lb Gb))) (results fnP fr'.tmps):=jA r3.gz.1 fnP (acS (hSysF Z' (fun g h=>(r3.gb g h).1) r3.gz.1) r3.well.fr0 hF1)
 have hq:=fun(τ:Nat->Question->Nat) (d:Nat)=>aaW (P:=P) (F:=F) (s:=s) (hSysF (Zst P Gb W) hG hZ) (Rx:=Kept W X) (fun x v τ d h=>h.tp τ d) (g:=G fr' [bV F]) (v:=v') (τ:=τ) (d:=d) ⟨fr',fnP,x,rfl,hm,hdf,hfok,hfn2,hres,hRx,hav2⟩
 have hend:∀d,∃es,stepG P true (G fr' []) (w'.at d)= .ended (.done x) (w'.at d) es/\(∀e∈es,Bq Z' w'.1.size e)/\Kept W X x (w'.at d):=by
  intro d
  obtain⟨fr3,fn3,x3,eq3,_,_,_,hf3,hres3,hR3,_⟩:=hq w'.tape d
  obtain rfl:fr'=fr3:=by
   simp only [G,Goroutine.mk.injEq]at eq3
   exact eq3.1
  obtain rfl:fnP=fn3:=Option.some.inj (hfn2.symm.trans hf3)
  have hrel:Rel Z' (w'.at d) (tp v' w'.tape d):=⟨r3.rel.size,rfl,rfl,r3.rel.os,r3.rel.output,r3.rel.same⟩
  obtain⟨_,⟨w2,new,hT,hrel2,hgood,_,hid⟩,_⟩:=hy.sim lkT #[] x3 _ hrel (r3.well.avw.tp w'.tape d) hres3
  obtain rfl:=Rel.eq hrel hrel2 hid
  have hrun:(results fnP fr'.tmps).run P (w'.at d)= .ok x3 (w'.at d):=by rw [←Sem.runT_fst P _ _ #[],hT]
  have hx:x3=x:=by
   have h0:=hres
   obtain⟨c,hl⟩:=hy.local lkT v' r3.well.avw
   have hc0:c=0:=by have:=(hl.ok x v' hres).2;omega
   subst hc0
   have hre:=hl.re w'.tape d (fun j hj=>by omega)
   rw [hres]at hre
   rw [hre]at hres3
   cases hres3
   rfl
  subst hx
  refine⟨_,Ye hm hdf r3.well.top.kind hP1 hrun (hin _ r3.well.top.fn),fun e he=> ?_,hR3.1, ?_⟩
  ·have hm2:=mem_seen he
   have hev:(results fnP fr'.tmps).events P (w'.at d) #[]=new:=by
    have:=congrArg Prod.snd hT
    simpa using this
   rw [hev]at hm2
   exact hgood e hm2
  ·have hb:=hR3.2
   refine⟨r3.rel.os.trans hb.os,rfl,r3.rel.output.trans hb.output, ?_,fun k hk=> ?_⟩
   ·show W.1.size<=w'.1.size
    rw [r3.rel.size]
    exact hb.size
   ·show w'.1[k]? =W.1[k]?
    by_cases hz:Zst P Gb W k
    ·exact(r3.old k hz).2
    ·have hz':¬ Z' k:=by
      cases hgb:Gb k with
      |true=>exact(r3.gb k hgb).1
      |false=>
       have:k=P.globals.size:=Classical.byContradiction fun h=>hz ⟨hk,hgb,h⟩
       rw [this];exact r3.gz.1
     exact(r3.rel.same k hz').trans (hb.block k hk)
 obtain⟨K,last,o,w2,t2,k1,k2,k3,k4⟩:=beside_ends (P:=P) (Shun:=Shun') (B:=max B' w'.1.size) (D:=fun _ _ _=>False) (Post:=Kept W X) (n:=0) (sl:=sl') (fun _ _ _ h=>h.elim) r3.h0 r3.lv (r3.pt.mono (Nat.le_max_left _ _)) (by
  rintro w1 ⟨d,rfl⟩
  obtain⟨es,h1,h2,h3⟩:=hend d
  exact⟨rfl,x,es,h1,fun e he=>Fq r3.sh (Nat.le_max_right _ _) (h2 e he),h3⟩)
 refine⟨N+K,last,o,w2,t2, ?_, ?_,k3,k4⟩
 ·rw [Nat.add_assoc,runNT_add]
  show(match runNT P N (crowd #[G (Frame.enter P f args .normal) []] W none) #[]with|(.next m,t)=>runNT P (K+1) m t|r=>r)=_
  rw [r1];exact k1
 ·rw [runN_add,←runNT_fst P _ _ #[]]
  show(match(runNT P N (crowd #[G (Frame.enter P f args .normal) []] W none) #[]).1 with| .next m=>runN P K m|r=>r)=_
  rw [r1];exact k2
end
section
variable {H:Type} {enc:TypeId×Value->H}
theorem leaving_and{a:Assume}{C:Checked}{os:Os}{f:FuncId}{fn:Func}{s:ChangeSpec}{conds:List PathCond}{apart fresh handsOn again:Bool}{X:World->Array Value->Prop}
  (keeps:∀ (w w':World) (ars:Array Value),w.heap=w'.heap->X w ars->X w' ars)
  (own:ownKnob C.prog.godebug=none) (started:os.Started) (hfn:C.prog.funcs[f]? =some fn)
  (wit:∃ (w:World) (tape:Tape) (i:Input),w.os=os/\(w.forCall tape i).Shaped C.prog/\i.vars= []/\Input.okWide C.prog (w.forCall tape i) .any w.1.size f i/\
   ((s.pre enc C.prog fn conds apart (w.forCall tape i).memory i.args/\X (w.forCall tape i).memory i.args)/\sizedMet enc C.prog fn (OpenSpec.ofChange s) apart (w.forCall tape i).memory i.args)/\a.holds C.prog (lone (Frame.enter C.prog f i.args .normal) [] (w.forCall tape i)))
  (runs:∀ (W:World) (base:Nat) (ars:Array Value) (ds gs:List (DataW H)) (before:List MemPlace),
   (∀ (j:Nat) t v,fn.params[j]? =some t->ars[j]? =some v->Value.okWide C.prog W .any base t v)->
   DataW.Whole enc C.prog fn.params.toList s.vars apart W ars.toList ds gs before->X W ars->W.ShapedOpen C.prog->
   ∃M last o w' t',runNT C.prog (M+1) (solo (G (Frame.enter C.prog f ars .normal) []) W) #[]=(.ended o w',t')/\runN C.prog M (solo (G (Frame.enter C.prog f ars .normal) []) W)= .next last/\
    step C.prog last= .ended o w'/\Conc.Good C.prog (fun v W'=>s.post enc C.prog fn apart fresh handsOn again W ars v W') last o w' t'):
  ReturnsInLeavingWide a C os f .any (fun w ars=>(s.pre enc C.prog fn conds apart w ars/\X w ars)/\sizedMet enc C.prog fn (OpenSpec.ofChange s) apart w ars) (s.post enc C.prog fn apart fresh handsOn again):=by
 refine returnsInLeavingWide_of_good own started wit ?_
 intro w tape i _ shape _ ok pre _
 obtain⟨_,_,_,fn2,h2,_,_,_,_,vals⟩:=ok
 obtain rfl:fn2=fn:=Option.some.inj (h2.symm.trans hfn)
 obtain⟨⟨⟨ds,gs,before,whole,_⟩,hx⟩,_⟩:=pre
 obtain⟨M,last,o,w',t',h1,h2,h3,h4⟩:=runs (w.forCall tape i) w.1.size i.args ds gs before vals (DataW.Whole.of_heap (by rfl) whole) (keeps _ _ _ (by rfl) hx) shape
 exact⟨M,last,o,w',t',h1,h2,h3,h4.mono fun v hp=>ChangeSpec.post_blind hp⟩
end
end
section
open Go Go.Conc
def cellOf:Obj->Addr->Option Value
 | .cells c _ _,a=>if a.spot.isSome then none else c[a.off]?
 |_,_=>none
theorem cell_of{w:World}{a:Addr}{o:Obj}(h:w.1[a.block]? =some o):w.cell? a=cellOf o a:=by
 unfold World.cell?
 rw [h]
 cases o <;> rfl
inductive Wr(P P':Program)(X:Nat->Option Obj){α:Type}(Q:α->Prop):Sem α->Prop
 |pure {a:α}:Q a->Wr P P' X Q (.pure a)
 |load {a:Addr} {k:Value->Sem α} {o:Obj} {v:Value}:X a.block=some o->cellOf o a=some v->Wr P P' X Q (k v)->Wr P P' X Q (.load .plain a k)
 |program {k:Program->Sem α}:k P'=k P->Wr P P' X Q (k P)->Wr P P' X Q (.program k)
 |dead {s:Sem α}:(∀Pg w,Dies Pg s w)->Wr P P' X Q s
section
variable {P P':Program} {X:Nat->Option Obj} {α β:Type} {Q:α->Prop} {R:β->Prop}
theorem Wr.bind{s:Sem α}{f:α->Sem β}(h:Wr P P' X Q s)(hf:∀a,Q a->Wr P P' X R (f a)):Wr P P' X R (s>>=f):=by
 show Wr P P' X R (Sem.bind s f)
 induction h with
 |pure h=>exact hf _ h
 |load h h2 _ ih=>exact .load h h2 ih
 | @program k e _ ih=>exact .program (show(k P').bind f=(k P).bind f by rw [e]) ih
 | @dead s h=>
  refine .dead fun Pg w=> ?_
  obtain⟨hh,d,h1,h2⟩:=h Pg w
  exact⟨hh,d,by rw [Sem.run_bind',h1];rfl,h2⟩
theorem Wr.mono{Q':α->Prop}{s:Sem α}(h:Wr P P' X Q s)(hq:∀a,Q a->Q' a):Wr P P' X Q' s:=by
 induction h with
 |pure h=>exact .pure (hq _ h)
 |load h h2 _ ih=>exact .load h h2 ih
 |program e _ ih=>exact .program e ih
 |dead h=>exact .dead h
theorem Wr.out{s:Sem α}(h:Wr P P' X Q s):∃r:Option α,(∀x,r=some x->Q x/\∀Pg,Pg=P∨Pg=P'->∀w:World,(∀b o,X b=some o->w.1[b]? =some o)->
   ∀es,∃new,s.runT Pg w es=(.ok x w,es++new)/\∀e∈new,∃a ob,e=⟨.cell a,false,false⟩/\X a.block=some ob)/\
  (r=none->∀Pg,Pg=P∨Pg=P'->∀w:World,(∀b o,X b=some o->w.1[b]? =some o)->Dies Pg s w):=by
 induction h with
 | @pure a h=>exact⟨some a,fun x e=>by cases e;exact⟨h,fun Pg _ w _ es=>⟨#[],by simp [Sem.runT],vS⟩⟩,fun e=>by cases e⟩
 |dead h=>exact⟨none,fun x e=>by(cases e),fun _ Pg _ w _=>h Pg w⟩
 | @load a k o v h1 h2 _ ih=>
  obtain⟨r,r1,r2⟩:=ih
  have hg:∀ (Pg:Program) (w:World),(∀b o,X b=some o->w.1[b]? =some o)->sM Pg w a= .ok (v,[a]):=fun Pg w hw=>by
   unfold sM
   rw [cell_of (hw _ _ h1),h2]
  refine⟨r,fun x e=>⟨(r1 x e).1,fun Pg hP w hw es=> ?_⟩,fun e Pg hP w hw=> ?_⟩
  ·obtain⟨new,n1,n2⟩:=(r1 x e).2 Pg hP w hw (es++ #[⟨.cell a,false,false⟩])
   refine⟨#[⟨.cell a,false,false⟩]++new, ?_,fun e he=> ?_⟩
   ·rw [Vx,hg Pg w hw]
    have e1:([a].toArray.map (⟨.cell ·,false,false⟩):Array Event)= #[⟨.cell a,false,false⟩]:=vS
    simp only []
    rw [e1,n1,Array.append_assoc]
   ·rcases Array.mem_append.1 he with m|m
    ·simp only [List.mem_toArray,List.mem_singleton]at m
     exact⟨a,o,m,h1⟩
    ·exact n2 e m
  ·obtain⟨hh,d,q1,q2⟩:=r2 e Pg hP w hw
   exact⟨hh,d,by rw [run_load,hg Pg w hw];exact q1,q2⟩
 | @program k hk _ ih=>
  obtain⟨r,r1,r2⟩:=ih
  have e:∀Pg,Pg=P∨Pg=P'->k Pg=k P:=by
   rintro Pg (rfl|rfl)
   ·rfl
   ·exact hk
  refine⟨r,fun x e'=>⟨(r1 x e').1,fun Pg hP w hw es=> ?_⟩,fun e' Pg hP w hw=> ?_⟩
  ·obtain⟨new,n1,n2⟩:=(r1 x e').2 Pg hP w hw es
   exact⟨new,by simp only [Sem.runT];rw [e Pg hP];exact n1,n2⟩
  ·obtain⟨hh,d,q1,q2⟩:=r2 e' Pg hP w hw
   exact⟨hh,d,by simp only [Sem.run];rw [e Pg hP];exact q1,q2⟩
end
section
variable {P:Program} {F:Array Func} {X:Nat->Option Obj} {α β:Type} {Q:α->Prop} {R:β->Prop}
theorem ac1{h:Halt}(hh:iP h):Wr P (sw P F) X Q (.halt h):= .dead fun Pg w=>⟨h,w.drawn,rfl,hh⟩
theorem acX(s:String):Wr P (sw P F) X Q (stuck s):=ac1 (.stuck s)
theorem adi{f:Program->Sem β}(e:f (sw P F)=f P)(h:Wr P (sw P F) X R (f P)):Wr P (sw P F) X R (program>>=f):= .program e h
theorem ac7{c:Prop}[Decidable c]{s t:Sem α}(h:c->Wr P (sw P F) X Q s)(h':¬ c->Wr P (sw P F) X Q t):Wr P (sw P F) X Q (if c then s else t):=by
 by_cases hc:c
 ·rw [if_pos hc];exact h hc
 ·rw [if_neg hc];exact h' hc
theorem ac5(t:TypeId):Wr P (sw P F) X (fun i=>P.info? t=some i) (typeInfo t):=by
 unfold typeInfo
 refine adi rfl ?_
 split
 ·exact .pure tQ
 ·exact acX _
theorem acM(t:TypeId):Wr P (sw P F) X (fun d=>P.underlying t=some d) (underlying t):=by
 unfold underlying
 refine adi rfl ?_
 split
 ·exact .pure tQ
 ·exact acX _
theorem acP(t:TypeId):Wr P (sw P F) X (fun n=>∃i,P.info? t=some i/\n=i.size) (sizeOf t):=by
 unfold sizeOf
 exact Wr.bind (ac5 t) fun i hi=> .pure ⟨i,hi,rfl⟩
theorem adD(k:IntKind)(x y:Int)(c:BoundsCode):Wr P (sw P F) X Q (boundsPanic k x y c):=by
 refine .dead fun Pg w=> ?_
 have hr:∀ (s:Bool) (w:World),∃v,(runtimePanic (.bounds (IntKind.i64.wrap x) y s c):Sem α).run Pg w= .halt (.panic v) w:=fun s w=>⟨_,rfl⟩
 unfold boundsPanic
 dsimp only
 split
 ·obtain⟨v,hv⟩:=hr ((w.tape w.drawn (.extern "runtime.boundsError.signed" 2)) % 2==1) {w with drawn:=w.drawn+1}
  exact⟨.panic v,w.drawn+1,by first|exact hv|(simp [choose,Sem.run];exact hv),.panic v⟩
 ·obtain⟨v,hv⟩:=hr (k != .u64) w
  exact⟨.panic v,w.drawn,hv,.panic v⟩
theorem acW(v:Value):Wr P (sw P F) X (fun _=>True) (asIntOf v):=by
 unfold asIntOf
 split
 ·exact .pure trivial
 ·exact ac1 .addr
 ·exact acX _
theorem ac6(x:Value)(y:Nat)(c:BoundsCode):Wr P (sw P F) X (fun n=>n<=y) (Instr.sliceBound x y c):=by
 unfold Instr.sliceBound
 refine Wr.bind (acW _) fun ki _=> ?_
 exact ac7 (fun h=> .pure vO) fun _=>adD _ _ _ _
end
end
section
open Go Go.Conc
structure Win where
 b:Nat
 off:Nat
 cap:Nat
 z:Nat
 f:Nat
 o:Obj
def Win.vals(W:Win):Nat->Value->Prop
 |1,v=>∃i l c,v= .slice (some ⟨W.b,W.off+i*W.z,none⟩) l c/\l<=c/\i+c<=W.cap
 |2,v=>∃i,i<W.cap/\v= .pointer (some ⟨W.b,W.off+i*W.z,none⟩)
 |3,v=>∃i,i<W.cap/\v= .pointer (some ⟨W.b,W.off+i*W.z+W.f,none⟩)
 |_,_=>False
def Win.x(W:Win)(b:Nat):Option Obj:=if b=W.b then some W.o else none
theorem Win.x_b(W:Win):W.x W.b=some W.o:=by simp [Win.x]
def Win.Plain(W:Win):Prop:=∀j,j<W.cap*W.z->∃v,cellOf W.o ⟨W.b,W.off+j,none⟩=some v/\avS v=true
theorem ac8{v:Value}(h:avS v=true):avB v=true:=by cases v <;> first|exact h|simp [avS]at h
section
variable {P:Program} {F:Array Func} {W:Win}
theorem adh{a:Addr}{v:Value}(ha:a.block=W.b)(hv:cellOf W.o a=some v):Wr P (sw P F) W.x (fun x=>x=v) (load a):= .load (by rw [ha];exact W.x_b) hv (.pure rfl)
theorem acQ{a:Addr}(ha:a.block=W.b):∀ (n i:Nat) (acc:Array Value),(∀j,j<n->∃v,cellOf W.o (a.add (i+j))=some v/\avS v=true)->(∀v∈acc,avS v=true)->Wr P (sw P F) W.x (fun cs=>∀v∈cs,avS v=true) (loadCellsFrom a i n acc)
 |0,_,_,_,h=> .pure h
 | n+1,i,acc,hc,h=>by
  unfold loadCellsFrom
  obtain⟨v,h1,h2⟩:=hc 0 vO
  refine Wr.bind (adh (by rw [add_block];exact ha) h1) fun x hx=> ?_
  subst hx
  refine acQ ha n (i+1) _ (fun j hj=> ?_) fun c hcm=> ?_
  ·have:=hc (j+1) vO
   rwa [show i+(j+1)=i+1+j by omega]at this
  ·rcases Array.mem_push.1 hcm with m|m
   ·exact h c m
   ·exact m▸h2
theorem ac2(t:TypeId):Wr P (sw P F) W.x (fun b=>∃u,P.underlying t=some u/\b=(match u with| .struct _| .array _ _=>true|_=>false)) (isAgg t):=by
 unfold isAgg
 refine Wr.bind (acM t) fun d hd=> ?_
 split
 ·exact .pure ⟨_,hd,rfl⟩
 ·exact .pure ⟨_,hd,rfl⟩
 ·next h1 h2=>exact .pure ⟨_,hd,by split <;> first|rfl|(exact absurd rfl (h1 _))|(exact absurd rfl (h2 _ _))⟩
theorem acR{b o n:Nat}:(⟨b,o,none⟩:Addr).add n=⟨b,o+n,none⟩:=by
 unfold Addr.add
 split
 ·next h=>subst h;rfl
 ·rfl
theorem adw(hp:W.Plain){t:TypeId}{fs:Array Field}{inf:TypeInfo}(hu:P.underlying t=some (.struct fs))(hi:P.info? t=some inf)(hz:inf.size=W.z){v:Value}(hv:W.vals 2 v):Wr P (sw P F) W.x (fun x=>avB x=true) (Instr.loadAt t v):=by
 obtain⟨i,hic,rfl⟩:=hv
 unfold Instr.loadAt Instr.sureAddr
 refine Wr.bind (.pure rfl) fun a ha=> ?_
 subst ha
 unfold loadVar
 refine Wr.bind (ac2 t) fun b hb=> ?_
 obtain⟨u,h1,h2⟩:=hb
 rw [hu]at h1
 cases h1
 subst h2
 dsimp only
 rw [if_pos rfl]
 refine Wr.bind (acP t) fun n hn=> ?_
 obtain⟨inf',h1,rfl⟩:=hn
 rw [hi]at h1
 cases h1
 refine Wr.bind (acQ rfl _ 0 #[] (fun j hj=> ?_) vS) fun cs hcs=> .pure ?_
 ·rw [acR]
  have hle:(i+1)*W.z<=W.cap*W.z:=Nat.mul_le_mul_right _ hic
  rw [Nat.add_mul,Nat.one_mul]at hle
  obtain⟨v,q1,q2⟩:=hp (i*W.z+j) vO
  exact⟨v,by rw [show W.off+i*W.z+(0+j)=W.off+(i*W.z+j) by omega];exact q1,q2⟩
 ·unfold avB
  exact Array.all_eq_true_iff_forall_mem.2 hcs
theorem adH(hp:W.Plain){t:TypeId}{u:TypeDesc}(hu:P.underlying t=some u)(hn:∀fs,u≠ .struct fs)(hn2:∀n e,u≠ .array n e)(hf:W.f<W.z){v:Value}(hv:W.vals 3 v):Wr P (sw P F) W.x (fun x=>avB x=true) (Instr.loadAt t v):=by
 obtain⟨i,hic,rfl⟩:=hv
 unfold Instr.loadAt Instr.sureAddr
 refine Wr.bind (.pure rfl) fun a ha=> ?_
 subst ha
 unfold loadVar
 refine Wr.bind (ac2 t) fun b hb=> ?_
 obtain⟨u',h1,h2⟩:=hb
 rw [hu]at h1
 cases h1
 have h3:b=false:=by
  rw [h2]
  split
  ·exact absurd rfl (hn _)
  ·exact absurd rfl (hn2 _ _)
  ·rfl
 subst h3
 rw [if_neg vS]
 have hle:(i+1)*W.z<=W.cap*W.z:=Nat.mul_le_mul_right _ hic
 rw [Nat.add_mul,Nat.one_mul]at hle
 obtain⟨v,q1,q2⟩:=hp (i*W.z+W.f) vO
 exact(adh rfl (by rw [show W.off+i*W.z+W.f=W.off+(i*W.z+W.f) by omega];exact q1)).mono fun x hx=>hx▸ac8 q2
theorem adv{t:TypeId}{fs:Array Field}{f:Nat}{fd:Field}{inf:TypeInfo}(hu:P.underlying t=some (.struct fs))(hf:fs[f]? =some fd)(hi:P.info? fd.type=some inf)(hz:inf.size≠0)(ho:fd.offset=W.f){v:Value}(hv:W.vals 2 v):Wr P (sw P F) W.x (W.vals 3) (Instr.fieldAt t v f):=by
 obtain⟨i,hic,rfl⟩:=hv
 unfold Instr.fieldAt
 refine Wr.bind (acM t) fun d hd=> ?_
 rw [hu]at hd
 cases hd
 dsimp only
 rw [hf]
 dsimp only
 unfold Instr.sureAddr
 refine Wr.bind (.pure rfl) fun a ha=> ?_
 subst ha
 refine Wr.bind (Q:=fun b=>b=⟨W.b,W.off+i*W.z+W.f,none⟩) ?_ fun b hb=> .pure ⟨i,hic,by rw [hb]⟩
 unfold fieldPlace
 refine Wr.bind (acP _) fun n hn=> ?_
 obtain⟨inf',h1,rfl⟩:=hn
 rw [hi]at h1
 cases h1
 rw [if_neg hz]
 exact .pure (by rw [acR,ho])
theorem ado{t e:TypeId}{inf:TypeInfo}(hu:P.underlying t=some (.slice e))(hi:P.info? e=some inf)(hz:inf.size=W.z){v ix:Value}(hv:W.vals 1 v):Wr P (sw P F) W.x (W.vals 2) (Instr.indexAt t v ix):=by
 obtain⟨i,l,c,rfl,hlc,hic⟩:=hv
 unfold Instr.indexAt
 refine Wr.bind (acW _) fun ki _=> ?_
 dsimp only
 refine Wr.bind (acM t) fun d hd=> ?_
 rw [hu]at hd
 cases hd
 dsimp only
 refine Wr.bind (Q:=fun y=>y=(some ⟨W.b,W.off+i*W.z,none⟩,l,e)) (.pure rfl) fun y hy=> ?_
 subst hy
 refine Wr.bind (acM t) fun d hd=> ?_
 rw [hu]at hd
 cases hd
 dsimp only
 refine ac7 (fun hb=> ?_) fun _=>ac7 (fun _=>ac1 (.noEntry _)) fun _=>adD _ _ _ _
 refine Wr.bind (acP e) fun n hn=> ?_
 obtain⟨inf',h1,rfl⟩:=hn
 rw [hi]at h1
 cases h1
 refine .pure ⟨i+ki.2.toNat,vO, ?_⟩
 rw [acR,hz,Nat.add_mul,Nat.add_assoc]
theorem adl(l c:Nat)(hlc:l<=c)(lo hi:Option Value):Wr P (sw P F) W.x (fun y:Nat×Nat×Nat=>y.2.2=c/\y.2.1<=c/\y.1<=y.2.1) (Instr.sliceBounds true l c lo hi none):=by
 unfold Instr.sliceBounds
 have k1:∀h:Nat,h<=c->Wr P (sw P F) W.x (fun y:Nat×Nat×Nat=>y.2.2=c/\y.2.1<=c/\y.1<=y.2.1) (match(generalizing:=false) lo with
    |some v=>do
     let l←Instr.sliceBound v h BoundsCode.sliceB
     pure (l,h,c)
    |none=>do
     let l←pure 0
     pure (l,h,c)):=by
  intro h hh
  split
  ·exact Wr.bind (ac6 _ _ _) fun n hn=> .pure ⟨rfl,hh,hn⟩
  ·exact .pure ⟨rfl,hh,Nat.zero_le _⟩
 cases hi with
 |some v=>exact Wr.bind (.pure rfl) fun m hm=>hm▸Wr.bind (ac6 _ _ _) fun h hh=>k1 h hh
 |none=>exact Wr.bind (.pure rfl) fun m hm=>hm▸Wr.bind (.pure rfl) fun h hh=>hh▸k1 l hlc
theorem adt{t e:TypeId}{inf:TypeInfo}(hu:P.underlying t=some (.slice e))(hi:P.info? e=some inf)(hz:inf.size=W.z){v:Value}(lo hi':Option Value)(hv:W.vals 1 v):Wr P (sw P F) W.x (W.vals 1) (Instr.sliceAt t v lo hi' none):=by
 obtain⟨i,l,c,rfl,hlc,hic⟩:=hv
 unfold Instr.sliceAt
 refine Wr.bind (acM t) fun d hd=> ?_
 rw [hu]at hd
 cases hd
 dsimp only
 unfold Instr.slice
 refine Wr.bind (acM t) fun d hd=> ?_
 rw [hu]at hd
 cases hd
 dsimp only
 refine Wr.bind (adl l c hlc lo hi') fun y hy=> ?_
 obtain⟨a,b,m⟩:=y
 obtain⟨h1,h2,h3⟩:=hy
 simp only at h1 h2 h3
 subst h1
 dsimp only
 refine Wr.bind (acP e) fun n hn=> ?_
 obtain⟨inf',q,rfl⟩:=hn
 rw [hi]at q
 cases q
 refine .pure ?_
 split
 ·next hm=>exact⟨i,b-a,m-a,rfl,vO,vO⟩
 ·refine⟨i+a,b-a,m-a, ?_,vO,vO⟩
  show Value.slice (some (Addr.add _ _)) _ _=_
  rw [acR,hz,Nat.add_mul,Nat.add_assoc]
theorem adG{t e:TypeId}(hu:P.underlying t=some (.slice e)){v:Value}(ty:TypeId)(hv:W.vals 1 v):Wr P (sw P F) W.x (fun x=>avB x=true) (Builtin.len_ #[t] ty #[v]):=by
 obtain⟨i,l,c,rfl,hlc,hic⟩:=hv
 unfold Builtin.len_
 refine Wr.bind (acM t) fun d hd=> ?_
 rw [hu]at hd
 cases hd
 exact .pure rfl
end
section
variable [Wn] {P:Program} {F:Array Func} {Z:Nat->Prop} {Lb:Nat->Bool} {ok:Oper->Bool} {fr:Frame} {o:Oper}
theorem ac4{s:Sem Value}(he:execOp fr.eval o=(do let x←s;pure (Next.value x)))(hnd:∀c,o.op≠ .defer c)
  (hw:Wr P (sw P F) Wn.x (fun x=>Av Z (lk Lb ok) x∨∃d,o.dst=some d/\Wn.wv (Wn.kd fr.fn d) x) s):acT P F Z Lb ok fr o:=by
 have hw':Wr P (sw P F) Wn.x (fun n=>∃x,n=Next.value x/\(Av Z (lk Lb ok) x∨∃d,o.dst=some d/\Wn.wv (Wn.kd fr.fn d) x)) (execOp fr.eval o):=by
  rw [he]
  exact hw.bind fun x hx=> .pure ⟨x,rfl,hx⟩
 obtain⟨r,r1,r2⟩:=hw'.out
 refine⟨hnd, ?_⟩
 cases r with
 |none=>exact⟨none,fun x e=>by(cases e),fun _=>r2 rfl⟩
 |some n=>
  obtain⟨⟨x,rfl,hx⟩,h2⟩:=r1 n rfl
  refine⟨some x,fun y e=> ?_,fun e=>by(cases e)⟩
  cases e
  refine⟨hx,fun Pg hP w hwn=> ?_⟩
  obtain⟨new,n1,n2⟩:=h2 Pg hP w hwn #[]
  rw [Sem.runT_eq]at n1
  simp only [Prod.mk.injEq]at n1
  refine⟨n1.1,fun e he=>n2 e ?_⟩
  rw [n1.2]at he
  simpa using he
theorem FOk.val{s:Nat}(hf:FOk Z Lb ok s fr)(t:Nat):Av Z (lk Lb ok) (fr.eval (.tmp t))∨Wn.wv (Wn.kd fr.fn t) (fr.eval (.tmp t)):=by
 show Av _ _ (fr.tmps.getD t undef)∨Wn.wv _ (fr.tmps.getD t undef)
 rw [Array.getD_eq_getD_getElem?]
 cases e:fr.tmps[t]? with
 |none=>exact .inl o8
 |some v=>exact hf.tmps t v e
def opd(kd:Nat->Nat->Nat)(f:Nat):Operand->Bool
 | .tmp t=>kd f t==0
 | .const v=>avB v
 |_=>false
theorem FOk.opd{s:Nat}(hf:FOk Z Lb ok s fr){x:Operand}(h:Sq.opd Wn.kd fr.fn x=true):Av Z (lk Lb ok) (fr.eval x):=by
 cases x with
 |tmp t=>
  rcases hf.val t with h0|h0
  ·exact h0
  ·rw [show Wn.kd fr.fn t=0 from by simpa [Sq.opd]using h]at h0;exact absurd h0 (Wn.wv0 _)
 |const v=>exact zY h
 |_=>simp [Sq.opd]at h
def spG(kd:Nat->Nat->Nat)(tS tE tF fl:Nat)(f:Nat)(o:Oper):Bool:=match o.dst,o.op with
 |some d,.move (.tmp t)=>kd f t==1&&kd f d==1
 |some d,.slice ty (.tmp t) lo hi none=>ty==tS&&kd f t==1&&kd f d==1&&lo.all (opd kd f)&&hi.all (opd kd f)
 |some d,.indexAddr ty (.tmp t) ix=>ty==tS&&kd f t==1&&kd f d==2&&opd kd f ix
 |some _,.load ty (.tmp t)=>(ty==tE&&kd f t==2)||(ty==tF&&kd f t==3)
 |some d,.fieldAddr ty (.tmp t) g=>ty==tE&&g==fl&&kd f t==2&&kd f d==3
 |some _,.call c=>match c.callee,c.args.toList,c.argTypes.toList with
  | .builtin .len,[.tmp t],[ty]=>ty==tS&&kd f t==1
  |_,_,_=>false
 |_,_=>false
theorem ac9{kd:Nat->Nat->Nat}{tS tE tF fl f:Nat}(h:spG kd tS tE tF fl f o=true):Gg P Lb o.op=true/\VI P o=true/\∀c,o.op≠ .defer c:=by
 unfold spG at h
 split at h
 case h_6 c _ e=>
  obtain⟨callee,args,ats⟩:=c
  simp only at h
  split at h
  ·simp_all [Gg,VI]
  ·cases h
 all_goals first|cases h|simp_all [Gg,VI]
structure WinT(P:Program)(W:Win)(tS tE tF fl:Nat):Prop where
 plain:W.Plain
 ty:∃fs inf fd infF uF,P.underlying tS=some (.slice tE)/\P.info? tE=some inf/\inf.size=W.z/\P.underlying tE=some (.struct fs)/\fs[fl]? =some fd/\fd.offset=W.f/\P.info? fd.type=some infF/\infF.size≠0/\
  P.underlying tF=some uF/\(∀fs,uF≠ .struct fs)/\(∀n e,uF≠ .array n e)/\W.f<W.z
theorem adx{W:Win}{tS tE tF fl s:Nat}(hx:Wn.x=W.x)(hw:Wn.wv=W.vals)(T:WinT P W tS tE tF fl)(hf:FOk Z Lb ok s fr)(h:spG Wn.kd tS tE tF fl fr.fn o=true)(hne:∃x∈o.op.operands,¬ Av Z (lk Lb ok) (fr.eval x)):acT P F Z Lb ok fr o:=by
 have hnd:=(ac9 (P:=P) (Lb:=Lb) h).2.2
 have main:∀t,(∀x∈o.op.operands,x= .tmp t∨opd Wn.kd fr.fn x=true)->W.vals (Wn.kd fr.fn t) (fr.eval (.tmp t)):=fun t ht=>by
  rcases hf.val t with h0|h0
  ·obtain⟨x,hx,hn⟩:=hne
   rcases ht x hx with rfl|h1
   ·exact absurd h0 hn
   ·exact absurd (hf.opd h1) hn
  ·rwa [hw]at h0
 obtain⟨hp,fs,inf,fd,infF,uF,t1,t2,t3,t4,t5,t6,t7,t8,t9,t10,t11,t12⟩:=T
 have win:∀ (s:Sem Value) (d k:Nat),execOp fr.eval o=(do let x←s;pure (Next.value x))->o.dst=some d->Wn.kd fr.fn d=k->Wr P (sw P F) W.x (W.vals k) s->acT P F Z Lb ok fr o:=fun s d k he hd hk h=>
  ac4 he hnd (by rw [hx];exact h.mono fun x hx=> .inr ⟨d,hd,by rw [hw,hk];exact hx⟩)
 have val:∀s:Sem Value,execOp fr.eval o=(do let x←s;pure (Next.value x))->Wr P (sw P F) W.x (fun x=>avB x=true) s->acT P F Z Lb ok fr o:=fun s he h=>
  ac4 he hnd (by rw [hx];exact h.mono fun x hx=> .inl (zY hx))
 unfold spG at h
 split at h
 ·next d t hd ho=>
  simp only [Bool.and_eq_true,beq_iff_eq]at h
  have hv:=main t fun x hx=>by rw [ho]at hx;simp only [Op.operands,List.mem_toArray,List.mem_singleton]at hx;exact .inl hx
  rw [h.1]at hv
  exact win (pure (fr.eval (.tmp t))) d 1 (by unfold execOp;rw [ho];rfl) hd h.2 (.pure hv)
 ·next d ty t lo hi hd ho=>
  simp only [Bool.and_eq_true,beq_iff_eq]at h
  obtain⟨⟨⟨⟨rfl,h2⟩,h3⟩,h4⟩,h5⟩:=h
  have hv:=main t fun x hx=>by
   rw [ho]at hx
   simp only [Op.operands,Array.mem_append,List.mem_toArray,List.mem_singleton,Option.mem_toArray,Option.mem_def]at hx
   rcases hx with ((hx|hx)|hx)|hx
   ·exact .inl hx
   ·rw [hx]at h4;exact .inr (by simpa using h4)
   ·rw [hx]at h5;exact .inr (by simpa using h5)
   ·simp at hx
  rw [h2]at hv
  exact win _ d 1 (by unfold execOp;rw [ho];rfl) hd h3 (adt t1 t2 t3 _ _ hv)
 ·next d ty t ix hd ho=>
  simp only [Bool.and_eq_true,beq_iff_eq]at h
  obtain⟨⟨⟨rfl,h2⟩,h3⟩,h4⟩:=h
  have hv:=main t fun x hx=>by
   rw [ho]at hx
   simp only [Op.operands,List.mem_toArray,List.mem_cons,List.not_mem_nil,or_false]at hx
   rcases hx with hx|hx
   ·exact .inl hx
   ·rw [hx];exact .inr h4
  rw [h2]at hv
  exact win _ d 2 (by unfold execOp;rw [ho]) hd h3 (ado t1 t2 t3 hv)
 ·next d ty t hd ho=>
  simp only [Bool.and_eq_true,Bool.or_eq_true,beq_iff_eq]at h
  have hv:=main t fun x hx=>by rw [ho]at hx;simp only [Op.operands,List.mem_toArray,List.mem_singleton]at hx;exact .inl hx
  rcases h with ⟨rfl,h2⟩|⟨rfl,h2⟩
  ·rw [h2]at hv
   exact val _ (by unfold execOp;rw [ho]) (adw hp t4 t2 t3 hv)
  ·rw [h2]at hv
   exact val _ (by unfold execOp;rw [ho]) (adH hp t9 t10 t11 t12 hv)
 ·next d ty t g hd ho=>
  simp only [Bool.and_eq_true,beq_iff_eq]at h
  obtain⟨⟨⟨rfl,rfl⟩,h2⟩,h3⟩:=h
  have hv:=main t fun x hx=>by rw [ho]at hx;simp only [Op.operands,List.mem_toArray,List.mem_singleton]at hx;exact .inl hx
  rw [h2]at hv
  exact win _ d 3 (by unfold execOp;rw [ho]) hd h3 (adv t4 t5 t7 t8 t6 hv)
 ·next d c hd ho=>
  obtain⟨callee,⟨args⟩,⟨ats⟩⟩:=c
  simp only at h
  split at h
  ·next _ _ _ t ty=>
   simp only [Bool.and_eq_true,beq_iff_eq]at h
   obtain⟨rfl,h2⟩:=h
   have hv:=main t fun x hx=>by rw [ho]at hx;simp only [Op.operands,Call.operands,List.append_toArray,List.nil_append,List.mem_toArray,List.mem_singleton]at hx;exact .inl hx
   rw [h2]at hv
   exact val (Builtin.len_ #[ty] o.type #[fr.eval (.tmp t)]) (by unfold execOp;rw [ho];simp only [resolve,List.map_toArray,List.map_cons,List.map_nil];rfl) (adG t1 _ hv)
  ·cases h
 ·cases h
end
end
end Go.Sq
