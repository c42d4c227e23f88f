import Derived.Test.YtljbnicolhhicaaGreatDoorZPo
import Derived.SevenTiedAt
set_option maxHeartbeats 8000000
set_option maxRecDepth 100000
set_option linter.unusedSectionVars false
set_option linter.unusedSimpArgs false
set_option linter.unusedVariables false
section
namespace Go.Sq
open Go Go.Conc
def LTo(P:Program)(Q K:Goroutine->World->Prop)(g:Goroutine)(v:World):Prop:=K g v∨∃g' v',iW P Q g v g' v'/\K g' v'
section
variable {P:Program} {Q K:Goroutine->World->Prop} {g:Goroutine} {v:World}
theorem LTo.tape(τ:Nat->Question->Nat)(d:Nat)(hq:¬ Q g v)(h:(stepG P true g (tp v τ d)).goes fun g1 v1 _=>LTo P Q K g1 v1):LTo P Q K g v:=by
 obtain⟨g1,v1,es,e,hk⟩:=goes_elim h
 have hl:iW P Q g v g1 v1:= .one hq e
 rcases hk with hk|⟨g2,v2,h2,hk⟩
 ·exact .inr ⟨g1,v1,hl,hk⟩
 ·exact .inr ⟨g2,v2,hl.trans h2,hk⟩
theorem LTo.own(hq:¬ Q g v)(h:(stepG P true g v).goes fun g1 v1 _=>LTo P Q K g1 v1):LTo P Q K g v:=
 LTo.tape v.tape v.drawn hq (by rw [BQ];exact h)
theorem LTo.here(h:K g v):LTo P Q K g v:= .inl h
theorem iW.upTo{g':Goroutine}{v':World}(h:iW P Q g v g' v')(h2:LTo P Q K g' v'):∃g2 v2,iW P Q g v g2 v2/\K g2 v2:=by
 rcases h2 with h2|⟨g2,v2,h3,h4⟩
 ·exact⟨_,_,h,h2⟩
 ·exact⟨_,_,h.trans h3,h4⟩
end
end Go.Sq
namespace Go.Proofs.YtljbnicolhhicaaGreatDoor.Sat
open Go.Conc Go.ConcX Go.RowKit Go.Conc.Lib Go.ConcX.Gen Go.Sq
noncomputable abbrev Po:Program:=sw Tryz.prog FO
attribute [local simp] sI Rh sN Vb Fy Ea Mx
def HdO(x to:Int)(out day:Value)(cs:List Frame)(g:Goroutine):Prop:=∃v2 v3 v4 v5 v6 v7 v10 v11 v12 v13 v14 v15 v16 v17 v18 v19 v20 v21 v22 v23 v24 v25 v26 v27:Value,
 g=G ((base 160).at ⟨#[x,to,v2,v3,v4,v5,v6,v7,out,day,v10,v11,v12,v13,v14,v15,v16,v17,v18,v19,v20,v21,v22,v23,v24,v25,v26,v27],[]⟩ [.code LBo,.inLoop LBo,.inBlock 0,.code FU]) cs
def ReO(out:Value)(cs:List Frame)(g:Goroutine):Prop:=∃ (T:Array Value) (k:List Item),g=G {(base 160).at ⟨T,[]⟩ k with mode:= .returning} cs/\T[4]? =some out
def six(v:World):World:=(((((v.alloc (.cells #[(0:Int)] 3)).alloc (.cells #[(0:Int)] 3)).alloc (.cells #[(0:Int)] 3)).alloc (.cells #[(0:Int)] 3)).alloc (.cells #[(0:Int)] 3)).alloc (.cells #[(0:Int)] 3)
noncomputable def aaK(x to:Int)(v2 v3 v4 v5 v6 v7 v8 v9 v10 v11 v12 v13 v14 v15 v16 v17 v18 v19 v20 v21 v22 v23 v24 v25 v26 v27:Value)(cs:List Frame):Goroutine:=G ((base 160).at ⟨#[x,to,v2,v3,v4,v5,v6,v7,v8,v9,v10,v11,v12,v13,v14,v15,v16,v17,v18,v19,v20,v21,v22,v23,v24,v25,v26,v27],[]⟩ [.code lF]) cs
theorem aaM(x:Int)(h1: -1099511627776<=x)(h2:x<=1099511627776):
  IntKind.i64.wrap (x+IntKind.i64.wrap (6-Int.tmod (IntKind.i64.wrap (Int.tmod x 7+7)) 7))=aC x:=by
 unfold aC
 have key:∃r:Int,0<=r/\r<=6/\Int.tmod (IntKind.i64.wrap (Int.tmod x 7+7)) 7=r/\x+(6-r)=x+(6-x) % 7:=by
  rcases RQ x with ⟨h,e⟩|⟨h,e⟩
  ·have ew:IntKind.i64.wrap (Int.tmod x 7+7)=x % 7+7:=by rw [e,IntKind.wrap_i64];omega
   rcases RQ (x % 7+7)with ⟨h',e'⟩|⟨h',e'⟩
   ·exact⟨(x % 7+7) % 7,vO,vO,by rw [ew,e'],vO⟩
   ·omega
  ·have ew:IntKind.i64.wrap (Int.tmod x 7+7)= -((-x) % 7)+7:=by rw [e,IntKind.wrap_i64];omega
   rcases RQ (-((-x) % 7)+7)with ⟨h',e'⟩|⟨h',e'⟩
   ·exact⟨(-((-x) % 7)+7) % 7,vO,vO,by rw [ew,e'],vO⟩
   ·omega
 obtain⟨r,r0,r1,er,es⟩:=key
 rw [er]
 have e1:IntKind.i64.wrap (6-r)=6-r:=by rw [IntKind.wrap_i64];omega
 rw [e1,IntKind.wrap_i64]
 omega
section
variable {Q:Goroutine->World->Prop} {x to:Int} {cs:List Frame} (hq:∀fr v,¬ Q (G fr cs) v)
include hq
theorem aa3(v2 v3 v4 v5 v6 v7 v8 v9 v10 v11 v12 v13 v14 v15 v16 v17 v18 v19 v20 v21 v22 v23 v24 v25 v26 v27:Value)(v:World)(h1: -1099511627776<=x)(h2:x<=1099511627776)(h3:to<=1099511627776):
  LTo Po Q (fun g w=>HdO x to (.slice none 0 0) (.int .i64 (aC x)) cs g/\w=six v) (aaK x to v2 v3 v4 v5 v6 v7 v8 v9 v10 v11 v12 v13 v14 v15 v16 v17 v18 v19 v20 v21 v22 v23 v24 v25 v26 v27 cs) v:=by
 have d1:decide (x<=1099511627776)=true:=decide_eq_true h2
 have d2:decide (-1099511627776<=x)=true:=decide_eq_true h1
 have d3:decide (to<=1099511627776)=true:=decide_eq_true h3
 simp only [aaK,lF,opsE,Yl,Yt,opO,opG,iO]
 refine LTo.own (hq _ _) ?_;rw [stepG_seq];simp only [goes_go]
 refine LTo.own (hq _ _) ?_;rw [stepG_region];simp only [goes_go,List.size_toArray,List.length_cons,List.length_nil,Nat.reduceAdd,Nat.zero_add,List.range,List.range.loop]
 refine LTo.own (hq _ _) ?_;refine goes_oper_k rfl rfl vD (fun K hK=> ?_);go_simp;refine hK _ _ ?_;clear hK K
 refine LTo.own (hq _ _) ?_;rw [stepG_unwanted rfl rfl];simp only [goes_go];walk_nrm
 refine LTo.own (hq _ _) ?_;refine goes_oper_k rfl rfl vD (fun K hK=> ?_);go_simp;refine hK _ _ ?_;clear hK K
 try simp only [d1]
 refine LTo.own (hq _ _) ?_;rw [stepG_unwanted rfl rfl];simp only [goes_go];walk_nrm
 refine LTo.own (hq _ _) ?_;refine goes_oper_k rfl rfl vD (fun K hK=> ?_);go_simp;refine hK _ _ ?_;clear hK K
 try simp only [d2]
 refine LTo.own (hq _ _) ?_;rw [stepG_unwanted rfl rfl];simp only [goes_go];walk_nrm
 refine LTo.own (hq _ _) ?_;refine goes_oper_k rfl rfl vD (fun K hK=> ?_);go_simp;refine hK _ _ ?_;clear hK K
 try simp only [d3]
 refine LTo.own (hq _ _) ?_;rw [stepG_unwanted rfl rfl];simp only [goes_go];walk_nrm
 refine LTo.own (hq _ _) ?_;rw [stepG_region_end];simp only [goes_go]
 refine LTo.own (hq _ _) ?_;rw [stepG_seq];simp only [goes_go]
 refine LTo.own (hq _ _) ?_;rw [stepG_region];simp only [goes_go,List.size_toArray,List.length_cons,List.length_nil,Nat.reduceAdd,Nat.zero_add,List.range,List.range.loop]
 refine LTo.own (hq _ _) ?_;refine goes_oper_k rfl rfl vD (fun K hK=> ?_);go_simp;refine hK _ _ ?_;clear hK K
 refine LTo.own (hq _ _) ?_;refine goes_oper_k rfl rfl vD (fun K hK=> ?_);go_simp;refine hK _ _ ?_;clear hK K
 refine LTo.own (hq _ _) ?_;refine goes_oper_k rfl rfl vD (fun K hK=> ?_);go_simp;refine hK _ _ ?_;clear hK K
 refine LTo.own (hq _ _) ?_;refine goes_oper_k rfl rfl vD (fun K hK=> ?_);go_simp;refine hK _ _ ?_;clear hK K
 refine LTo.own (hq _ _) ?_;refine goes_oper_k rfl rfl vD (fun K hK=> ?_);go_simp;refine hK _ _ ?_;clear hK K
 refine LTo.own (hq _ _) ?_;refine goes_oper_k rfl rfl vD (fun K hK=> ?_);go_simp;refine hK _ _ ?_;clear hK K
 refine LTo.own (hq _ _) ?_;refine goes_oper_k rfl rfl vD (fun K hK=> ?_);go_simp;refine hK _ _ ?_;clear hK K
 refine LTo.own (hq _ _) ?_;rw [stepG_region_end];simp only [goes_go]
 refine LTo.own (hq _ _) ?_;rw [stepG_seq];simp only [goes_go]
 refine LTo.own (hq _ _) ?_;rw [stepG_region];simp only [goes_go,List.size_toArray,List.length_cons,List.length_nil,Nat.reduceAdd,Nat.zero_add,List.range,List.range.loop]
 refine LTo.own (hq _ _) ?_;refine goes_oper_k rfl rfl vD (fun K hK=> ?_);go_simp;refine hK _ _ ?_;clear hK K
 refine LTo.own (hq _ _) ?_;refine goes_oper_k rfl rfl vD (fun K hK=> ?_);go_simp;refine hK _ _ ?_;clear hK K
 refine LTo.own (hq _ _) ?_;refine goes_oper_k rfl rfl vD (fun K hK=> ?_);go_simp;refine hK _ _ ?_;clear hK K
 refine LTo.own (hq _ _) ?_;refine goes_oper_k rfl rfl vD (fun K hK=> ?_);go_simp;refine hK _ _ ?_;clear hK K
 refine LTo.own (hq _ _) ?_;refine goes_oper_k rfl rfl vD (fun K hK=> ?_);go_simp;refine hK _ _ ?_;clear hK K
 refine LTo.own (hq _ _) ?_;refine goes_oper_k rfl rfl vD (fun K hK=> ?_);go_simp;refine hK _ _ ?_;clear hK K
 refine LTo.own (hq _ _) ?_;rw [stepG_region_end];simp only [goes_go]
 refine LTo.own (hq _ _) ?_;rw [stepG_seq];simp only [goes_go]
 refine LTo.own (hq _ _) ?_;rw [stepG_block];simp only [goes_go]
 refine LTo.own (hq _ _) ?_;rw [stepG_loop];simp only [goes_go]
 rw [aaM x h1 h2]
 exact LTo.here ⟨⟨_,_,_,_,_,_,_,_,_,_,_,_,_,_,_,_,_,_,_,_,_,_,_,_,rfl⟩,rfl⟩
theorem abh{out out':Value}{day:Int}{v v₃:World}{g:Goroutine}(hg:HdO x to out (.int .i64 day) cs g)(hd:day<=to)(hto:to<=1099511627776)(hlo: -4398046511104<=day)(τ:Nat->Question->Nat)(d:Nat)
  (hr:(Builtin.append_ #[154,154] 154 #[out,.slice (some ⟨v.1.size,0,none⟩) 1 1]).run Po (tp (v.alloc (.cells #[day] 3)) τ d)= .ok out' v₃):
  LTo Po Q (fun g w=>HdO x to out' (.int .i64 (day+7)) cs g/\w=v₃) g v:=by
 have hdt:decide (day<=to)=true:=decide_eq_true hd
 have e7:IntKind.i64.wrap (day+7)=day+7:=by rw [IntKind.wrap_i64];omega
 simp only [HdO,LBo,LB,Ul,tl6,tl5,tl4,nV,Tryz.f160,Option.getD_some,opO]at hg⊢
 obtain⟨v2,v3,v4,v5,v6,v7,v10,v11,v12,v13,v14,v15,v16,v17,v18,v19,v20,v21,v22,v23,v24,v25,v26,v27,rfl⟩:=hg
 refine LTo.own (hq _ _) ?_;rw [stepG_seq];simp only [goes_go]
 refine LTo.own (hq _ _) ?_;rw [stepG_seq];simp only [goes_go]
 refine LTo.own (hq _ _) ?_;rw [stepG_region];simp only [goes_go,List.size_toArray,List.length_cons,List.length_nil,Nat.reduceAdd,Nat.zero_add,List.range,List.range.loop]
 refine LTo.own (hq _ _) ?_;refine goes_oper_k rfl rfl vD (fun K hK=> ?_);go_simp;refine hK _ _ ?_;clear hK K
 refine LTo.own (hq _ _) ?_;refine goes_oper_k rfl rfl vD (fun K hK=> ?_);go_simp;refine hK _ _ ?_;clear hK K
 refine LTo.own (hq _ _) ?_;refine goes_oper_k rfl rfl vD (fun K hK=> ?_);go_simp;refine hK _ _ ?_;clear hK K
 refine LTo.own (hq _ _) ?_;rw [stepG_region_end];simp only [goes_go]
 try simp only [hdt]
 refine LTo.own (hq _ _) ?_;rw [stepG_cond (t:=true) rfl];simp only [goes_go,if_true,if_false,Bool.false_eq_true,↓reduceIte]
 refine LTo.own (hq _ _) ?_;rw [stepG_skip];simp only [goes_go]
 refine LTo.own (hq _ _) ?_;rw [stepG_seq];simp only [goes_go]
 refine LTo.own (hq _ _) ?_;rw [stepG_block];simp only [goes_go]
 refine LTo.own (hq _ _) ?_;rw [stepG_region];simp only [goes_go,List.size_toArray,List.length_cons,List.length_nil,Nat.reduceAdd,Nat.zero_add,List.range,List.range.loop]
 refine LTo.own (hq _ _) ?_;refine goes_oper_k rfl rfl vD (fun K hK=> ?_);go_simp;refine hK _ _ ?_;clear hK K
 refine LTo.own (hq _ _) ?_;refine goes_oper_k rfl rfl vD (fun K hK=> ?_);go_simp;refine hK _ _ ?_;clear hK K
 refine LTo.own (hq _ _) ?_;refine goes_oper_k rfl rfl vD (fun K hK=> ?_);go_simp;refine hK _ _ ?_;clear hK K
 refine LTo.tape τ d (hq _ _) ?_
 refine goes_oper_k rfl rfl vD (fun K hKK=> ?_)
 refine uponK_append (.tmp 21) (.tmp 23) 154 rfl rfl rfl hr (hKK _ _ ?_)
 clear hKK K
 walk_nrm
 refine LTo.own (hq _ _) ?_;refine goes_oper_k rfl rfl vD (fun K hK=> ?_);go_simp;refine hK _ _ ?_;clear hK K
 refine LTo.own (hq _ _) ?_;rw [stepG_region_end];simp only [goes_go]
 refine LTo.own (hq _ _) ?_;rw [stepG_inBlock];simp only [goes_go]
 refine LTo.own (hq _ _) ?_;rw [stepG_region];simp only [goes_go,List.size_toArray,List.length_cons,List.length_nil,Nat.reduceAdd,Nat.zero_add,List.range,List.range.loop]
 refine LTo.own (hq _ _) ?_;refine goes_oper_k rfl rfl vD (fun K hK=> ?_);go_simp;refine hK _ _ ?_;clear hK K
 refine LTo.own (hq _ _) ?_;refine goes_oper_k rfl rfl vD (fun K hK=> ?_);go_simp;refine hK _ _ ?_;clear hK K
 refine LTo.own (hq _ _) ?_;refine goes_oper_k rfl rfl vD (fun K hK=> ?_);go_simp;refine hK _ _ ?_;clear hK K
 refine LTo.own (hq _ _) ?_;rw [stepG_region_end];simp only [goes_go]
 refine LTo.own (hq _ _) ?_;rw [stepG_inLoop];simp only [goes_go]
 try simp only [e7]
 exact LTo.here ⟨⟨_,_,_,_,_,_,_,_,_,_,_,_,_,_,_,_,_,_,_,_,_,_,_,_,rfl⟩,rfl⟩
theorem exitO{out:Value}{day:Int}{v:World}{g:Goroutine}(hg:HdO x to out (.int .i64 day) cs g)(hd:to<day):
  LTo Po Q (fun g w=>ReO out cs g/\w=v) g v:=by
 have hdt:decide (day<=to)=false:=decide_eq_false vO
 simp only [HdO,LBo,LB,Ul,tl6,tl5,tl4,nV,Tryz.f160,Option.getD_some,opO,FU,PZ,mX]at hg⊢
 obtain⟨v2,v3,v4,v5,v6,v7,v10,v11,v12,v13,v14,v15,v16,v17,v18,v19,v20,v21,v22,v23,v24,v25,v26,v27,rfl⟩:=hg
 refine LTo.own (hq _ _) ?_;rw [stepG_seq];simp only [goes_go]
 refine LTo.own (hq _ _) ?_;rw [stepG_seq];simp only [goes_go]
 refine LTo.own (hq _ _) ?_;rw [stepG_region];simp only [goes_go,List.size_toArray,List.length_cons,List.length_nil,Nat.reduceAdd,Nat.zero_add,List.range,List.range.loop]
 refine LTo.own (hq _ _) ?_;refine goes_oper_k rfl rfl vD (fun K hK=> ?_);go_simp;refine hK _ _ ?_;clear hK K
 refine LTo.own (hq _ _) ?_;refine goes_oper_k rfl rfl vD (fun K hK=> ?_);go_simp;refine hK _ _ ?_;clear hK K
 refine LTo.own (hq _ _) ?_;refine goes_oper_k rfl rfl vD (fun K hK=> ?_);go_simp;refine hK _ _ ?_;clear hK K
 refine LTo.own (hq _ _) ?_;rw [stepG_region_end];simp only [goes_go]
 try simp only [hdt]
 refine LTo.own (hq _ _) ?_;rw [stepG_cond (t:=false) rfl];simp only [goes_go,if_true,if_false,Bool.false_eq_true,↓reduceIte]
 refine LTo.own (hq _ _) ?_;refine goes_exit rfl ?_
 refine LTo.own (hq _ _) ?_;rw [stepG_seq];simp only [goes_go]
 refine LTo.own (hq _ _) ?_;rw [stepG_region];simp only [goes_go,List.size_toArray,List.length_cons,List.length_nil,Nat.reduceAdd,Nat.zero_add,List.range,List.range.loop]
 refine LTo.own (hq _ _) ?_;refine goes_oper_k rfl rfl vD (fun K hK=> ?_);go_simp;refine hK _ _ ?_;clear hK K
 refine LTo.own (hq _ _) ?_;refine goes_oper_k rfl rfl vD (fun K hK=> ?_);go_simp;refine hK _ _ ?_;clear hK K
 refine LTo.own (hq _ _) ?_;rw [stepG_region_end];simp only [goes_go]
 refine LTo.own (hq _ _) ?_;rw [stepG_ret'];simp only [goes_go]
 exact LTo.here ⟨⟨_,_,rfl,rfl⟩,rfl⟩
theorem zO{P:Program}{b:Frame}{T:Array Value}{ops:Array Oper}{i:Nat}{rest:List Nat}{k:List Item}{v:World}{o:Oper}{hh:Halt}(h:jQ P Q (G (b.at ⟨T,[]⟩ (.inRegion ops (i :: rest) :: k)) cs) v)(hm:b.mode= .run)(hr:b.roundOf=none)(hk:b.kind= .normal)
  (ho:ops[i]? =some o) (hw:Region.wanted o (yielded ops T)=true) (he:(execOp (Act.eval ⟨T,[]⟩) o).run P v= .halt hh v) (hok:iP hh) (hn:∀x,hh≠ .panic x) (hnd:∀c,o.op≠ .defer c:=by intro c e;cases e):False:=by
 obtain⟨g1,v1,es,e⟩:=h.goes (hq _ _) v.tape v.drawn
 rw [BQ]at e
 have ee:(b.at ⟨T,[]⟩ (.inRegion ops (i :: rest) :: k)).eval=(⟨T,[]⟩:Act).eval:=funext fun c=>Frame.eval_at ..
 obtain⟨oc,w3,es3,e3⟩:=sj (Pg:=P) (main:=true) (cs:=cs) (fr:=b.at ⟨T,[]⟩ (.inRegion ops (i :: rest) :: k)) rfl hnd hk rfl ho hw (by rw [ee];exact he) hok hn
 rw [e3]at e
 cases e
omit hq in
theorem sZ{P:Program}{ρ:Operand->Value}(hc:∀x,ρ (.const x)=x){g:Nat×Bool}{v:World}:∃s,(execOp ρ (opG iO g)).run P v= .halt (.stuck s) v:=by
 have e:execOp ρ (opG iO g)=execOp (fun y=>match y with| .const x=>x|_=>undef) (opG iO g):=by
  simp only [execOp,opG,iO,hc]
 rw [e]
 exact⟨_,rfl⟩
omit hq in
theorem leqL{P:Program}(t0:Value)(c:Int)(v:World):(∃n,t0= .int .i64 n)∨∃hh,(binOp .leq 3 t0 (.int .i64 c)).run P v= .halt hh v/\iP hh/\∀x,hh≠ .panic x:=by
 cases t0 with
 |int k n=>
  by_cases hk:k= .i64
  ·subst hk;exact .inl ⟨n,rfl⟩
  ·exact .inr ⟨_,by simp only [binOp,ne_eq,hk,not_false_eq_true,if_true,ite_true];rfl,.stuck _,vS⟩
 |pointer p=>exact .inr ⟨_,by simp only [binOp];rfl,.addr,vS⟩
 |_=>exact .inr ⟨_,by simp only [binOp];rfl,.stuck _,vS⟩
omit hq in
theorem PN{P:Program}{ρ:Operand->Value}{o:Oper}{t:Tmp}{c:Int}(hc:∀x,ρ (.const x)=x)(ho:o.op= .binOp .leq 3 (.tmp t) (.const (.int .i64 c)) 3)(v:World):
  (∃n,ρ (.tmp t)= .int .i64 n)∨∃hh,(execOp ρ o).run P v= .halt hh v/\iP hh/\∀x,hh≠ .panic x:=by
 rcases leqL (P:=P) (ρ (.tmp t)) c v with h|⟨hh,h1,h2,h3⟩
 ·exact .inl h
 ·refine .inr ⟨hh, ?_,h2,h3⟩
  simp [execOp,ho,eqGuard,hc,h1]
omit hq in
theorem arr28{T:Array Value}(h:T.size=28):∃v0 v1 v2 v3 v4 v5 v6 v7 v8 v9 v10 v11 v12 v13 v14 v15 v16 v17 v18 v19 v20 v21 v22 v23 v24 v25 v26 v27:Value,T= #[v0,v1,v2,v3,v4,v5,v6,v7,v8,v9,v10,v11,v12,v13,v14,v15,v16,v17,v18,v19,v20,v21,v22,v23,v24,v25,v26,v27]:=by
 obtain⟨l0⟩:=T
 simp only [List.size_toArray]at h
 have h0:=h
 obtain⟨v0,l1,rfl,h1⟩:∃a m,l0=a :: m/\m.length=27:=by
  cases l0 with
  |nil=>simp at h0
  |cons a l=>exact⟨a,l,rfl,by simpa using h0⟩
 obtain⟨v1,l2,rfl,h2⟩:∃a m,l1=a :: m/\m.length=26:=by
  cases l1 with
  |nil=>simp at h1
  |cons a l=>exact⟨a,l,rfl,by simpa using h1⟩
 obtain⟨v2,l3,rfl,h3⟩:∃a m,l2=a :: m/\m.length=25:=by
  cases l2 with
  |nil=>simp at h2
  |cons a l=>exact⟨a,l,rfl,by simpa using h2⟩
 obtain⟨v3,l4,rfl,h4⟩:∃a m,l3=a :: m/\m.length=24:=by
  cases l3 with
  |nil=>simp at h3
  |cons a l=>exact⟨a,l,rfl,by simpa using h3⟩
 obtain⟨v4,l5,rfl,h5⟩:∃a m,l4=a :: m/\m.length=23:=by
  cases l4 with
  |nil=>simp at h4
  |cons a l=>exact⟨a,l,rfl,by simpa using h4⟩
 obtain⟨v5,l6,rfl,h6⟩:∃a m,l5=a :: m/\m.length=22:=by
  cases l5 with
  |nil=>simp at h5
  |cons a l=>exact⟨a,l,rfl,by simpa using h5⟩
 obtain⟨v6,l7,rfl,h7⟩:∃a m,l6=a :: m/\m.length=21:=by
  cases l6 with
  |nil=>simp at h6
  |cons a l=>exact⟨a,l,rfl,by simpa using h6⟩
 obtain⟨v7,l8,rfl,h8⟩:∃a m,l7=a :: m/\m.length=20:=by
  cases l7 with
  |nil=>simp at h7
  |cons a l=>exact⟨a,l,rfl,by simpa using h7⟩
 obtain⟨v8,l9,rfl,h9⟩:∃a m,l8=a :: m/\m.length=19:=by
  cases l8 with
  |nil=>simp at h8
  |cons a l=>exact⟨a,l,rfl,by simpa using h8⟩
 obtain⟨v9,l10,rfl,h10⟩:∃a m,l9=a :: m/\m.length=18:=by
  cases l9 with
  |nil=>simp at h9
  |cons a l=>exact⟨a,l,rfl,by simpa using h9⟩
 obtain⟨v10,l11,rfl,h11⟩:∃a m,l10=a :: m/\m.length=17:=by
  cases l10 with
  |nil=>simp at h10
  |cons a l=>exact⟨a,l,rfl,by simpa using h10⟩
 obtain⟨v11,l12,rfl,h12⟩:∃a m,l11=a :: m/\m.length=16:=by
  cases l11 with
  |nil=>simp at h11
  |cons a l=>exact⟨a,l,rfl,by simpa using h11⟩
 obtain⟨v12,l13,rfl,h13⟩:∃a m,l12=a :: m/\m.length=15:=by
  cases l12 with
  |nil=>simp at h12
  |cons a l=>exact⟨a,l,rfl,by simpa using h12⟩
 obtain⟨v13,l14,rfl,h14⟩:∃a m,l13=a :: m/\m.length=14:=by
  cases l13 with
  |nil=>simp at h13
  |cons a l=>exact⟨a,l,rfl,by simpa using h13⟩
 obtain⟨v14,l15,rfl,h15⟩:∃a m,l14=a :: m/\m.length=13:=by
  cases l14 with
  |nil=>simp at h14
  |cons a l=>exact⟨a,l,rfl,by simpa using h14⟩
 obtain⟨v15,l16,rfl,h16⟩:∃a m,l15=a :: m/\m.length=12:=by
  cases l15 with
  |nil=>simp at h15
  |cons a l=>exact⟨a,l,rfl,by simpa using h15⟩
 obtain⟨v16,l17,rfl,h17⟩:∃a m,l16=a :: m/\m.length=11:=by
  cases l16 with
  |nil=>simp at h16
  |cons a l=>exact⟨a,l,rfl,by simpa using h16⟩
 obtain⟨v17,l18,rfl,h18⟩:∃a m,l17=a :: m/\m.length=10:=by
  cases l17 with
  |nil=>simp at h17
  |cons a l=>exact⟨a,l,rfl,by simpa using h17⟩
 obtain⟨v18,l19,rfl,h19⟩:∃a m,l18=a :: m/\m.length=9:=by
  cases l18 with
  |nil=>simp at h18
  |cons a l=>exact⟨a,l,rfl,by simpa using h18⟩
 obtain⟨v19,l20,rfl,h20⟩:∃a m,l19=a :: m/\m.length=8:=by
  cases l19 with
  |nil=>simp at h19
  |cons a l=>exact⟨a,l,rfl,by simpa using h19⟩
 obtain⟨v20,l21,rfl,h21⟩:∃a m,l20=a :: m/\m.length=7:=by
  cases l20 with
  |nil=>simp at h20
  |cons a l=>exact⟨a,l,rfl,by simpa using h20⟩
 obtain⟨v21,l22,rfl,h22⟩:∃a m,l21=a :: m/\m.length=6:=by
  cases l21 with
  |nil=>simp at h21
  |cons a l=>exact⟨a,l,rfl,by simpa using h21⟩
 obtain⟨v22,l23,rfl,h23⟩:∃a m,l22=a :: m/\m.length=5:=by
  cases l22 with
  |nil=>simp at h22
  |cons a l=>exact⟨a,l,rfl,by simpa using h22⟩
 obtain⟨v23,l24,rfl,h24⟩:∃a m,l23=a :: m/\m.length=4:=by
  cases l23 with
  |nil=>simp at h23
  |cons a l=>exact⟨a,l,rfl,by simpa using h23⟩
 obtain⟨v24,l25,rfl,h25⟩:∃a m,l24=a :: m/\m.length=3:=by
  cases l24 with
  |nil=>simp at h24
  |cons a l=>exact⟨a,l,rfl,by simpa using h24⟩
 obtain⟨v25,l26,rfl,h26⟩:∃a m,l25=a :: m/\m.length=2:=by
  cases l25 with
  |nil=>simp at h25
  |cons a l=>exact⟨a,l,rfl,by simpa using h25⟩
 obtain⟨v26,l27,rfl,h27⟩:∃a m,l26=a :: m/\m.length=1:=by
  cases l26 with
  |nil=>simp at h26
  |cons a l=>exact⟨a,l,rfl,by simpa using h26⟩
 obtain⟨v27,l28,rfl,h28⟩:∃a m,l27=a :: m/\m.length=0:=by
  cases l27 with
  |nil=>simp at h27
  |cons a l=>exact⟨a,l,rfl,by simpa using h27⟩
 obtain rfl:=List.length_eq_zero_iff.1 h28
 exact⟨_,_,_,_,_,_,_,_,_,_,_,_,_,_,_,_,_,_,_,_,_,_,_,_,_,_,_,_,rfl⟩
theorem abg{T:Array Value}{v:World}(hT:28<=T.size)(h:jQ Po Q (G ((base 160).at ⟨T,[]⟩ [.code lF]) cs) v):
  ∃ (x to:Int) (v2 v3 v4 v5 v6 v7 v8 v9 v10 v11 v12 v13 v14 v15 v16 v17 v18 v19 v20 v21 v22 v23 v24 v25 v26 v27:Value),T= #[.int .i64 x,.int .i64 to,v2,v3,v4,v5,v6,v7,v8,v9,v10,v11,v12,v13,v14,v15,v16,v17,v18,v19,v20,v21,v22,v23,v24,v25,v26,v27]/\ -1099511627776<=x/\x<=1099511627776/\to<=1099511627776:=by
 have upTo:∀{T:Array Value} {T':Array Value} {is:List Nat},jQ Po Q (G ((base 160).at ⟨T,[]⟩ [.code lF]) cs) v->LTo Po Q (fun g w=>g=G ((base 160).at ⟨T',[]⟩ [.inRegion opsE is,.code (.seq (.region 200 Yl false) (.seq (.region 201 Yt false) (.seq (.block 0 (.loop LBo)) FU)))]) cs/\w=v) (G ((base 160).at ⟨T,[]⟩ [.code lF]) cs) v->
   jQ Po Q (G ((base 160).at ⟨T',[]⟩ [.inRegion opsE is,.code (.seq (.region 200 Yl false) (.seq (.region 201 Yt false) (.seq (.block 0 (.loop LBo)) FU)))]) cs) v:=by
  intro T T' is h hl
  rcases hl with ⟨e,_⟩|⟨g',v',hl,e,ev⟩
  ·rw [e]at h;exact h
  ·subst e ev;exact h.leads hl
 have h28:T.size=28:=by
  apply Nat.le_antisymm _ hT
  apply Nat.le_of_not_lt
  intro hlt
  have h1:=upTo (T':=T.setIfInBounds 28 (.bool true)) (is:= [1,2,3,4,5,6,7]) h (by
   simp only [lF]
   refine LTo.own (hq _ _) ?_;rw [stepG_seq];simp only [goes_go]
   refine LTo.own (hq _ _) ?_;rw [stepG_region];simp only [goes_go]
   refine LTo.own (hq _ _) ?_
   refine goes_oper_k (o:=opO 28 (.assign (.const (.bool true)))) (i:=0) (rest:= [1,2,3,4,5,6,7]) rfl rfl vD (fun K hK=> ?_)
   exact hK _ _ (LTo.here ⟨rfl,rfl⟩))
  obtain⟨st,hst⟩:=sZ (P:=Po) (ρ:=Act.eval ⟨T.setIfInBounds 28 (.bool true),[]⟩) (fun _=>rfl) (g:=(0,true)) (v:=v)
  refine zO hq h1 rfl rfl rfl (o:=opG iO (0,true)) rfl ?_ hst (.stuck _) vS
  have:(T.setIfInBounds 28 (.bool true))[28]? =some (.bool true):=by rw [Array.getElem?_setIfInBounds_self_of_lt vO]
  simp [Region.wanted,opG,yielded,opsE,opO,this]
 obtain⟨v0,v1,v2,v3,v4,v5,v6,v7,v8,v9,v10,v11,v12,v13,v14,v15,v16,v17,v18,v19,v20,v21,v22,v23,v24,v25,v26,v27,rfl⟩:=arr28 h28
 have h2:=upTo (T':= #[v0,v1,v2,v3,v4,v5,v6,v7,v8,v9,v10,v11,v12,v13,v14,undef,v16,v17,v18,v19,v20,v21,v22,v23,v24,v25,v26,v27]) (is:= [2,3,4,5,6,7]) h (by
  simp only [lF,opsE,opO,opG,iO]
  refine LTo.own (hq _ _) ?_;rw [stepG_seq];simp only [goes_go]
  refine LTo.own (hq _ _) ?_;rw [stepG_region];simp only [goes_go,List.size_toArray,List.length_cons,List.length_nil,Nat.reduceAdd,Nat.zero_add,List.range,List.range.loop]
  refine LTo.own (hq _ _) ?_;refine goes_oper_k rfl rfl vD (fun K hK=> ?_);go_simp;refine hK _ _ ?_;clear hK K
  refine LTo.own (hq _ _) ?_;rw [stepG_unwanted rfl rfl];simp only [goes_go];walk_nrm
  exact LTo.here ⟨rfl,rfl⟩)
 rcases PN (P:=Po) (ρ:=Act.eval ⟨#[v0,v1,v2,v3,v4,v5,v6,v7,v8,v9,v10,v11,v12,v13,v14,undef,v16,v17,v18,v19,v20,v21,v22,v23,v24,v25,v26,v27],[]⟩) (o:=opO 14 (.binOp .leq 3 (.tmp 0) (.const (.int .i64 1099511627776)) 3)) (fun _=>rfl) rfl v with ⟨x,hx⟩|⟨hh,e1,e2,e3⟩
 rotate_left
 ·exact(zO hq h2 rfl rfl rfl rfl rfl e1 e2 e3).elim
 obtain rfl:v0= .int .i64 x:=hx
 clear h2
 have h3:=upTo (T':= #[x,v1,v2,v3,v4,v5,v6,v7,v8,v9,v10,v11,v12,v13,decide (x<=1099511627776),undef,v16,v17,v18,v19,v20,v21,v22,v23,v24,v25,v26,v27]) (is:= [3,4,5,6,7]) h (by
  simp only [lF,opsE,opO,opG,iO]
  refine LTo.own (hq _ _) ?_;rw [stepG_seq];simp only [goes_go]
  refine LTo.own (hq _ _) ?_;rw [stepG_region];simp only [goes_go,List.size_toArray,List.length_cons,List.length_nil,Nat.reduceAdd,Nat.zero_add,List.range,List.range.loop]
  refine LTo.own (hq _ _) ?_;refine goes_oper_k rfl rfl vD (fun K hK=> ?_);go_simp;refine hK _ _ ?_;clear hK K
  refine LTo.own (hq _ _) ?_;rw [stepG_unwanted rfl rfl];simp only [goes_go];walk_nrm
  refine LTo.own (hq _ _) ?_;refine goes_oper_k rfl rfl vD (fun K hK=> ?_);go_simp;refine hK _ _ ?_;clear hK K
  exact LTo.here ⟨rfl,rfl⟩)
 have b1:x<=1099511627776:=by
  apply Decidable.byContradiction
  intro hn
  simp only [decide_eq_false hn]at h3
  obtain⟨st,hst⟩:=sZ (P:=Po) (ρ:=Act.eval ⟨#[x,v1,v2,v3,v4,v5,v6,v7,v8,v9,v10,v11,v12,v13,false,undef,v16,v17,v18,v19,v20,v21,v22,v23,v24,v25,v26,v27],[]⟩) (fun _=>rfl) (g:=(2,false)) (v:=v)
  exact zO hq h3 rfl rfl rfl (o:=opG iO (2,false)) rfl rfl hst (.stuck _) vS
 clear h3
 have d1:decide (x<=1099511627776)=true:=decide_eq_true b1
 have h5:=upTo (T':= #[x,v1,v2,v3,v4,v5,v6,v7,v8,v9,v10,v11,v12,v13,true,undef,decide (-1099511627776<=x),v17,v18,v19,v20,v21,v22,v23,v24,v25,v26,v27]) (is:= [5,6,7]) h (by
  simp only [lF,opsE,opO,opG,iO]
  refine LTo.own (hq _ _) ?_;rw [stepG_seq];simp only [goes_go]
  refine LTo.own (hq _ _) ?_;rw [stepG_region];simp only [goes_go,List.size_toArray,List.length_cons,List.length_nil,Nat.reduceAdd,Nat.zero_add,List.range,List.range.loop]
  refine LTo.own (hq _ _) ?_;refine goes_oper_k rfl rfl vD (fun K hK=> ?_);go_simp;refine hK _ _ ?_;clear hK K
  refine LTo.own (hq _ _) ?_;rw [stepG_unwanted rfl rfl];simp only [goes_go];walk_nrm
  refine LTo.own (hq _ _) ?_;refine goes_oper_k rfl rfl vD (fun K hK=> ?_);go_simp;refine hK _ _ ?_;clear hK K
  try simp only [d1]
  refine LTo.own (hq _ _) ?_;rw [stepG_unwanted rfl rfl];simp only [goes_go];walk_nrm
  refine LTo.own (hq _ _) ?_;refine goes_oper_k rfl rfl vD (fun K hK=> ?_);go_simp;refine hK _ _ ?_;clear hK K
  exact LTo.here ⟨rfl,rfl⟩)
 have b2: -1099511627776<=x:=by
  apply Decidable.byContradiction
  intro hn
  simp only [decide_eq_false hn]at h5
  obtain⟨st,hst⟩:=sZ (P:=Po) (ρ:=Act.eval ⟨#[x,v1,v2,v3,v4,v5,v6,v7,v8,v9,v10,v11,v12,v13,true,undef,false,v17,v18,v19,v20,v21,v22,v23,v24,v25,v26,v27],[]⟩) (fun _=>rfl) (g:=(4,false)) (v:=v)
  exact zO hq h5 rfl rfl rfl (o:=opG iO (4,false)) rfl rfl hst (.stuck _) vS
 clear h5
 have d2:decide (-1099511627776<=x)=true:=decide_eq_true b2
 have h6:=upTo (T':= #[x,v1,v2,v3,v4,v5,v6,v7,v8,v9,v10,v11,v12,v13,true,undef,true,v17,v18,v19,v20,v21,v22,v23,v24,v25,v26,v27]) (is:= [6,7]) h (by
  simp only [lF,opsE,opO,opG,iO]
  refine LTo.own (hq _ _) ?_;rw [stepG_seq];simp only [goes_go]
  refine LTo.own (hq _ _) ?_;rw [stepG_region];simp only [goes_go,List.size_toArray,List.length_cons,List.length_nil,Nat.reduceAdd,Nat.zero_add,List.range,List.range.loop]
  refine LTo.own (hq _ _) ?_;refine goes_oper_k rfl rfl vD (fun K hK=> ?_);go_simp;refine hK _ _ ?_;clear hK K
  refine LTo.own (hq _ _) ?_;rw [stepG_unwanted rfl rfl];simp only [goes_go];walk_nrm
  refine LTo.own (hq _ _) ?_;refine goes_oper_k rfl rfl vD (fun K hK=> ?_);go_simp;refine hK _ _ ?_;clear hK K
  try simp only [d1]
  refine LTo.own (hq _ _) ?_;rw [stepG_unwanted rfl rfl];simp only [goes_go];walk_nrm
  refine LTo.own (hq _ _) ?_;refine goes_oper_k rfl rfl vD (fun K hK=> ?_);go_simp;refine hK _ _ ?_;clear hK K
  try simp only [d2]
  refine LTo.own (hq _ _) ?_;rw [stepG_unwanted rfl rfl];simp only [goes_go];walk_nrm
  exact LTo.here ⟨rfl,rfl⟩)
 rcases PN (P:=Po) (ρ:=Act.eval ⟨#[x,v1,v2,v3,v4,v5,v6,v7,v8,v9,v10,v11,v12,v13,true,undef,true,v17,v18,v19,v20,v21,v22,v23,v24,v25,v26,v27],[]⟩) (o:=opO 17 (.binOp .leq 3 (.tmp 1) (.const (.int .i64 1099511627776)) 3)) (fun _=>rfl) rfl v with ⟨to,hx⟩|⟨hh,e1,e2,e3⟩
 rotate_left
 ·exact(zO hq h6 rfl rfl rfl rfl rfl e1 e2 e3).elim
 obtain rfl:v1= .int .i64 to:=hx
 clear h6
 have h7:=upTo (T':= #[x,to,v2,v3,v4,v5,v6,v7,v8,v9,v10,v11,v12,v13,true,undef,true,decide (to<=1099511627776),v18,v19,v20,v21,v22,v23,v24,v25,v26,v27]) (is:= [7]) h (by
  simp only [lF,opsE,opO,opG,iO]
  refine LTo.own (hq _ _) ?_;rw [stepG_seq];simp only [goes_go]
  refine LTo.own (hq _ _) ?_;rw [stepG_region];simp only [goes_go,List.size_toArray,List.length_cons,List.length_nil,Nat.reduceAdd,Nat.zero_add,List.range,List.range.loop]
  refine LTo.own (hq _ _) ?_;refine goes_oper_k rfl rfl vD (fun K hK=> ?_);go_simp;refine hK _ _ ?_;clear hK K
  refine LTo.own (hq _ _) ?_;rw [stepG_unwanted rfl rfl];simp only [goes_go];walk_nrm
  refine LTo.own (hq _ _) ?_;refine goes_oper_k rfl rfl vD (fun K hK=> ?_);go_simp;refine hK _ _ ?_;clear hK K
  try simp only [d1]
  refine LTo.own (hq _ _) ?_;rw [stepG_unwanted rfl rfl];simp only [goes_go];walk_nrm
  refine LTo.own (hq _ _) ?_;refine goes_oper_k rfl rfl vD (fun K hK=> ?_);go_simp;refine hK _ _ ?_;clear hK K
  try simp only [d2]
  refine LTo.own (hq _ _) ?_;rw [stepG_unwanted rfl rfl];simp only [goes_go];walk_nrm
  refine LTo.own (hq _ _) ?_;refine goes_oper_k rfl rfl vD (fun K hK=> ?_);go_simp;refine hK _ _ ?_;clear hK K
  exact LTo.here ⟨rfl,rfl⟩)
 have b3:to<=1099511627776:=by
  apply Decidable.byContradiction
  intro hn
  simp only [decide_eq_false hn]at h7
  obtain⟨st,hst⟩:=sZ (P:=Po) (ρ:=Act.eval ⟨#[x,to,v2,v3,v4,v5,v6,v7,v8,v9,v10,v11,v12,v13,true,undef,true,false,v18,v19,v20,v21,v22,v23,v24,v25,v26,v27],[]⟩) (fun _=>rfl) (g:=(6,false)) (v:=v)
  exact zO hq h7 rfl rfl rfl (o:=opG iO (6,false)) rfl rfl hst (.stuck _) vS
 exact⟨x,to,_,_,_,_,_,_,_,_,_,_,_,_,_,_,_,_,_,_,_,_,_,_,_,_,_,_,rfl,b2,b1,b3⟩
end
end Go.Proofs.YtljbnicolhhicaaGreatDoor.Sat
end
section
namespace Go.Proofs.YtljbnicolhhicaaGreatDoor.Sat
open Go.Conc Go.RowKit Go.Sq
variable [Wn]
def LbO(lst:List Nat)(f:Nat):Bool:=lst.contains f
def GbO(glst:List Nat)(g:Nat):Bool:=glst.contains g
noncomputable def fnOk(lst glst:List Nat)(F:Array Func)(f:Nat):Bool:=match F[f]? with
 |some fn=>(match fn.body with
  |some b=>fG (aF Tryz.prog (LbO lst) (GbO glst)) b
  |none=>false)&& !(fn.name== "runtime.NumGoroutine")
 |none=>false
structure OkL(lst glst:List Nat):Prop where
 sat:fG (aF Tryz.prog (LbO lst) (GbO glst)) lF=true
 all:(lst.all fun f=>f==160||fnOk lst glst Tryz.prog.funcs f)=true
 inits:(lst.all fun f=>Tryz.prog.inits.idxOf? f==none)=true
 zero:LbO lst 0=false
structure OkW(lst glst:List Nat):Prop where
 nw:∀f,LbO lst f=true->Wn.nw f=true∨(f≠160/\∀fn body,Tryz.prog.funcs[f]? =some fn->fn.body=some body->fG (wop f) body=true/\∀r∈fn.results,Wn.kd f (acU r)=0)
 sp:∀ (Z:Nat->Prop) s fr o,FOk Z (LbO lst) (aF Tryz.prog (LbO lst) (GbO glst)) s fr->Wn.sp fr.fn o=true->(∃x∈o.op.operands,¬ Av Z (lk (LbO lst) (aF Tryz.prog (LbO lst) (GbO glst))) (fr.eval x))->acT Tryz.prog FO Z (LbO lst) (aF Tryz.prog (LbO lst) (GbO glst)) fr o
 spOp:∀f o,Wn.sp f o=true->Gg Tryz.prog (LbO lst) o.op=true/\VI Tryz.prog o=true
 sc:∀ (Z:Nat->Prop) s fr o,FOk Z (LbO lst) (aF Tryz.prog (LbO lst) (GbO glst)) s fr->Wn.sc fr.fn o=true->adr Z (LbO lst) (aF Tryz.prog (LbO lst) (GbO glst)) fr o/\∀c K,o.op= .call c->c.callee= .value (.func K)->K≠160
theorem adq{f:Nat}{fn:Func}{body:Code}{P:Program}{Lb Gb:Nat->Bool}(h:Wn.nw f=true)(hk:fG (aF P Lb Gb) body=true):fG (wop f) body=true/\∀r∈fn.results,Wn.kd f (acU r)=0:=
 ⟨acN (fun o _=>adE h o) _ hk,fun r _=>Wn.nw0 f h _⟩
theorem aai:((List.range Tryz.prog.funcs.size).all fun K=>match Tryz.prog.funcs[K]? with
 |some fn=> !extFn fn|| [193,170,177,165,166,152].contains K
 |none=>true)=true:=vK
theorem extO:UN Tryz.prog FO:=by
 refine⟨fun K fn hK he=> ?_⟩
 have hlt:K<Tryz.prog.funcs.size:=(Array.getElem?_eq_some_iff.1 hK).1
 have h:=List.all_eq_true.1 aai K (List.mem_range.2 hlt)
 rw [hK]at h
 simp only [he,Bool.not_true,Bool.false_or,List.contains_eq_mem,List.mem_cons,List.not_mem_nil,or_false,decide_eq_true_eq]at h
 rcases h with rfl|rfl|rfl|rfl|rfl|rfl
 ·obtain rfl:Tryz.f193=fn:=Option.some.inj (Tryz.func193.symm.trans hK)
  exact⟨(CZ vD).trans hK,by rfl,Pk,by rfl,fun Z L args h _=>WB _⟩
 ·obtain rfl:Tryz.f170=fn:=Option.some.inj (Tryz.func170.symm.trans hK)
  exact⟨(CZ vD).trans hK,by rfl,Extern.BytealgCount.count,by rfl,fun Z L args h _=>OJ h⟩
 ·obtain rfl:Tryz.f177=fn:=Option.some.inj (Tryz.func177.symm.trans hK)
  exact⟨(CZ vD).trans hK,by rfl,Extern.BytealgIndexByte.indexByte,by rfl,fun Z L args h _=>El h⟩
 ·obtain rfl:Tryz.f165=fn:=Option.some.inj (Tryz.func165.symm.trans hK)
  exact⟨(CZ vD).trans hK,by rfl,Extern.AbiNoEscape.same,by rfl,fun Z L args h _=>Ru h⟩
 ·obtain rfl:Tryz.f166=fn:=Option.some.inj (Tryz.func166.symm.trans hK)
  exact⟨(CZ vD).trans hK,by rfl,Extern.BytealgMakeNoZero.makeNoZero _ _,by rfl,fun Z L args h _=>Jd _ _ _⟩
 ·obtain rfl:Tryz.f152=fn:=Option.some.inj (Tryz.func152.symm.trans hK)
  exact⟨(CZ vD).trans hK,by rfl,Extern.BytealgIndex.index,by rfl,fun Z L args h hm=>Gq h (hm (by rfl))⟩
theorem fnO{lst glst:List Nat}(ok:OkL lst glst){f:Nat}(h:LbO lst f=true)(hs:f≠160):∃fn body,Tryz.prog.funcs[f]? =some fn/\fn.body=some body/\fG (aF Tryz.prog (LbO lst) (GbO glst)) body=true/\(fn.name== "runtime.NumGoroutine")=false:=by
 have hm:f∈lst:=by unfold LbO at h;simpa using h
 have hk:=List.all_eq_true.1 ok.all f hm
 have hs':(f==160)=false:=by simpa using hs
 rw [hs',Bool.false_or]at hk
 unfold fnOk at hk
 split at hk
 ·next fn e=>
  simp only [Bool.and_eq_true]at hk
  obtain⟨h1,h2⟩:=hk
  split at h1
  ·next b eb=>exact⟨fn,b,e,eb,h1,by simpa using h2⟩
  ·cases h1
 ·cases hk
theorem sysO{lst glst:List Nat}(ok:OkL lst glst)(okw:OkW lst glst)(Z:Nat->Prop)(hG:∀g,GbO glst g=true->¬ Z g)(hZ:¬ Z Tryz.prog.globals.size):Go.Sq.Sys Tryz.prog FO Z (LbO lst) (GbO glst) 160:=by
 refine⟨hG,hZ,extO,fun f h hs=> ?_,fun f fn body h hs h1 h2=> ?_,okw.sp,okw.spOp,okw.sc,⟨_,_,Tryz.func160,rfl,by rfl⟩,⟨_,_,JH,rfl,by rfl⟩⟩
 ·obtain⟨fn,body,h1,h2,h3,h4⟩:=fnO ok h hs
  exact⟨fn,body,h1,(CZ hs).trans h1,h2,h3,h4⟩
 ·rcases okw.nw f h with hn|⟨_,hn⟩
  ·obtain⟨fn',body',k1,k2,k3,_⟩:=fnO ok h hs
   obtain rfl:fn'=fn:=Option.some.inj (k1.symm.trans h1)
   obtain rfl:body'=body:=Option.some.inj (k2.symm.trans h2)
   exact adq hn k3
  ·exact hn fn body h1 h2
theorem sysFO{lst glst:List Nat}(ok:OkL lst glst)(okw:OkW lst glst)(Z:Nat->Prop)(hG:∀g,GbO glst g=true->¬ Z g)(hZ:¬ Z Tryz.prog.globals.size):Go.Sq.zo Tryz.prog FO Z (LbO lst) (GbO glst):=by
 refine⟨hG,hZ,extO,fun f h=> ?_,fun f fn body h h1 h2=> ?_,okw.sp,okw.spOp,fun Z s fr o h1 h2=>(okw.sc Z s fr o h1 h2).1⟩
 ·by_cases hs:f=160
  ·subst hs
   exact⟨_,_,JH,rfl,ok.sat,by rfl⟩
  ·obtain⟨fn,body,h1,h2,h3,h4⟩:=fnO ok h hs
   exact⟨fn,body,(CZ hs).trans h1,h2,h3,h4⟩
 ·by_cases hs:f=160
  ·subst hs
   rcases okw.nw _ h with hn|⟨hn,_⟩
   ·obtain rfl:Ow=fn:=Option.some.inj (JH.symm.trans h1)
    obtain rfl:lF=body:=Option.some.inj ((by rfl:Ow.body=some lF).symm.trans h2)
    exact adq hn ok.sat
   ·exact absurd rfl hn
  ·have h1':=(CZ hs).symm.trans h1
   rcases okw.nw f h with hn|⟨_,hn⟩
   ·obtain⟨fn',body',k1,k2,k3,_⟩:=fnO ok h hs
    obtain rfl:fn'=fn:=Option.some.inj (k1.symm.trans h1')
    obtain rfl:body'=body:=Option.some.inj (k2.symm.trans h2)
    exact adq hn k3
   ·exact hn fn body h1' h2
theorem ab6{lst glst:List Nat}(ok:OkL lst glst){f:Nat}(h:LbO lst f=true):Tryz.prog.inits.idxOf? f=none:=by
 have hm:f∈lst:=by unfold LbO at h;simpa using h
 simpa using List.all_eq_true.1 ok.inits f hm
end Go.Proofs.YtljbnicolhhicaaGreatDoor.Sat
end
section
namespace Go.Sq
open Go Go.Conc
theorem AvW.rel{Z:Nat->Prop}{L:Lk}{w v:World}(h:AvW Z L v)(r:Rel Z w v)(hw:∀b o,L.x b=some o->w.1[b]? =some o):AvW Z L w:=
 ⟨fun b o hb e=>h.obj b o hb ((r.same b hb).symm.trans e),fun b hb=>by rw [r.size];exact h.low b hb,fun b o e=>⟨(h.win b o e).1,hw b o e⟩⟩
theorem Rel.symm{Z:Nat->Prop}{w v:World}(h:Rel Z w v):Rel Z v w:=⟨h.size.symm,h.tape.symm,h.drawn.symm,h.os.symm,h.output.symm,fun b hb=>(h.same b hb).symm⟩
theorem AvB.Yk{Z:Nat->Prop}{L:Lk}{v:World}{m:Nat}(h:AvB (up Z v.1.size) L v)(hm:v.1.size<=m){o:Obj}(ho:AvO (up Z m) L o):AvB (up Z m) L (v.alloc o):=by
 refine⟨fun b o' hb e=> ?_⟩
 have e':(v.1.push o)[b]? =some o':=e
 rw [Array.getElem?_push]at e'
 split at e'
 ·cases e';exact ho
 ·have hlt:=lt_of_heap (w:=v) e'
  exact mK (BZ hm) (h.obj b o' (fun u=>u.elim (fun z=>hb (.inl z)) (fun hn=>by omega)) e')
section
variable {P:Program} {Q K:Goroutine->World->Prop} {g g' g1:Goroutine} {v v' v1:World}
def oh(P:Program)(Q:Goroutine->World->Prop)(g:Goroutine)(v:World)(g':Goroutine)(v':World):Prop:=(g'=g/\v'=v)∨iW P Q g v g' v'
theorem oh.refl(g:Goroutine)(v:World):oh P Q g v g v:= .inl ⟨rfl,rfl⟩
theorem oh.to(h:oh P Q g v g' v')(h2:LTo P Q K g' v'):∃g2 v2,oh P Q g v g2 v2/\K g2 v2:=by
 rcases h with ⟨rfl,rfl⟩|h
 ·rcases h2 with h2|⟨g2,v2,h3,h4⟩
  ·exact⟨_,_,.inl ⟨rfl,rfl⟩,h2⟩
  ·exact⟨_,_,.inr h3,h4⟩
 ·rcases h2 with h2|⟨g2,v2,h3,h4⟩
  ·exact⟨_,_,.inr h,h2⟩
  ·exact⟨_,_,.inr (h.trans h3),h4⟩
theorem oh.step(h:oh P Q g v g' v')(hq:¬ Q g' v'){τ:Nat->Question->Nat}{d:Nat}{es:Array Event}(e:stepG P true g' (tp v' τ d)= .go g1 v1 es):iW P Q g v g1 v1:=by
 rcases h with ⟨rfl,rfl⟩|h
 ·exact .one hq e
 ·exact .more h hq e
end
theorem JQ{fn:Func}{T:Array Value}{out:Value}{t:Tmp}(hr:fn.results= #[.tmp t])(h:T[t]? =some out):AX fn T=out:=by
 simp [AX,hr,Array.getD_eq_getD_getElem?,h]
theorem Tx{fr:Frame}{x:Value}(h:fr.mode= .run):(fr.finish x).mode= .run:=by unfold Frame.finish;split <;> exact h
theorem V8{fr:Frame}{x:Value}:(fr.finish x).fn=fr.fn:=by unfold Frame.finish;split <;> rfl
end Go.Sq
namespace Go.Proofs.YtljbnicolhhicaaGreatDoor.Sat
open Go.Conc Go.ConcX Go.RowKit Go.Conc.Lib Go.ConcX.Gen Go.Sq
variable [Wn]
abbrev LO(lst glst:List Nat):Lk:=lk (LbO lst) (aF Tryz.prog (LbO lst) (GbO glst))
def Zn(Z:Nat->Prop)(N:Nat):Nat->Prop:=fun b=>Z b∨(N<=b/\b<N+6)
structure KOat(lst glst:List Nat)(Z:Nat->Prop)(N:Nat)(x to:Int)(Q:Goroutine->World->Prop)(g0:Goroutine)(v0 w0:World)(cs:List Frame)(xs:List Value)(out:Value)(w:World)(g:Goroutine)(v:World):Prop where
 head:HdO x to out (.int .i64 (aC x+7*xs.length)) cs g
 led:oh Po Q g0 v0 g v
 rel:Rel (Zn Z N) w (tp v w.tape w.drawn)
 av:AvW (Zn Z N) (LO lst glst) v
 fresh:AvB (up (Zn Z N) v.1.size) (LO lst glst) v
 out:Av (up (Zn Z N) v.1.size) (LO lst glst) out
 size:N+6<=v.1.size
 old:∀b,Z b->w.1[b]? =w0.1[b]?
def KO(lst glst:List Nat)(Z:Nat->Prop)(N:Nat)(x to:Int)(Q:Goroutine->World->Prop)(g0:Goroutine)(v0 w0:World)(cs:List Frame)(xs:List Value)(out:Value)(w:World):Prop:=∃g v,KOat lst glst Z N x to Q g0 v0 w0 cs xs out w g v
theorem zSl:yC Tryz.prog 154=true:=vK
theorem zSl':∀sT,(#[154,154]:Array TypeId)[0]? =some sT->yC Tryz.prog sT=true:=by
 intro sT e
 simp only [List.getElem?_toArray,List.getElem?_cons_zero,Option.some.injEq]at e
 subst e
 exact zSl
omit [Wn] in
theorem zu(x:Int):x<=aC x/\aC x<=x+6:=by unfold aC;omega
theorem kO_ok{lst glst:List Nat}{Z:Nat->Prop}{N:Nat}{x to:Int}{Q:Goroutine->World->Prop}{g0:Goroutine}{v0 w0:World}{cs:List Frame}(hq:∀fr v,¬ Q (G fr cs) v)(hZ:∀b,Z b->b<N)(hwz:∀b o,Wn.x b=some o->Z b/\w0.1[b]? =some o)(hx: -1099511627776<=x)(hto:to<=1099511627776):
  KOk N x to (KO lst glst Z N x to Q g0 v0 w0 cs):=by
 constructor
 ·rintro xs out w w₁ ⟨g,v,h⟩ r
  refine⟨g,v,h.head,h.led,⟨r.size.trans h.rel.size,rfl,rfl,r.os.trans h.rel.os,r.output.trans h.rel.output,fun b hb=> ?_⟩,h.av,h.fresh,h.out,h.size,fun b hb=> ?_⟩
  ·exact(r.block b (fun e=>hb (.inr vO)) (fun e=>hb (.inr vO)) (fun e=>hb (.inr vO)) (fun e=>hb (.inr vO))).trans (h.rel.same b hb)
  ·have:=hZ b hb
   exact(r.block b vO vO vO vO).trans (h.old b hb)
 ·rintro xs out out' w w₂ w₃ ⟨g,v,h⟩ hd hh hr
  have hsz:w.1.size=v.1.size:=h.rel.size
  have hfs:=zu x
  have ho:∀Z':Nat->Prop,AvO Z' (LO lst glst) (.cells #[.int .i64 (aC x+7*(xs.length:Int))] 3):=fun Z'=> .cells fun y hy=>by
   simp only [List.mem_toArray,List.mem_singleton]at hy
   subst hy
   exact .int _ _
  have sz2:(v.alloc (.cells #[.int .i64 (aC x+7*(xs.length:Int))] 3)).1.size=v.1.size+1:=vS
  have hrel2:Rel (Zn Z N) w₂ (tp (v.alloc (.cells #[.int .i64 (aC x+7*(xs.length:Int))] 3)) w₂.tape w₂.drawn):=by
   refine⟨?_,rfl,rfl,hh.os.trans h.rel.os,hh.output.trans h.rel.output,fun b hb=> ?_⟩
   ·have hs2:=hh.size
    rw [show(w.alloc (.cells #[.int .i64 (aC x+7*(xs.length:Int))] 3)).1.size=w.1.size+1 by simp]at hs2
    show _=(v.alloc _).1.size
    rw [sz2,hs2,hsz]
   ·refine(hh.block b (fun e=>hb (.inr vO)) (fun e=>hb (.inr vO)) (fun e=>hb (.inr vO)) (fun e=>hb (.inr vO))).trans ?_
    exact(h.rel.push _).same b hb
  have av2:AvW (Zn Z N) (LO lst glst) (tp (v.alloc (.cells #[.int .i64 (aC x+7*(xs.length:Int))] 3)) w₂.tape w₂.drawn):=⟨(h.av.push (ho _)).obj,(h.av.push (ho _)).low,(h.av.push (ho _)).win⟩
  have hlow:∀b,Z b->w₂.1[b]? =w0.1[b]? :=fun b hb=>by
   have hlt:=hZ b hb
   have hN:=h.size
   exact((hh.block b vO vO vO vO).trans (Below.heap_alloc _ _ _ vO)).trans (h.old b hb)
  have av2w:AvW (Zn Z N) (LO lst glst) w₂:=av2.rel hrel2 fun b o e=>(hlow b (hwz b o e).1).trans (hwz b o e).2
  have hnz:¬ Zn Z N v.1.size:=fun z=>absurd (h.av.low _ z) (Nat.lt_irrefl _)
  have hargs:∀Z':Nat->Prop,Av Z' (LO lst glst) out->¬ Z' v.1.size->∀y∈(#[out,.slice (some ⟨w.1.size,0,none⟩) 1 1]:Array Value),Av Z' (LO lst glst) y:=by
   intro Z' h1 h2 y hy
   simp only [List.mem_toArray,List.mem_cons,List.not_mem_nil,or_false]at hy
   rcases hy with rfl|rfl
   ·exact h1
   ·exact .slice 1 1 (by rw [hsz];exact h2)
  have hout0:Av (Zn Z N) (LO lst glst) out:=mF zS h.out
  have hyB:Hyg Po Tryz.prog (Zn Z N) (LO lst glst) (Av (Zn Z N) (LO lst glst)) (Builtin.append_ #[154,154] 154 #[out,.slice (some ⟨w.1.size,0,none⟩) 1 1]):=
   uf (P:=Po) (F:=Tryz.prog.funcs) _ _ _ (hargs _ hout0 hnz) zSl'
  obtain⟨o1,⟨v₃,new,hrT,hrel3,_,hsz3,_⟩,_⟩:=Hyg.sim (P:=Po) (F:=Tryz.prog.funcs) (fun u hu=>sU FO (lkT u hu)) hyB #[] out' w₃ hrel2.symm av2w hr
  have hrun:(Builtin.append_ #[154,154] 154 #[out,.slice (some ⟨w.1.size,0,none⟩) 1 1]).run Po (tp (v.alloc (.cells #[.int .i64 (aC x+7*(xs.length:Int))] 3)) w₂.tape w₂.drawn)= .ok out' v₃:=by
   rw [←Sem.runT_fst Po _ _ #[],hrT]
  have hyF:Hyg Tryz.prog Po (Zn Z N) (LO lst glst) (Av (Zn Z N) (LO lst glst)) (Builtin.append_ #[154,154] 154 #[out,.slice (some ⟨w.1.size,0,none⟩) 1 1]):=
   uf (P:=Tryz.prog) (F:=FO) _ _ _ (hargs _ hout0 hnz) zSl'
  obtain⟨_,⟨w₃',new',hrT',hrel3',_,_,hid'⟩,hav3⟩:=hyF.sim lkT #[] out' v₃ hrel2 av2 hrun
  have hw3:w₃'=w₃:=by
   have:=Sem.runT_fst Tryz.prog (Builtin.append_ #[154,154] 154 #[out,.slice (some ⟨w.1.size,0,none⟩) 1 1]) w₂ #[]
   rw [hrT',hr]at this
   cases this
   rfl
  subst hw3
  obtain⟨g4,v4,l4,hd4,e4⟩:=h.led.to (abh hq h.head hd hto vO w₂.tape w₂.drawn (by rw [←hsz];exact hrun))
  subst e4
  have hsz3':v.1.size+1<=v4.1.size:=by rw [←sz2];exact hsz3
  have hnz1:¬ up (Zn Z N) v4.1.size v.1.size:=fun u=>u.elim hnz (fun h=>by omega)
  have hy1:=uf (P:=Tryz.prog) (F:=FO) (Z:=up (Zn Z N) v4.1.size) (L:=(LO lst glst)) #[154,154] 154 _ (hargs _ (mF (BZ vO) h.out) hnz1) zSl'
  obtain⟨q1,q2⟩:=hy1.out lkT hyF av2 ⟨(AvB.Yk (m:=v4.1.size) h.fresh vO (ho _)).obj⟩ (fun b h1 h2 u=>u.elim (fun z=>by have:=av2.low b z;omega) (fun h=>by omega)) hrun
  refine⟨g4,v4, ?_,l4,⟨hrel3'.size,rfl,rfl,hrel3'.os,hrel3'.output,hrel3'.same⟩,hav3,q2,q1,by have:=h.size;omega,fun b hb=> ?_⟩
  ·have e1:(((xs++ [.int .i64 (aC x+7*(xs.length:Int))]:List Value).length:Nat):Int)=(xs.length:Int)+1:=vS
   have e2:aC x+7*(((xs++ [.int .i64 (aC x+7*(xs.length:Int))]:List Value).length:Nat):Int)=aC x+7*(xs.length:Int)+7:=by rw [e1];omega
   rw [e2]
   exact hd4
  ·exact(hid' b (.inl hb)).trans (hlow b hb)
theorem oO(v:World):(six v).1.size=v.1.size+6:=by simp [six]
theorem UO(v:World){b:Nat}(h:b<v.1.size):(six v).1[b]? =v.1[b]? :=by
 unfold six
 iterate 6 rw [Below.heap_alloc _ _ _ (by first|omega|(simp <;> omega))]
theorem Mj{w:World}{b:Nat}(h:w.1.size<=b):w.1[b]? =none:=Array.getElem?_eq_none h
theorem Xn{lst glst:List Nat}{Z:Nat->Prop}{w v:World}{x to:Int}{Q:Goroutine->World->Prop}{g0 g1:Goroutine}{cs:List Frame}(hrel:Rel Z w v)(hmem:AvB (up Z v.1.size) (LO lst glst) v)(hlow:∀b,Z b->b<v.1.size)(hwin:∀b o,Wn.x b=some o->Z b/\v.1[b]? =some o)(hd:HdO x to (.slice none 0 0) (.int .i64 (aC x)) cs g1)(hl:oh Po Q g0 v g1 (six v))
  (w':World) (r:Hid w.1.size ((wS w x).setCell (stA (w.1.size+5)) (.int .u64 KK)) w'):KO lst glst Z w.1.size x to Q g0 v w cs [] (.slice none 0 0) w':=by
 have hN:w.1.size=v.1.size:=hrel.size
 have hst:(stA (w.1.size+5)).block=w.1.size+5:=rfl
 have hz:∀b,up (Zn Z w.1.size) (six v).1.size b->up Z v.1.size b:=by
  rintro b ((h|⟨h1,h2⟩)|h)
  ·exact .inl h
  ·exact .inr vO
  ·rw [oO]at h;exact .inr vO
 have hobj:∀b o,¬ Zn Z w.1.size b->(six v).1[b]? =some o->AvO (up Z v.1.size) (LO lst glst) o:=by
  intro b o hb e
  have hlt:b<v.1.size+6:=by have:=lt_of_heap e;rwa [oO]at this
  have hb1:¬ Z b:=fun z=>hb (.inl z)
  have hb2:b<v.1.size:=Nat.lt_of_not_le fun h=>hb (.inr vO)
  rw [UO v hb2]at e
  exact hmem.obj b o (fun u=>u.elim hb1 fun h=>by omega) e
 refine⟨g1,six v,by simpa using hd,hl,⟨?_,rfl,rfl,r.os.trans hrel.os,r.output.trans hrel.output,fun b hb=> ?_⟩,⟨fun b o hb e=>mK (fun b hb=>hz b (.inl hb)) (hobj b o hb e), ?_,fun b o e=>⟨.inl (hwin b o e).1,(UO v (hlow b (hwin b o e).1)).trans (hwin b o e).2⟩⟩,⟨fun b o hb e=>mK hz (hobj b o (fun z=>hb (.inl z)) e)⟩,.slice0 0 0,by rw [oO];omega,fun b hb=> ?_⟩
 ·rw [r.size]
  show((wS w x).setCell _ _).1.size=(six v).1.size
  rw [jc,GL,oO,hN]
 ·refine(r.block b (fun e=>hb (.inr vO)) (fun e=>hb (.inr vO)) (fun e=>hb (.inr vO)) (fun e=>hb (.inr vO))).trans ?_
  refine(Below.heap_setCell _ _ _ _ (fun e=>hb (.inr vO))).trans ?_
  show _=(six v).1[b]?
  by_cases hlt:b<w.1.size
  ·rw [YB w x hlt,UO v vO]
   exact hrel.same b fun z=>hb (.inl z)
  ·have:w.1.size+6<=b:=Nat.le_of_not_lt fun h=>hb (.inr vO)
   rw [Mj (by rw [GL];omega),Mj (by rw [oO];omega)]
 ·rintro b (z|⟨_,h2⟩)
  ·have:=hlow b z;rw [oO];omega
  ·rw [oO];omega
 ·have:=hlow b hb
  refine(r.block b vO vO vO vO).trans ?_
  refine(Below.heap_setCell _ _ _ _ vO).trans ?_
  exact YB w x vO
theorem aa8:Tryz.f160.body=some nV:=by rfl
omit [Wn] in
theorem Xj:Tryz.f160.results= #[.tmp 4]:=by rfl
theorem U8:LP Tryz.f160=true:=by
 unfold LP
 rw [Xj]
 simp
omit [Wn] in
theorem ZG:Tryz.f160.ntmps=28:=by rfl
theorem ZF:LP Ow=true:=U8
omit [Wn] in
theorem aaF:Ow.results= #[.tmp 4]:=Xj
theorem XR{lst glst:List Nat}{s:Nat}{Z0 Zo:Nat->Prop}{Wo:World}{Rx:Value->World->Prop}(hWo:∀b o,Wn.x b=some o->Zo b/\Wo.1[b]? =some o):N8 Tryz.prog FO (LbO lst) (GbO glst) s 160 Zo Wo (Qb Tryz.prog FO Z0 (LbO lst) (GbO glst) s Rx):=by
 intro Z Shun B gs fr cs w v sl T q args hmr h0 hL hP hrel hwell hns hsh hgb hgz hold hwins
 have hq:∀fr' v',¬ Qb Tryz.prog FO Z0 (LbO lst) (GbO glst) s Rx (G fr' (fr :: cs++ [bV FO])) v':=by
  rintro fr' v' ⟨fr2,fn,x,e,_⟩
  simp only [G,Goroutine.mk.injEq]at e
  have:=congrArg List.length e.2.1
  simp at this
 have eP:Frame.enter Tryz.prog 160 args .normal=(base 160).at ⟨args++Array.replicate (28-args.size) undef,[]⟩ [.code nV]:=enter_at args Tryz.func160 aa8
 have eO:Frame.enter Po 160 args .normal=(base 160).at ⟨args++Array.replicate (28-args.size) undef,[]⟩ [.code lF]:=enter_at (P:=Po) (fn:=Ow) args JH rfl
 have hT:28<=(args++Array.replicate (28-args.size) undef).size:=vQ
 rw [eP]at h0
 have hwins':jQ Po (Qb Tryz.prog FO Z0 (LbO lst) (GbO glst) s Rx) (G ((base 160).at ⟨args++Array.replicate (28-args.size) undef,[]⟩ [.code lF]) (fr :: cs++ [bV FO])) v:=by rw [←eO];exact hwins
 obtain⟨x,to,v2,v3,v4,v5,v6,v7,v8,v9,v10,v11,v12,v13,v14,v15,v16,v17,v18,v19,v20,v21,v22,v23,v24,v25,v26,v27,eT,b1,b2,b3⟩:=abg hq hT hwins'
 show ∃ (N:Nat) (gs':Array Goroutine) (x:Value) (w' v':World) (sl':Option (Nat×Nat)) (T':Trace) (q':Nat->Nat) (Z':Nat->Prop) (Shun':Loc->Prop) (B':Nat),runNT Tryz.prog N (crowd gs w sl) T=(.next (crowd gs' w' sl'),T')/\
   iW Po (Qb Tryz.prog FO Z0 (LbO lst) (GbO glst) s Rx) (G (Frame.enter Po 160 args .normal) (fr :: cs++ [bV FO])) v (G (fr.finish x) (cs++ [bV FO])) v'/\CSt Tryz.prog (LbO lst) (GbO glst) s 160 Zo Wo Z' Shun' B' gs' (fr.finish x) cs w' v' T' q'
 rw [eO,eT]
 rw [eT]at h0
 have hN:w.1.size=v.1.size:=hrel.size
 have hZ:∀b,Z b->b<w.1.size:=fun b hb=>by rw [hN];exact hwell.low b hb
 have hwz:∀b o,Wn.x b=some o->Z b/\w.1[b]? =some o:=fun b o e=>⟨(hwell.win b o e).1,((hold b (hWo b o e).1).2).trans (hWo b o e).2⟩
 have hfs:=zu x
 obtain⟨k,k1,k2,k3⟩:∃k:Nat,(∀j:Nat,j<k->aC x+7*j<=to)/\to<aC x+7*k/\(k:Int)<=400000000000:=by
  by_cases hlt:to<aC x
  ·exact⟨0,fun j hj=>by omega,vO,vO⟩
  ·refine⟨((to-aC x) / 7+1).toNat,fun j hj=>by omega,vO,vO⟩
 obtain⟨g1,v1,l1,hd1,ev1⟩:=oh.to (oh.refl _ _) (aa3 hq v2 v3 v4 v5 v6 v7 v8 v9 v10 v11 v12 v13 v14 v15 v16 v17 v18 v19 v20 v21 v22 v23 v24 v25 v26 v27 v b1 b2 b3)
 subst ev1
 have hK:=kO_ok (lst:=lst) (glst:=glst) (g0:=G ((base 160).at ⟨#[x,to,v2,v3,v4,v5,v6,v7,v8,v9,v10,v11,v12,v13,v14,v15,v16,v17,v18,v19,v20,v21,v22,v23,v24,v25,v26,v27],[]⟩ [.code lF]) (fr :: cs++ [bV FO])) (v0:=v) (w0:=w) hq hZ hwz b1 b3
 obtain⟨B',n,gs',a',w',sl',T',q',r1,r2,r3,⟨out,xs,day,u12,u13,u14,u15,u16,u17,u18,u19,u20,u21,u22,u23,u24,u25,u26,u27,ea,hA,hto⟩,r5,r6⟩:=Ls hK k (by unfold oC;omega) vO (by push_cast;omega) k1 k2 vO
  (fun w' r=>Xn hrel hwell.mem hwell.low hwell.win hd1 l1 w' r) (Shun:=Shun) (fun a ha hs=>by
   rcases hsh _ hs with ⟨y,hy,hz,_⟩|⟨y,hy,_⟩
   ·cases hy;have:=hZ _ hz;omega
   ·cases hy) h0 hL hP
 subst ea
 obtain⟨N1,gs1,d,d',sl1,sl2,T1,q1,p1,p2,p3,p4,p5,p6⟩:=aaG _ gs' w' sl' T' q' rfl r3 rfl r5 r6
 obtain⟨g2,v2',hk⟩:=hK.hid hA.kp (Hid.ofA (w₁:=w'.at d') ⟨d',rfl⟩)
 obtain⟨g3,v3',l3,⟨T3,k3',eg3,hT3⟩,ev3⟩:=hk.led.to (exitO hq hk.head hto)
 subst eg3 ev3
 have sP:=GV (Pg:=Tryz.prog) (main:=true) (fr:={(base 160).at ⟨#[x,to,.pointer (some ⟨w.1.size,0,none⟩),v3,out,.pointer (some ⟨w.1.size+2,0,none⟩),.pointer (some ⟨w.1.size+4,0,none⟩),.pointer (some ⟨w.1.size+5,0,none⟩),out,day,.chan (some (w.1.size+1)),.chan (some (w.1.size+3)),u12,u13,u14,u15,u16,u17,u18,u19,u20,u21,u22,u23,u24,u25,u26,u27],[]⟩ [.code .ret]with mode:= .returning}) (c:=fr) (cs:=cs) (w:=w'.at d') rfl rfl rfl Tryz.func160 U8
 rw [JQ Xj rfl]at sP
 have sO:=GV (Pg:=Po) (main:=true) (fr:={(base 160).at ⟨T3,[]⟩ k3' with mode:= .returning}) (c:=fr) (cs:=cs++ [bV FO]) (w:=tp v3' w'.tape d') rfl rfl rfl (show Po.funcs[160]? =some Ow from JH) ZF
 have e4:AX Ow ({(base 160).at ⟨T3,[]⟩ k3' with mode:= .returning}:Frame).tmps=out:=JQ aaF hT3
 rw [e4]at sO
 have led:=l3.step (hq _ _) sO
 have hpos:0<gs1.size:=(Array.getElem?_eq_some_iff.1 p3).1
 have hstep:=Go.ConcX.runNT_then (Go.ConcX.runNT_trans r1 p1) (p6.trans (runT_crowd_go (P:=Tryz.prog) (i:=0) p3 (by simpa [VX]using sP)))
 obtain⟨f1,f2⟩:=hwell.below fr vS
 have hup:∀b,up (Zn Z w.1.size) v3'.1.size b->up Z v.1.size b:=by
  have hs:=hk.size
  rintro b ((h|⟨h1,h2⟩)|h)
  ·exact .inl h
  ·exact .inr vO
  ·exact .inr vO
 refine⟨_,_,out,w'.at d',tp v3' w'.tape d',sl2,_,q1,Zn Z w.1.size,_,B',hstep,led, ?_,p4.own hpos _ _ _,p5.own (fun e he=>by simp at he),hk.rel,⟨(f1.anti hup).finish hk.out,fun c hc=> ?_,⟨hk.fresh.obj⟩, ?_,hk.av.win,.inl (Tx f2)⟩,⟨by rw [V8];exact hns.1,hns.2⟩, ?_, ?_, ?_, ?_⟩
 ·exact Array.getElem?_setIfInBounds_self_of_lt (by simpa using hpos)
 ·obtain⟨c1,c2⟩:=hwell.below c (by simp [hc])
  exact⟨c1.anti hup,c2⟩
 ·have hs:=hk.size
  rintro b (z|⟨_,h2⟩)
  ·have:=hZ b z
   show b<v3'.1.size
   omega
  ·show b<v3'.1.size
   omega
 ·rintro l (hl|hl|hl)
  ·rcases hsh l hl with ⟨a,e,hz,hx⟩|⟨r,e,hz⟩
   ·exact .inl ⟨a,e,.inl hz,hx⟩
   ·exact .inr ⟨r,e,.inl hz⟩
  ·obtain⟨a,e,hb⟩:=hl
   refine .inl ⟨a,e,.inr vO, ?_⟩
   cases hx:Wn.x a.block with
   |none=>rfl
   |some o=>have:=hZ _ (hwz _ o hx).1;omega
  ·exact .inr ⟨_,hl,.inr vO⟩
 ·intro g hg
  have h1:=hgb g hg
  have hs:=hk.size
  refine⟨fun z=>z.elim h1.1 fun h=>by omega, ?_⟩
  show g<v3'.1.size
  omega
 ·have hs:=hk.size
  refine⟨fun z=>z.elim hgz.1 fun h=>by omega, ?_⟩
  show _<v3'.1.size
  omega
 ·intro b hb
  obtain⟨h1,h2⟩:=hold b hb
  exact⟨.inl h1,(hk.old b h1).trans h2⟩
#print axioms XR
end Go.Proofs.YtljbnicolhhicaaGreatDoor.Sat
end
section
namespace Go.Sq
open Go
def objB:Obj->Bool
 | .cells c _ _=>c.all avB
 |_=>false
theorem Pz{Z:Nat->Prop}{L:Go.Sq.Lk}{o:Obj}(h:objB o=true):AvO Z L o:=by
 cases o with
 |cells c t f=>exact .cells fun v hv=>zY (Array.all_eq_true_iff_forall_mem.1 h v hv)
 |_=>simp [objB]at h
theorem tied_goes(Lk:Looks){p:Pinned}{s:OpenSpec}{c:OpenClaim}(kinds:List LaidKind)(tests:Bool)(har:Bool×String)(lk:Bool)
  (hc:c.holds p s) (hw:c.wfByText s=true) (htie:c.laidByTextAt Lk p kinds tests)
  (hst:c.start= .entering) (hnb:c.noBlocks=false/\c.again=false) (hm:p.checked.prog.mainIs=some (har.1,har.2.toList)) (hn:(!har.1&&har.2.isEmpty&& !lk)=false)
  (hl:∀f fn,p.checked.prog.funcNamed c.func=some f->p.checked.prog.funcs[f]? =some fn->lk=p.checked.prog.looks []/\∀ (j:Nat) t,fn.params[j]? =some t->p.checked.prog.wantsStandIn t=false)
  (hg:true=c.goesBy p.checked.prog):
  Claim7.holds p (.plain s) {stood:={row:=c,standIns:= [],harness:=har,looks:=lk},kinds:= [],alts:= [],goes:=true,laidByText:=true,laidKinds:=kinds,laidTests:=tests,laidLooks:=Lk}:=by
 have h6:∀r:OpenClaim,Claim7.isSixth {stood:={row:=r,standIns:= [],harness:=har,looks:=lk},kinds:= []}=false:=fun r=>by simpa [Claim7.isSixth]using hn
 exact⟨Claim7.tied_new_at Lk kinds tests (Claim7.new_of_sixth hc har lk hst hnb hm (h6 c) hl) hw,fun D hD=>(by cases hD),htie,(fun h=>by cases h),hg⟩
end Go.Sq
namespace Go.Proofs.YtljbnicolhhicaaGreatDoor.Sat
open Go.Conc Go.RowKit Go.Sq
variable [Wn]
theorem handles:((begin Tryz.prog (fun _ _=>0) default).world.1[Tryz.prog.globals.size]?).map objB=some true:=vK
def PlainAt(W:World)(g:Nat):Prop:=∃o,W.1[g]? =some o/\objB o=true
theorem Un{W:World}(h:W.ShapedOpen Tryz.prog):PlainAt W Tryz.prog.globals.size:=by
 obtain⟨o0,h0,hb⟩:=Option.map_eq_some_iff.1 handles
 have hlt:=(Array.getElem?_eq_some_iff.1 h0).1
 obtain⟨o,o1,h1,h2,h3⟩:=h.2 Tryz.prog.globals.size (Nat.le_refl _) hlt
 have e:World.looseAt (Tryz.prog.globals.size-Tryz.prog.globals.size)=false:=by rw [Nat.sub_self];rfl
 rw [e]at h3
 simp only [Bool.false_eq_true,if_false]at h3
 subst h3
 obtain rfl:o0=o:=Option.some.inj (h0.symm.trans h2)
 exact⟨_,h1,hb⟩
theorem PlainAt.lt{W:World}{g:Nat}(h:PlainAt W g):g<W.1.size:=by
 obtain⟨o,h,_⟩:=h
 exact lt_of_heap h
theorem go_run{lst glst:List Nat}(ok:OkL lst glst)(okw:OkW lst glst){f:FuncId}(hf:LbO lst f=true)(hfs:f≠160){W:World}{args:Array Value}{X:Value}(hsh:W.ShapedOpen Tryz.prog)(hg:∀g∈glst,PlainAt W g)(hwn:∀b o,Wn.x b=some o->GbO glst b=false/\b≠Tryz.prog.globals.size/\W.1[b]? =some o)
  (hargs:∀ (j:Nat) x,args[j]? =some x->Av (up (Zst Tryz.prog (GbO glst) W) W.1.size) (LO lst glst) x∨Wn.wv (Wn.kd f j) x)
  (hc:∀τ d,Calls Tryo.prog f args (Sq.tp W τ d) fun e w'=>e= .returned X/\Below W.1.size (Sq.tp W τ d) w'):
  ∃M last o w' t',runNT Tryz.prog (M+1) (solo (G (Frame.enter Tryz.prog f args .normal) []) W) #[]=(.ended o w',t')/\runN Tryz.prog M (solo (G (Frame.enter Tryz.prog f args .normal) []) W)= .next last/\
   step Tryz.prog last= .ended o w'/\Conc.Good Tryz.prog (Kept W X) last o w' t':=by
 have hm:∀g,GbO glst g=true->g∈glst:=fun g h=>by unfold GbO at h;simpa using h
 have hh:=Un hsh
 refine Xr (s:=0) (sat:=160) (F:=FO) (Lb:=LbO lst) (Gb:=GbO glst) (fun Z h1 h2=>sysO ok okw Z h1 h2) (fun Z h1 h2=>sysFO ok okw Z h1 h2) ok.zero (fun _ _ _ _ h=>XR h) (fun f h=>ab6 ok h) hf hfs hh.lt (fun g h=>(hg g (hm g h)).lt) (fun b o hb e=> ?_)
  (fun b o e=>⟨⟨lt_of_heap (hwn b o e).2.2,(hwn b o e).1,(hwn b o e).2.1⟩,(hwn b o e).2.2⟩) hargs hc
 obtain⟨o',h1,h2⟩:PlainAt W b:=hb.elim (fun h=>hg b (hm b h)) (fun h=>h▸hh)
 obtain rfl:o'=o:=Option.some.inj (h1.symm.trans e)
 exact Pz h2
#print axioms go_run
end Go.Proofs.YtljbnicolhhicaaGreatDoor.Sat
end
section
namespace Go.Proofs.YtljbnicolhhicaaGreatDoor.Sat
open Go.Conc Go.RowKit Go.Sq
def kdP(f i:Nat):Nat:=
 if f==3 then(if [0,13,19,24,26,31,33,38,55,70,75].contains i then 1 else if i==77 then 2 else 0)
 else if f==4 then(if [0,6,11,16].contains i then 1 else if i==18 then 2 else if i==19 then 3 else 0)
 else if f==6 then(if [0,8,12,15].contains i then 1 else if i==19 then 2 else 0)else 0
def nwP(f:Nat):Bool:= !(f==3||f==4||f==6)
def spP:Nat->Oper->Bool:=spG kdP 22 42 9 6
def scP(f:Nat)(o:Oper):Bool:=f==3&&match o.op with
 | .call c=>match c.callee,c.args.toList with
  | .value (.func K),[.tmp t]=>K==6&&kdP f t==1
  | .value (.func K),[.tmp t,.const v]=>K==4&&kdP f t==1&&avB v
  |_,_=>false
 |_=>false
theorem nwP0(f:Nat)(h:nwP f=true)(i:Nat):kdP f i=0:=by
 unfold nwP at h
 simp only [Bool.not_eq_true',Bool.or_eq_false_iff]at h
 unfold kdP
 rw [h.1.1,h.1.2,h.2]
 rfl
abbrev winI(W:Win):Wn:={x:=W.x,kd:=kdP,wv:=W.vals,wv0:=fun v h=>h,sp:=spP,sc:=scP,nw:=nwP,nw0:=nwP0}
abbrev winO:Wn:={x:=fun _=>none,kd:=fun _ _=>0,wv:=fun _ _=>False,wv0:=fun _ h=>h,sp:=fun _ _=>false,sc:=fun _ _=>false,nw:=fun _=>true,nw0:=fun _ _ _=>rfl}
def w00:Win:=⟨0,0,0,10,9,.deferred none⟩
theorem okWO(lst glst:List Nat): @OkW winO lst glst:=by
 letI:=winO
 exact⟨fun f _=> .inl rfl,fun Z s fr o _ h=>by(cases h),fun f o h=>by(cases h),fun Z s fr o _ h=>by(cases h)⟩
theorem winT{W:Win}(hz:W.z=10)(hf:W.f=9)(hp:W.Plain):WinT Tryz.prog W 22 42 9 6:=by
 have i0:(Tryz.prog.info? 42).map (·.size)=some 10:=vK
 obtain⟨inf,i1,i2⟩:=Option.map_eq_some_iff.1 i0
 have i3:(Tryz.prog.info? 9).map (·.size)=some 1:=vK
 obtain⟨infF,i4,i5⟩:=Option.map_eq_some_iff.1 i3
 exact⟨hp,_,inf,_,infF,_,Tryz.underlying22,i1,i2.trans hz.symm,Tryz.underlying42,rfl,hf.symm,i4,vO,Tryz.underlying9,vS,vS,vO⟩
theorem okP3:fG (@wop (winI w00) 3) (Tryz.f3.body.getD .skip)=true:=vK
theorem okP5:fG (@wop (winI w00) 4) (Tryz.f4.body.getD .skip)=true:=vK
theorem okP7:fG (@wop (winI w00) 6) (Tryz.f6.body.getD .skip)=true:=vK
theorem okWI{W:Win}(hz:W.z=10)(hf:W.f=9)(hp:W.Plain){lst glst:List Nat}(h7:LbO lst 6=true)(h5:LbO lst 4=true): @OkW (winI W) lst glst:=by
 letI:=winI W
 have body:∀ (f:Nat) (fn0:Func) (body0:Code),f≠160->Tryz.prog.funcs[f]? =some fn0->fn0.body=some body0->fG (wop f) body0=true->(∀r∈fn0.results,kdP f (acU r)=0)->
   (f≠160/\∀fn body,Tryz.prog.funcs[f]? =some fn->fn.body=some body->fG (wop f) body=true/\∀r∈fn.results,Wn.kd f (acU r)=0):=by
  intro f fn0 body0 hs h1 h2 h3 h4
  refine⟨hs,fun fn body k1 k2=> ?_⟩
  obtain rfl:fn0=fn:=Option.some.inj (h1.symm.trans k1)
  obtain rfl:body0=body:=Option.some.inj (h2.symm.trans k2)
  exact⟨h3,h4⟩
 refine⟨fun f hl=> ?_,fun Z s fr o h1 h2 h3=>adx (W:=W) rfl rfl (winT hz hf hp) h1 h2 h3,fun f o h=>⟨(ac9 h).1,(ac9 (Lb:=LbO lst) h).2.1⟩,fun Z s fr o hF h=> ?_⟩
 ·cases hn:nwP f with
  |true=>exact .inl hn
  |false=>
   right
   unfold nwP at hn
   simp only [Bool.not_eq_false',Bool.or_eq_true,beq_iff_eq]at hn
   rcases hn with (rfl|rfl)|rfl
   ·exact body _ _ _ vD Tryz.func3 rfl okP3 (by intro r hr;revert r;decide)
   ·exact body _ _ _ vD Tryz.func4 rfl okP5 (by intro r hr;revert r;decide)
   ·exact body _ _ _ vD Tryz.func6 rfl okP7 (by intro r hr;revert r;decide)
 ·change scP fr.fn o=true at h
  unfold scP at h
  rw [Bool.and_eq_true,beq_iff_eq]at h
  obtain⟨hfn,h⟩:=h
  split at h
  ·next c hop=>
   obtain⟨callee,⟨args⟩,ats⟩:=c
   simp only at h
   have typ:∀t K,kdP fr.fn t=1->kdP K 0=1->Av Z (lk (LbO lst) (aF Tryz.prog (LbO lst) (GbO glst))) (fr.eval (.tmp t))∨Wn.wv (Wn.kd K 0) (fr.eval (.tmp t)):=fun t K h1 h2=>by
    have:=hF.val t
    show _∨W.vals (kdP K 0) _
    rw [h2,←h1]
    exact this
   split at h
   ·next _ _ K t=>
    simp only [Bool.and_eq_true,beq_iff_eq]at h
    obtain⟨rfl,h2⟩:=h
    refine⟨⟨_,_,ats,hop,h7,fun j v e=> ?_⟩,fun c K e1 e2=> ?_⟩
    ·simp only [List.map_toArray,List.map_cons,List.map_nil,List.getElem?_toArray]at e
     match j,e with
     |0,e=>obtain rfl:=Option.some.inj e;exact typ t _ h2 (by rfl)
    ·rw [hop]at e1
     cases e1
     cases e2
     decide
   ·next _ _ K t v=>
    simp only [Bool.and_eq_true,beq_iff_eq]at h
    obtain⟨⟨rfl,h2⟩,h3⟩:=h
    refine⟨⟨_,_,ats,hop,h5,fun j v e=> ?_⟩,fun c K e1 e2=> ?_⟩
    ·simp only [List.map_toArray,List.map_cons,List.map_nil,List.getElem?_toArray]at e
     match j,e with
     |0,e=>obtain rfl:=Option.some.inj e;exact typ t _ h2 (by rfl)
     |1,e=>obtain rfl:=Option.some.inj e;exact .inl (zY h3)
    ·rw [hop]at e1
     cases e1
     cases e2
     decide
   ·cases h
  ·cases h
end Go.Proofs.YtljbnicolhhicaaGreatDoor.Sat
end
