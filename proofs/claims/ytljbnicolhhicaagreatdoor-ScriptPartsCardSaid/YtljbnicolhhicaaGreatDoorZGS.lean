import Derived.Test.YtljbnicolhhicaaGreatDoorChecked
import Derived.Conc.FxGenDone
import Derived.Test.YtljbnicolhhicaaGreatDoorZGB
import Derived.Conc.BesideWords
import Derived.Conc.TokenWords
import Derived.Conc.PipeWords
set_option maxHeartbeats 8000000
set_option maxRecDepth 100000
set_option linter.unusedSectionVars false
set_option linter.unusedSimpArgs false
set_option linter.unusedVariables false
namespace Go.Proofs
abbrev Tryz.link:Go.Conc.Lib.WgLink:={add:=181,done:=183,wait:=186,relMerge:=202,disable:=203,enable:=204,inBubble:=205,associate:=206,fatal:=207,uOr:=208,uAdd:=209,raceRead:=210,uLoad:=211,uStore:=212,disassociate:=213,semrelease:=214,acquire:=216,isAssociated:=217,uCas:=218,raceWrite:=219,semacquire:=220,orU64:=227,addU64:=228,loadU64:=229,storeU64:=230,casU64:=231,tWgP:=245,tUP:=199,tAssoc:=247,tWg:=226,tAU:=224,tU64:=205,tUint:=177,tU32:=180,tPU32:=251,tPAU:=264,tPU64:=266,tNoCopy:=220,tANoCopy:=221,tAlign64:=222}
theorem Tryz.UC:Go.Conc.Lib.WgLib Tryz.prog Tryz.link:=
 ⟨Tryz.func181,Tryz.func183,Tryz.func186,Tryz.func202,Tryz.func203,Tryz.func204,Tryz.func205,Tryz.func206,Tryz.func207,Tryz.func208,Tryz.func209,Tryz.func210,Tryz.func211,Tryz.func212,Tryz.func213,Tryz.func214,Tryz.func216,Tryz.func217,Tryz.func218,Tryz.func219,Tryz.func220,Tryz.func227,Tryz.func228,Tryz.func229,Tryz.func230,Tryz.func231,Tryz.underlying245,Tryz.runUnderlying245,Tryz.sizeOf245,Tryz.isAgg245,Tryz.zeroValue245,Tryz.underlying199,Tryz.runUnderlying199,Tryz.sizeOf199,Tryz.isAgg199,Tryz.zeroValue199,Tryz.underlying247,Tryz.runUnderlying247,Tryz.sizeOf247,Tryz.isAgg247,Tryz.zeroValue247,Tryz.underlying226,Tryz.runUnderlying226,Tryz.sizeOf226,Tryz.isAgg226,Tryz.zeroValue226,Tryz.underlying224,Tryz.runUnderlying224,Tryz.sizeOf224,Tryz.isAgg224,Tryz.zeroValue224,Tryz.underlying205,Tryz.runUnderlying205,Tryz.sizeOf205,Tryz.isAgg205,Tryz.zeroValue205,Tryz.underlying177,Tryz.runUnderlying177,Tryz.sizeOf177,Tryz.isAgg177,Tryz.zeroValue177,Tryz.underlying180,Tryz.runUnderlying180,Tryz.sizeOf180,Tryz.isAgg180,Tryz.zeroValue180,Tryz.underlying251,Tryz.runUnderlying251,Tryz.sizeOf251,Tryz.isAgg251,Tryz.zeroValue251,Tryz.underlying264,Tryz.runUnderlying264,Tryz.sizeOf264,Tryz.isAgg264,Tryz.zeroValue264,Tryz.underlying266,Tryz.runUnderlying266,Tryz.sizeOf266,Tryz.isAgg266,Tryz.zeroValue266,Tryz.underlying0,Tryz.runUnderlying0,Tryz.sizeOf0,Tryz.isAgg0,Tryz.zeroValue0,Tryz.underlying3,Tryz.runUnderlying3,Tryz.sizeOf3,Tryz.isAgg3,Tryz.zeroValue3,Tryz.underlying4,Tryz.runUnderlying4,Tryz.sizeOf4,Tryz.isAgg4,Tryz.zeroValue4,Tryz.underlying9,Tryz.runUnderlying9,Tryz.sizeOf9,Tryz.isAgg9,Tryz.zeroValue9,Tryz.underlying20,Tryz.runUnderlying20,Tryz.sizeOf20,Tryz.isAgg20,Tryz.zeroValue20,Tryz.underlying21,Tryz.runUnderlying21,Tryz.sizeOf21,Tryz.isAgg21,Tryz.zeroValue21,vK,vK⟩
end Go.Proofs
section
namespace Go.Proofs.YtljbnicolhhicaaGreatDoor.Sat
open Go.Conc Go.RowKit
variable {main:Bool} {R:World->World->Prop} {D:World->World->Array Event->Prop}
def aC(x:Int):Int:=x+(6-x) % 7
def oC(x:Int):Prop:= -4611686018427387904<=x/\x<=4611686018427387904
theorem RQ(x:Int):(0<=x/\Int.tmod x 7=x % 7)∨(x<0/\Int.tmod x 7= -((-x) % 7)):=by
 rcases Int.lt_or_le x 0 with h|h
 ·refine .inr ⟨h, ?_⟩
  have:x= -(-x):=vO
  rw [this,Int.neg_tmod,Int.tmod_eq_emod_of_nonneg vO]
  simp
 ·exact .inl ⟨h,Int.tmod_eq_emod_of_nonneg h⟩
theorem abu(T:Terms R D):∃n,∀ (x:Int) (w:World),oC x->CallsC Tryz.prog main R D 127 #[.int .i64 x,.int .i64 7] n w fun v w'=>v= .tuple #[.int .i64 (x % 7),.int .i64 0]/\Since R w w':=by
 co_apply Exists.intro
 intro x w hx
 obtain⟨h1,h2⟩:=hx
 co_apply callsC_of_wpC Tryz.func127 (by rfl) rfl
 have hF:Since R w w:= .refl w
 simp only [Tryz.ntmps127,List.size_toArray,List.length_cons,List.length_nil,Nat.reduceAdd,Nat.reduceSub,Array.replicate_succ,Array.replicate_zero,List.push_toArray,List.append_toArray,List.nil_append,List.cons_append]
 co_go T (Since.rely T) hF (co_quiet T)
 co_apply wpC_cond T (t:=false)
 focus (exact rfl)
 simp only [Bool.false_eq_true,if_false]
 co_ctl T
 try co_then
 co_apply wpC_seq T
 co_reg T
 co_op (Since.rely T) hF (co_quiet T)
 co_op (Since.rely T) hF (co_quiet T)
 co_op (Since.rely T) hF (co_quiet T)
 co_op (Since.rely T) hF (co_quiet T)
 co_apply opsC_nil T
 co_then
 co_apply wpC_seq_mid T (fun a' w'=>∃ (v11 v12 v13 v14 v15 v16:Value),Since R w w'/\
  a'={tmps:= #[.int .i64 x,.int .i64 7,undef,undef,.int .i64 0,.int .i64 0,.int .i64 (x % 7),.int .i64 7,.bool false,.int .i64 x,.int .i64 7,v11,v12,v13,v14,v15,v16,undef],defers:= []})
 ·co_go T (Since.rely T) hF (co_quiet T)
  co_split T (decide (Int.tmod x 7<0))
  ·intro hx
   replace hx:=of_decide_eq_true hx
   co_go T (Since.rely T) hF (co_quiet T)
   have e:IntKind.i64.wrap (Int.tmod x 7+7)=x % 7:=by
    rw [IntKind.wrap_i64]
    rcases RQ x with ⟨c,d⟩|⟨c,d⟩ <;> rw [d]at hx⊢ <;> omega
   simp only [e]
   exact⟨_,_,_,_,_,_,hF,rfl⟩
  ·intro hx
   replace hx:=of_decide_eq_false hx
   co_go T (Since.rely T) hF (co_quiet T)
   have e:Int.tmod x 7=x % 7:=by
    rcases RQ x with ⟨c,d⟩|⟨c,d⟩ <;> rw [d]at hx⊢ <;> omega
   simp only [e]
   exact⟨_,_,_,_,_,_,hF,rfl⟩
 ·rintro a' w' ⟨v11,v12,v13,v14,v15,v16,hF,rfl⟩
  co_go T (Since.rely T) hF (co_quiet T)
  exact⟨rfl,_,resultsC_tmp2 (by rfl) _,vS,hF⟩
theorem TK(T:Terms R D):∃n,∀ (x:Int) (w:World),oC x->CallsC Tryz.prog main R D 90 #[.int .i64 x] n w fun v w'=>v= .int .i64 (x % 7)/\Since R w w':=by
 obtain⟨nm,hm⟩:=abu (main:=main) T
 co_apply Exists.intro
 intro x w hx
 co_apply callsC_of_wpC Tryz.func90 (by rfl) rfl
 have hF:Since R w w:= .refl w
 simp only [Tryz.ntmps90,List.size_toArray,List.length_cons,List.length_nil,Nat.reduceAdd,Nat.reduceSub,Array.replicate_succ,Array.replicate_zero,List.push_toArray,List.append_toArray,List.nil_append,List.cons_append]
 co_go T (Since.rely T) hF (co_quiet T)
 co_apply opsC_call T rfl (by rfl) rfl
 ·walk_nrm
  exact hm _ _ hx
 rintro v w' ⟨rfl,hs⟩
 replace hF:Since R w w':=hs.elim (fun e=>e▸hF) (fun r=>Since.rely T hF r)
 clear hs
 walk_nrm
 co_go T (Since.rely T) hF (co_quiet T)
 refine⟨rfl,_,resultsC_tmp (by rfl) _,vS,hF⟩
theorem WH(T:Terms R D):∃n,∀ (w:World),CallsC Tryz.prog main R D 215 #[.int .i64 6] n w fun v w'=>v= .bool true/\Since R w w':=by
 co_apply Exists.intro
 intro w
 co_apply callsC_of_wpC Tryz.func215 (by rfl) rfl
 have hF:Since R w w:= .refl w
 simp only [Tryz.ntmps215,List.size_toArray,List.length_cons,List.length_nil,Nat.reduceAdd,Nat.reduceSub,Array.replicate_succ,Array.replicate_zero,List.push_toArray,List.append_toArray,List.nil_append,List.cons_append]
 co_go T (Since.rely T) hF (co_quiet T)
 exact⟨rfl,_,resultsC_tmp (by rfl) _,vS,hF⟩
theorem abC(T:Terms R D):∃n,∀ (x:Int) (w:World),oC x->CallsC Tryz.prog main R D 185 #[.int .i64 x,.int .i64 6] n w fun v w'=>v= .int .i64 (aC x)/\Since R w w':=by
 obtain⟨nm,hm⟩:=TK (main:=main) T
 obtain⟨nk,hk⟩:=WH (main:=main) T
 have h6:∀y:Int,oC y->oC (6-y % 7):=fun y h=>by unfold oC at*;omega
 co_apply Exists.intro
 intro x w hx
 co_apply callsC_of_wpC Tryz.func185 (by rfl) rfl
 have hF:Since R w w:= .refl w
 simp only [Tryz.ntmps185,List.size_toArray,List.length_cons,List.length_nil,Nat.reduceAdd,Nat.reduceSub,Array.replicate_succ,Array.replicate_zero,List.push_toArray,List.append_toArray,List.nil_append,List.cons_append]
 co_go T (Since.rely T) hF (co_quiet T)
 co_apply opsC_call T rfl (by rfl) rfl
 ·walk_nrm
  exact hk _
 rintro v w' ⟨rfl,hs⟩
 replace hF:Since R w w':=hs.elim (fun e=>e▸hF) (fun r=>Since.rely T hF r)
 clear hs
 walk_nrm
 co_go T (Since.rely T) hF (co_quiet T)
 co_apply wpC_cond T (t:=false)
 focus (exact rfl)
 simp only [Bool.false_eq_true,if_false]
 co_go T (Since.rely T) hF (co_quiet T)
 co_apply opsC_call T rfl (by rfl) rfl
 ·walk_nrm
  exact hm _ _ hx
 rintro v w' ⟨rfl,hs⟩
 replace hF:Since R w w':=hs.elim (fun e=>e▸hF) (fun r=>Since.rely T hF r)
 clear hs
 walk_nrm
 have e6:IntKind.i64.wrap (6-x % 7)=6-x % 7:=by rw [IntKind.wrap_i64];omega
 co_go T (Since.rely T) hF (co_quiet T)
 try simp only [e6]
 co_apply opsC_call T rfl (by rfl) rfl
 ·walk_nrm
  try simp only [e6]
  exact hm _ _ (h6 x hx)
 rintro v w' ⟨rfl,hs⟩
 replace hF:Since R w w':=hs.elim (fun e=>e▸hF) (fun r=>Since.rely T hF r)
 clear hs
 walk_nrm
 have e7:IntKind.i64.wrap (x+(6-x) % 7)=aC x:=by unfold oC at hx;unfold aC;rw [IntKind.wrap_i64];omega
 co_go T (Since.rely T) hF (co_quiet T)
 exact⟨rfl,_,resultsC_tmp (by rfl) _,by simp [e7],hF⟩
end Go.Proofs.YtljbnicolhhicaaGreatDoor.Sat
end
section
namespace Go.Proofs.YtljbnicolhhicaaGreatDoor.Sat
open Go.Conc Go.ConcX Go.RowKit Go.Conc.Lib Go.ConcX.Gen Go.Sq
instance:Payload:=⟨3⟩
class ShyS (N B':Nat) [Shy (N+5) N]:Prop where
 own:∀ (a:Addr) (wr s:Bool),N<=a.block->a.block≠N+5->a.block<B'->(s=true->N+6<=a.block)->Shy.ok (N+5) N (.access ⟨.cell a,wr,s⟩)
 room:Shy.ok (N+5) N (.mark .noRoom)
def iK(N:Nat):Loc->Prop:=fun l=>∃a,l= .cell a/\N+6<=a.block
def days(d:Int):Nat->List Value
 |0=> []
 |n+1=> .int .i64 d :: days (d+7) n
structure WK(N:Nat)(x:Int)(w:World):Prop where
 blk:w.1[N]? =some (.cells #[.int .i64 x] 3)
 dv:w.cell? ⟨N+2,0,none⟩=some (.chan (some (N+1)))
 ev:w.cell? ⟨N+4,0,none⟩=some (.chan (some (N+3)))
theorem WK.xb{N:Nat}{x:Int}{w:World}(h:WK N x w):w.cell? ⟨N,0,none⟩=some (.int .i64 x):=by simp [World.cell?,h.blk]
theorem WK.of{N:Nat}{x:Int}{w w₁:World}(h:WK N x w)(h0:w₁.1[N]? =w.1[N]?)(h2:w₁.1[N+2]? =w.1[N+2]?)(h4:w₁.1[N+4]? =w.1[N+4]?):WK N x w₁:=
 ⟨h0.trans h.blk,(World.cell?_of_block h2).trans h.dv,(World.cell?_of_block h4).trans h.ev⟩
theorem WK.rs{N:Nat}{x:Int}{w w₁:World}(h:WK N x w)(r:RS (N+5) (N+6) (N+1) (N+3) w w₁):WK N x w₁:=
 h.of (r _ vO vO vO vO) (r _ vO vO vO vO) (r _ vO vO vO vO)
def WKt(N:Nat)(x:Int)[Shy (N+5) N](w:World):Prop:=WK N x w/\KCa 226 (N+5) w
theorem WKt.rca{N:Nat}{x:Int}[Shy (N+5) N]{w w₁:World}(h:WKt N x w)(r:RCa 226 (N+5) (N+6) w w₁):WKt N x w₁:=
 ⟨h.1.of (r.low _ vO vO) (r.low _ vO vO) (r.low _ vO vO),r.k h.2⟩
theorem WKt.full{N:Nat}{x:Int}[Shy (N+5) N]{w:World}(h:WKt N x w):Full N [.int .i64 x] w:=fun _=>h.1.blk
theorem aaI{N B':Nat}[Shy (N+5) N][ShyS N B'](a:Addr)(h0:N<=a.block)(h:a.block<N+5)(hB:a.block<B')(hC:a.block≠N):EvQ (iK N) (N+5) N 1 ⟨.cell a,false,false⟩:=by
 refine⟨fun fn pos=>⟨rfl,fun x hx=> ?_,by rw [ofEvent_cell];simp,by rw [ofEvent_cell];exact ShyS.own (B':=B') a false false h0 vO hB vS⟩,vS,vS,vS⟩
 simp only [ofEvent_cell,MemAct.touch?,Option.some.injEq]at hx
 subst hx
 refine⟨.inr (.inr ⟨rfl,rfl,fun⟨y,hy,hyb⟩=> ?_⟩),fun hs=> ?_,fun⟨y,hy,hyb,_⟩=> ?_⟩
 ·cases hy;omega
 ·rcases hs with ⟨y,hy,hyb⟩|hs
  ·cases hy;omega
  ·cases hs
 ·cases hy;exact absurd hyb hC
theorem evQ_x{N:Nat}[Shy (N+5) N]:EvQ (iK N) (N+5) N 1 ⟨.cell ⟨N,0,none⟩,false,false⟩:=
 ⟨fun fn pos=>by rw [ofEvent_cell];exact okOp_theirs rfl (show N≠N+5 by omega) _,vS,vS,vS⟩
def bW:Frame:=baseD 182
noncomputable def OZ:Frame:={(default:Frame)with fn:=Tryz.prog.funcs.size,defers:= [],mode:= .panicking [goexitEntry]}
noncomputable def yK:Code:=Tryz.f182.body.getD .skip
noncomputable def jk:Array Oper:=match yK with| .seq _ (.region _ ops _)=>ops|_=> #[]
noncomputable def PG:Code:=Tryz.f184.body.getD .skip
noncomputable def EO:Code:=match PG with| .seq _ (.block _ (.loop c))=>c|_=> .skip
noncomputable def Yp:Array Oper:=match EO with| .seq (.block _ (.seq _ (.seq (.region _ ops _) _))) _=>ops|_=> #[]
noncomputable def aftG:Code:=match EO with| .seq (.block _ (.seq _ (.seq _ c))) _=>c|_=> .skip
noncomputable def UZ:Code:=match EO with| .seq _ c=>c|_=> .skip
def Lu(N:Nat):Deferred:={target:= .fn (.func 182) #[.pointer (some ⟨N+5,0,none⟩),.pointer (some ⟨N,0,none⟩),.pointer (some ⟨N+2,0,none⟩),.pointer (some ⟨N+4,0,none⟩)],args:= #[]}
noncomputable def frW(N:Nat)(x:Int):Frame:=bW.at ⟨#[.pointer (some ⟨N+5,0,none⟩),.pointer (some ⟨N,0,none⟩),.pointer (some ⟨N+2,0,none⟩),.pointer (some ⟨N+4,0,none⟩),.int .i64 x,.int .i64 (aC x),.chan (some (N+1)),.chan (some (N+3)),undef],[dcall 183 #[.pointer (some ⟨N+5,0,none⟩)]]⟩ [.inRegion jk [4]]
noncomputable def He(N:Nat)(x d:Int)(v8 v9 v13 v14 v15 v16:Value):Goroutine:=
 G ((base 184).at ⟨#[.int .i64 (aC x),.chan (some (N+1)),.chan (some (N+3)),undef,undef,undef,.int .i64 d,.int .i64 (aC x),v8,v9,.chan (some (N+1)),.int .i64 d,.chan (some (N+3)),v13,v14,v15,v16],[]⟩
  [.inRegion Yp [0,1,2,3],.code aftG,.inBlock 1,.code UZ,.inLoop EO,.inBlock 0]) [frW N x,OZ]
theorem V9(N:Nat)(x d:Int)(v8 v9 v13 v14 v15 v16:Value)(w:World):stepG Tryz.prog false (He N x d v8 v9 v13 v14 v15 v16) w=
  .comm (core (He N x d v8 v9 v13 v14 v15 v16)) (bB (N+1) (N+3) (.int .i64 d) (.int .i64 0) (.agg #[])) true .select w #[]:=by
 unfold He Yp
 simp only [EO,PG,Tryz.f184,Option.getD_some]
 rw [stepG_comm rfl rfl vD (cases:=bB (N+1) (N+3) (.int .i64 d) (.int .i64 0) (.agg #[])) (blocking:=true) (shape:= .select) (w':=w) (by simp [go_sem,execOp,bB,rcase,scase,Act.eval]),listed_none (by simp [go_sem,execOp,Act.eval])]
 rfl
theorem ZK(N:Nat)(d:Int):commResult (bB (N+1) (N+3) (.int .i64 d) (.int .i64 0) (.agg #[])) .select 0 undef false= .tuple #[goInt 0,.bool false,.agg #[]]:=by
 simp [commResult,bB,rcase,scase,List.zipIdx_cons]
theorem aak(N:Nat)(d:Int):commResult (bB (N+1) (N+3) (.int .i64 d) (.int .i64 0) (.agg #[])) .select 1 (.agg #[]) false= .tuple #[goInt 1,.bool false,.agg #[]]:=by
 simp [commResult,bB,rcase,scase,List.zipIdx_cons]
theorem abY(T:Array Value):QuitsD Tryz.prog 2 0 (G {bW.at ⟨T,[]⟩ []with mode:= .returning} [OZ]):=by
 refine QuitsD.ctl (g':=G OZ []) rfl (fun w=> ?_) ?_
 ·simp [G,stepG,unwind,doReturn,results,Frame.at,bW,baseD,OZ,Tryz.func182,Tryz.f182,seen,GStep.after,goexitEntry]
 refine QuitsD.ctl (g':={G OZ []with status:= .finished}) rfl (fun w=> ?_) ⟨rfl,rfl⟩
 simp [G,stepG,unwind,OZ,goexitEntry,Frame.catches]
 rfl
section
variable {N B':Nat} [Shy (N+5) N] [ShyS N B'] {x:Int}
theorem shutW(d:Int)(v8 v9 v13 v14 v15 v16:Value)(w:World)(hK:WK N x w)(hk:KCa 226 (N+5) w):
  Goes Tryz.prog false (RCa 226 (N+5) (N+6)) (DCs (iK N) (N+5) N) (AtR0 Tryz.prog 226 (N+5) N (N+6) [.int .i64 x]) (12+23)
   (Go.Conc.served (core (He N x d v8 v9 v13 v14 v15 v16)) (commResult (bB (N+1) (N+3) (.int .i64 d) (.int .i64 0) (.agg #[])) .select 1 (.agg #[]) false)) w:=by
 have hF:WKt N x w:=⟨hK,hk⟩
 rw [aak]
 show Goes _ _ _ _ _ _ (Go.Conc.served (He N x d v8 v9 v13 v14 v15 v16) _) _
 unfold He frW
 rw [served_fr,Frame.finish_at]
 simp only [Yp,aftG,UZ,EO,PG,jk,yK,Tryz.f184,Tryz.f182,Option.getD_some]
 walk_nrm
 u_op WKt.rca hF
 u_op WKt.rca hF
 u_op WKt.rca hF
 u_c stepG_region_end WKt.rca hF
 u_c stepG_block WKt.rca hF
 u_cond false WKt.rca hF
 u_cond true WKt.rca hF
 u_c stepG_ret' WKt.rca hF
 u_leave0 Tryz.func184 WKt.rca hF
 u_c stepG_region_end WKt.rca hF
 u_c stepG_end WKt.rca hF
 u_unwB WKt.rca hF Tryz.func183 (nm_done Tryz.link) Tryz.f183
 have hA:= @doneD _ Tryz.link Tryz.prog Tryz.UC (iK N) (N+5) N (N+6) _ [.int .i64 x] vO vO vO
 simp only [body_done,doneFn,Option.getD_some]at hA
 exact hA rfl (abY _) _ ⟨hF.2,hF.full⟩
end
end Go.Proofs.YtljbnicolhhicaaGreatDoor.Sat
end
section
namespace Go.Proofs.YtljbnicolhhicaaGreatDoor.Sat
open Go.Conc Go.ConcX Go.RowKit Go.Conc.Lib Go.ConcX.Gen Go.Sq
section
variable {N B':Nat} [Shy (N+5) N] [ShyS N B'] {x:Int}
abbrev StB(N:Nat)[Shy (N+5) N](x:Int)(vs:List Value):Goroutine->World->Prop:=StopB Tryz.prog 226 (N+5) N (N+6) (N+1) (N+3) [.int .i64 x] (iK N) (.int .i64 0) (.agg #[]) vs
abbrev WaB(N:Nat)[Shy (N+5) N](x:Int)(vs:List Value)(m:Nat)(g:Goroutine)(w:World):Prop:=yR Tryz.prog 226 (N+5) N (N+6) (N+1) (N+3) [.int .i64 x] (iK N) (.int .i64 0) (.agg #[]) vs m g w
theorem YC(d:Int)(v8 v9 v13 v14 v15 v16:Value)(w:World)(hK:WK N x w):
  FI Tryz.prog 226 (N+5) N (N+6) (N+1) (N+3) [.int .i64 x] (iK N) (.int .i64 0) (.agg #[]) (.int .i64 d) (He N x d v8 v9 v13 v14 v15 v16) w:=
 ⟨rfl,V9 N x d v8 v9 v13 v14 v15 v16 w,fun w₂ h hk=>⟨_,shutW d v8 v9 v13 v14 v15 v16 w₂ (hK.rs h) hk⟩⟩
theorem selB:∀ (n:Nat) (d:Int), -9223372036854775808<=d->d+7*n<=9223372036854775807->∀ (v8 v9 v13 v14 v15 v16:Value) (w:World),WK N x w->StB N x (days d n) (He N x d v8 v9 v13 v14 v15 v16) w:=by
 intro n
 induction n with
 |zero=>intro d h1 h2 v8 v9 v13 v14 v15 v16 w hK;exact⟨_,YC d v8 v9 v13 v14 v15 v16 w hK⟩
 |succ n ih=>
  intro d h1 h2 v8 v9 v13 v14 v15 v16 w hK
  refine⟨YC d v8 v9 v13 v14 v15 v16 w hK,fun w₂ h=>⟨40, ?_⟩⟩
  have hF:=hK.rs h
  have ih':=ih (d+7) vO vO
  have e7:IntKind.i64.wrap (d+7)=d+7:=by rw [IntKind.wrap_i64];omega
  rw [ZK]
  show Goes _ _ _ _ _ _ (Go.Conc.served (He N x d v8 v9 v13 v14 v15 v16) _) _
  unfold He frW at ih'⊢
  rw [served_fr,Frame.finish_at]
  simp only [Yp,aftG,UZ,EO,PG,jk,yK,Tryz.f184,Tryz.f182,Option.getD_some]at ih'⊢
  walk_nrm
  u_op WK.rs hF
  u_op WK.rs hF
  u_op WK.rs hF
  u_c stepG_region_end WK.rs hF
  u_c stepG_block WK.rs hF
  u_cond true WK.rs hF
  u_c stepG_skip WK.rs hF
  u_c stepG_inBlock WK.rs hF
  u_c stepG_inBlock WK.rs hF
  u_reg WK.rs hF
  u_op WK.rs hF
  u_op WK.rs hF
  try simp only [e7]
  u_op WK.rs hF
  u_c stepG_region_end WK.rs hF
  u_c stepG_inLoop WK.rs hF
  u_c stepG_seq WK.rs hF
  u_c stepG_block WK.rs hF
  u_c stepG_seq WK.rs hF
  u_c stepG_seq WK.rs hF
  u_c stepG_seq WK.rs hF
  u_reg WK.rs hF
  u_op WK.rs hF
  u_c stepG_region_end WK.rs hF
  u_reg WK.rs hF
  u_op WK.rs hF
  u_c stepG_region_end WK.rs hF
  u_reg WK.rs hF
  u_op WK.rs hF
  u_c stepG_region_end WK.rs hF
  u_c stepG_seq WK.rs hF
  u_reg WK.rs hF
  exact Goes.stop fun w₃ r=>ih' _ _ _ _ _ _ w₃ (hF.rs r)
end
noncomputable def stW(N:Nat)(v4 v5 v6 v7:Value)(l:List Nat):Goroutine:=
 G (bW.at ⟨#[.pointer (some ⟨N+5,0,none⟩),.pointer (some ⟨N,0,none⟩),.pointer (some ⟨N+2,0,none⟩),.pointer (some ⟨N+4,0,none⟩),v4,v5,v6,v7,undef],[dcall 183 #[.pointer (some ⟨N+5,0,none⟩)]]⟩ [.inRegion jk l]) [OZ]
theorem XB(N:Nat)[Shy (N+5) N]:Terms (RS (N+5) (N+6) (N+1) (N+3)) (DCs (iK N) (N+5) N):=⟨fun _ _ _ h k=>h.trans k,fun _=>⟨Aside.refl _ _,vS⟩⟩
theorem WK.since{N:Nat}{x:Int}{w w':World}(h:WK N x w)(s:Since (RS (N+5) (N+6) (N+1) (N+3)) w w'):WK N x w':=s.elim (fun e=>e▸h) (fun r=>h.rs r)
abbrev PW(N:Nat)[Shy (N+5) N](x:Int)(n m:Nat)(v4 v5 v6 v7:Value)(l:List Nat):Prop:=∀w,WK N x w->WaB N x (days (aC x) n) m (stW N v4 v5 v6 v7 l) w
section
variable {N B':Nat} [Shy (N+5) N] [ShyS N B'] {x:Int} {n m:Nat} {v4 v5 v6 v7:Value} {l:List Nat}
include B' in
theorem op0(hB:N+5<B')(h:PW N x n m (.int .i64 x) v5 v6 v7 l):PW N x n (m+1) v4 v5 v6 v7 (0 :: l):=by
 intro w hF
 simp only [stW,jk,yK,Tryz.f182,Option.getD_some]at h⊢
 u_opw WK.rs hF [WK.xb hF] (Aside.refl _ _) evQ_x
 exact h _ hF
include B' in
theorem op2(hB:N+5<B')(h:PW N x n m v4 v5 (.chan (some (N+1))) v7 l):PW N x n (m+1) v4 v5 v6 v7 (2 :: l):=by
 intro w hF
 simp only [stW,jk,yK,Tryz.f182,Option.getD_some]at h⊢
 u_opw WK.rs hF [WK.dv hF] (Aside.refl _ _) (aaI (B':=B') _ vS vS vQ vS)
 exact h _ hF
include B' in
theorem op3(hB:N+5<B')(h:PW N x n m v4 v5 v6 (.chan (some (N+3))) l):PW N x n (m+1) v4 v5 v6 v7 (3 :: l):=by
 intro w hF
 simp only [stW,jk,yK,Tryz.f182,Option.getD_some]at h⊢
 u_opw WK.rs hF [WK.ev hF] (Aside.refl _ _) (aaI (B':=B') _ vS vS vQ vS)
 exact h _ hF
theorem op1{nf:Nat}(hf:∀ (x:Int) (w:World),oC x->CallsC Tryz.prog false (RS (N+5) (N+6) (N+1) (N+3)) (DCs (iK N) (N+5) N) 185 #[.int .i64 x,.int .i64 6] nf w fun v w'=>v= .int .i64 (aC x)/\Since (RS (N+5) (N+6) (N+1) (N+3)) w w')
  (hx:oC x) (h:PW N x n m (.int .i64 x) (.int .i64 (aC x)) v6 v7 l):PW N x n (m+nf+3) (.int .i64 x) v5 v6 v7 (1 :: l):=by
 intro w hF
 simp only [stW,jk,yK,Tryz.f182,Option.getD_some]at h⊢
 co_apply Goes.call (XB N) rfl rfl vD rfl
 ·walk_nrm
  exact hf _ _ hx
 intro v w' hp
 obtain⟨rfl,hs⟩:=hp
 replace hF:=hF.since hs
 clear hs
 walk_nrm
 exact h _ hF
theorem op4(h1: -9223372036854775808<=aC x)(h2:aC x+7*n<=9223372036854775807):PW N x n 40 (.int .i64 x) (.int .i64 (aC x)) (.chan (some (N+1))) (.chan (some (N+3))) [4]:=by
 intro w hF
 have ih':=selB (N:=N) (x:=x) n (aC x) h1 h2
 simp only [stW,He,frW,Yp,aftG,UZ,EO,PG,jk,yK,Tryz.f184,Tryz.f182,Option.getD_some]at ih'⊢
 u_call Tryz.func184 (by rfl) Tryz.f184 WK.rs hF
 u_c stepG_seq WK.rs hF
 u_reg WK.rs hF
 u_op WK.rs hF
 u_op WK.rs hF
 u_c stepG_region_end WK.rs hF
 u_c stepG_block WK.rs hF
 u_c stepG_loop WK.rs hF
 u_c stepG_seq WK.rs hF
 u_c stepG_block WK.rs hF
 u_c stepG_seq WK.rs hF
 u_c stepG_seq WK.rs hF
 u_c stepG_seq WK.rs hF
 u_reg WK.rs hF
 u_op WK.rs hF
 u_c stepG_region_end WK.rs hF
 u_reg WK.rs hF
 u_op WK.rs hF
 u_c stepG_region_end WK.rs hF
 u_reg WK.rs hF
 u_op WK.rs hF
 u_c stepG_region_end WK.rs hF
 u_c stepG_seq WK.rs hF
 u_reg WK.rs hF
 exact Goes.stop fun w₃ r=>ih' _ _ _ _ _ _ w₃ (hF.rs r)
theorem aa0:Tryz.prog.follows .mixedOrders=true:=vK
theorem abL:Region.ready .any jk #[false,false,false,false,false]= [0,2,3]:=vK
theorem abN:Region.ready .any jk #[false,false,false,true,false]= [0,2]:=vK
theorem ab5:Region.ready .any jk #[false,false,true,false,false]= [0,3]:=vK
theorem ab4:Region.ready .any jk #[false,false,true,true,false]= [0]:=vK
theorem abq:Region.ready .any jk #[true,false,false,false,false]= [1,2,3]:=vK
theorem abr:Region.ready .any jk #[true,false,false,true,false]= [1,2]:=vK
theorem abz:Region.ready .any jk #[true,false,true,false,false]= [1,3]:=vK
theorem abQ:Region.ready .any jk #[true,false,true,true,false]= [1]:=vK
theorem abK:Region.ready .any jk #[true,true,false,false,false]= [2,3]:=vK
theorem abt:Region.ready .any jk #[true,true,false,true,false]= [2]:=vK
theorem aa5:Region.ready .any jk #[true,true,true,false,false]= [3]:=vK
theorem abm:Region.ready .any jk #[true,true,true,true,false]= [4]:=vK
theorem PW.mono{m':Nat}(h:PW N x n m v4 v5 v6 v7 l)(hm:m<=m'):PW N x n m' v4 v5 v6 v7 l:=fun w hF=>Goes.mono (h w hF) hm
theorem fU{L:Array Bool}{k:Nat}{rs:List Nat}(hr:Region.ready .any jk L=rs)(hne:rs≠ [])(h:Ord .any jk (k+1) L l):∃i l',l=i :: l'/\i∈rs/\Ord .any jk k (L.setIfInBounds i true) l':=by
 cases h with
 |stop h=>exact absurd (hr.symm.trans h) hne
 |cons h1 h2=>exact⟨_,_,rfl,hr▸h1,h2⟩
section
variable {nf:Nat} (hf:∀ (x:Int) (w:World),oC x->CallsC Tryz.prog false (RS (N+5) (N+6) (N+1) (N+3)) (DCs (iK N) (N+5) N) 185 #[.int .i64 x,.int .i64 6] nf w fun v w'=>v= .int .i64 (aC x)/\Since (RS (N+5) (N+6) (N+1) (N+3)) w w')
 (hx:oC x) (h1: -9223372036854775808<=aC x) (h2:aC x+7*n<=9223372036854775807) (hB:N+5<B')
include hf hx h1 h2 hB
theorem s211(h:Ord .any jk 1 #[true,true,true,true,false] l):PW N x n (40) (.int .i64 x) (.int .i64 (aC x)) (.chan (some (N+1))) (.chan (some (N+3))) l:=by
 obtain⟨i,l',rfl,hi,h⟩:=fU abm vS h
 obtain rfl:i=4:=by simpa using hi
 rw [aal h]
 exact(op4 h1 h2).mono vO
theorem s210(h:Ord .any jk 2 #[true,true,true,false,false] l):PW N x n (40+1) (.int .i64 x) (.int .i64 (aC x)) (.chan (some (N+1))) undef l:=by
 obtain⟨i,l',rfl,hi,h⟩:=fU aa5 vS h
 obtain rfl:i=3:=by simpa using hi
 exact(op3 (B':=B') hB (s211 hf hx h1 h2 hB h)).mono vO
theorem s201(h:Ord .any jk 2 #[true,true,false,true,false] l):PW N x n (40+1) (.int .i64 x) (.int .i64 (aC x)) undef (.chan (some (N+3))) l:=by
 obtain⟨i,l',rfl,hi,h⟩:=fU abt vS h
 obtain rfl:i=2:=by simpa using hi
 exact(op2 (B':=B') hB (s211 hf hx h1 h2 hB h)).mono vO
theorem s200(h:Ord .any jk 3 #[true,true,false,false,false] l):PW N x n (40+1+1) (.int .i64 x) (.int .i64 (aC x)) undef undef l:=by
 obtain⟨i,l',rfl,hi,h⟩:=fU abK vS h
 simp only [List.mem_cons,List.not_mem_nil,or_false]at hi
 rcases hi with rfl|rfl
 ·exact(op2 (B':=B') hB (s210 hf hx h1 h2 hB h)).mono vO
 ·exact(op3 (B':=B') hB (s201 hf hx h1 h2 hB h)).mono vO
theorem s111(h:Ord .any jk 2 #[true,false,true,true,false] l):PW N x n (40+(nf+3)) (.int .i64 x) undef (.chan (some (N+1))) (.chan (some (N+3))) l:=by
 obtain⟨i,l',rfl,hi,h⟩:=fU abQ vS h
 obtain rfl:i=1:=by simpa using hi
 exact(op1 hf hx (s211 hf hx h1 h2 hB h)).mono vO
theorem s110(h:Ord .any jk 3 #[true,false,true,false,false] l):PW N x n (40+(nf+3)+1) (.int .i64 x) undef (.chan (some (N+1))) undef l:=by
 obtain⟨i,l',rfl,hi,h⟩:=fU abz vS h
 simp only [List.mem_cons,List.not_mem_nil,or_false]at hi
 rcases hi with rfl|rfl
 ·exact(op1 hf hx (s210 hf hx h1 h2 hB h)).mono vO
 ·exact(op3 (B':=B') hB (s111 hf hx h1 h2 hB h)).mono vO
theorem s101(h:Ord .any jk 3 #[true,false,false,true,false] l):PW N x n (40+(nf+3)+1) (.int .i64 x) undef undef (.chan (some (N+3))) l:=by
 obtain⟨i,l',rfl,hi,h⟩:=fU abr vS h
 simp only [List.mem_cons,List.not_mem_nil,or_false]at hi
 rcases hi with rfl|rfl
 ·exact(op1 hf hx (s201 hf hx h1 h2 hB h)).mono vO
 ·exact(op2 (B':=B') hB (s111 hf hx h1 h2 hB h)).mono vO
theorem s100(h:Ord .any jk 4 #[true,false,false,false,false] l):PW N x n (40+(nf+3)+1+1) (.int .i64 x) undef undef undef l:=by
 obtain⟨i,l',rfl,hi,h⟩:=fU abq vS h
 simp only [List.mem_cons,List.not_mem_nil,or_false]at hi
 rcases hi with rfl|rfl|rfl
 ·exact(op1 hf hx (s200 hf hx h1 h2 hB h)).mono vO
 ·exact(op2 (B':=B') hB (s110 hf hx h1 h2 hB h)).mono vO
 ·exact(op3 (B':=B') hB (s101 hf hx h1 h2 hB h)).mono vO
theorem s011(h:Ord .any jk 3 #[false,false,true,true,false] l):PW N x n (40+(nf+3)+1) undef undef (.chan (some (N+1))) (.chan (some (N+3))) l:=by
 obtain⟨i,l',rfl,hi,h⟩:=fU ab4 vS h
 obtain rfl:i=0:=by simpa using hi
 exact(op0 (B':=B') hB (s111 hf hx h1 h2 hB h)).mono vO
theorem s010(h:Ord .any jk 4 #[false,false,true,false,false] l):PW N x n (40+(nf+3)+1+1) undef undef (.chan (some (N+1))) undef l:=by
 obtain⟨i,l',rfl,hi,h⟩:=fU ab5 vS h
 simp only [List.mem_cons,List.not_mem_nil,or_false]at hi
 rcases hi with rfl|rfl
 ·exact(op0 (B':=B') hB (s110 hf hx h1 h2 hB h)).mono vO
 ·exact(op3 (B':=B') hB (s011 hf hx h1 h2 hB h)).mono vO
theorem s001(h:Ord .any jk 4 #[false,false,false,true,false] l):PW N x n (40+(nf+3)+1+1) undef undef undef (.chan (some (N+3))) l:=by
 obtain⟨i,l',rfl,hi,h⟩:=fU abN vS h
 simp only [List.mem_cons,List.not_mem_nil,or_false]at hi
 rcases hi with rfl|rfl
 ·exact(op0 (B':=B') hB (s101 hf hx h1 h2 hB h)).mono vO
 ·exact(op2 (B':=B') hB (s011 hf hx h1 h2 hB h)).mono vO
theorem s000(h:Ord .any jk 5 #[false,false,false,false,false] l):PW N x n (40+(nf+3)+1+1+1) undef undef undef undef l:=by
 obtain⟨i,l',rfl,hi,h⟩:=fU abL vS h
 simp only [List.mem_cons,List.not_mem_nil,or_false]at hi
 rcases hi with rfl|rfl|rfl
 ·exact(op0 (B':=B') hB (s100 hf hx h1 h2 hB h)).mono vO
 ·exact(op2 (B':=B') hB (s010 hf hx h1 h2 hB h)).mono vO
 ·exact(op3 (B':=B') hB (s001 hf hx h1 h2 hB h)).mono vO
end
theorem abT(N:Nat)(w:World):stepG Tryz.prog false (born Tryz.prog (Lu N)) w=
  .go (G (bW.at ⟨#[.pointer (some ⟨N+5,0,none⟩),.pointer (some ⟨N,0,none⟩),.pointer (some ⟨N+2,0,none⟩),.pointer (some ⟨N+4,0,none⟩),undef,undef,undef,undef,undef],[]⟩ [.code yK]) [OZ]) w #[]:=by
 simp [born,Lu,stepG,unwind,callDeferred,invoke,callFunc,Tryz.func182,Tryz.f182,seen,GStep.after,G,Frame.enter,Frame.at,bW,baseD,OZ,yK]
include B' in
theorem workW(hx:oC x)(h1: -9223372036854775808<=aC x)(h2:aC x+7*n<=9223372036854775807)(hB:N+5<B')(w:World)(hF:WK N x w):∃m,WaB N x (days (aC x) n) m (born Tryz.prog (Lu N)) w:=by
 obtain⟨nf,hf⟩:=abC (main:=false) (XB N)
 refine⟨(40+(nf+3)+1+1+1)+6,Goes.step rfl fun w₁ r₁=> ?_⟩
 rw [abT]
 refine⟨⟨Aside.refl _ _,vS⟩, ?_⟩
 replace hF:=hF.rs r₁
 clear r₁
 have key:=fun l h=>s000 (l:=l) hf hx h1 h2 hB h
 simp only [stW,yK,jk,Tryz.f182,Option.getD_some]at key⊢
 u_c stepG_seq WK.rs hF
 u_reg WK.rs hF
 u_defer WK.rs hF
 u_c stepG_region_end WK.rs hF
 u_in WK.rs hF
 rw [stepG_region_draw]
 refine⟨⟨⟨rfl,rfl,rfl,rfl,fun _ _=>rfl⟩,vS⟩, ?_⟩
 exact key _ (M9 aa0 _) _ ⟨hF.blk,hF.dv,hF.ev⟩
end
end Go.Proofs.YtljbnicolhhicaaGreatDoor.Sat
end
section
namespace Go.Proofs.YtljbnicolhhicaaGreatDoor.Sat
open Go.Conc Go.ConcX Go.RowKit Go.Conc.Lib Go.ConcX.Gen Go.Sq
structure Hid(N:Nat)(w w₁:World):Prop where
 tape:w₁.tape=w.tape
 os:w₁.os=w.os
 output:w₁.output=w.output
 size:w₁.1.size=w.1.size
 block:∀k,k≠N->k≠N+1->k≠N+3->k≠N+5->w₁.1[k]? =w.1[k]?
theorem Hid.refl(N:Nat)(w:World):Hid N w w:=⟨rfl,rfl,rfl,rfl,fun _ _ _ _ _=>rfl⟩
theorem Hid.trans{N:Nat}{a b c:World}(h:Hid N a b)(h':Hid N b c):Hid N a c:=⟨h'.tape.trans h.tape,h'.os.trans h.os,h'.output.trans h.output,h'.size.trans h.size,fun k a b c d=>(h'.block k a b c d).trans (h.block k a b c d)⟩
theorem Hid.of1{N:Nat}{w w₁:World}(h:Aside N w w₁):Hid N w w₁:=⟨h.tape,h.os,h.output,h.size,fun k a _ _ _=>h.block k a⟩
theorem Hid.ofD{N:Nat}{w w₁:World}(h:Aside2 N (N+1) w w₁):Hid N w w₁:=⟨h.tape,h.os,h.output,h.size,fun k a b _ _=>h.block k a b⟩
theorem Hid.ofW{N:Nat}{w w₁:World}(h:Aside2 N (N+5) w w₁):Hid N w w₁:=⟨h.tape,h.os,h.output,h.size,fun k a _ _ b=>h.block k a b⟩
theorem Hid.ofE{N:Nat}{w:World}{cap s r:Nat}{buf:Array Value}{cl tm:Bool}:Hid N w (w.setChan (N+3) cap buf cl s r tm):=⟨rfl,rfl,rfl,by simp [World.setChan],fun k _ _ a _=>bR a⟩
theorem Hid.ofA{N:Nat}{w w₁:World}(h:AtRel w w₁):Hid N w w₁:= .of1 (Sq.Aside.Au h)
structure KOk(N:Nat)(x to:Int)(KP:List Value->Value->World->Prop):Prop where
 hid:∀{xs:List Value} {out:Value} {w w₁:World},KP xs out w->Hid N w w₁->KP xs out w₁
 app:∀{xs:List Value} {out out':Value} {w w₂ w₃:World},KP xs out w->aC x+7*xs.length<=to->Hid N (w.alloc (.cells #[.int .i64 (aC x+7*xs.length)] 3)) w₂->
  (Builtin.append_ #[154,154] 154 #[out,.slice (some ⟨w.1.size,0,none⟩) 1 1]).run Tryz.prog w₂= .ok out' w₃->KP (xs++ [.int .i64 (aC x+7*xs.length)]) out' w₃
structure AF(N:Nat)(KP:List Value->Value->World->Prop)(out:Value)(xs:List Value)(w:World):Prop where
 own:w.ownsRow (N+6) 3 1 out xs.length xs
 size:N+6<=w.1.size
 top:w.1.size<=N+6+2*xs.length
 dv:w.cell? ⟨N+2,0,none⟩=some (.chan (some (N+1)))
 ev:w.cell? ⟨N+4,0,none⟩=some (.chan (some (N+3)))
 kp:KP xs out w
section
variable {N:Nat} {x to:Int} {v3:Value} {KP:List Value->Value->World->Prop} (hK:KOk N x to KP)
include hK
theorem AF.hid{out:Value}{xs:List Value}{w w₁:World}(h:AF N KP out xs w)(r:Hid N w w₁):AF N KP out xs w₁:=by
 refine⟨⟨h.own.1, ?_⟩,by rw [r.size];exact h.size,by rw [r.size];exact h.top,(World.cell?_of_block (r.block (N+2) vO vO vO vO)).trans h.dv,
  (World.cell?_of_block (r.block (N+4) vO vO vO vO)).trans h.ev,hK.hid h.kp r⟩
 rcases h.own.2 with h0|⟨g,cp,cur,e,hg,hh,r2⟩
 ·exact .inl h0
 ·exact .inr ⟨g,cp,cur,e,hg,(r.block g vO vO vO vO).trans hh,r2⟩
theorem AF.rs{out:Value}{xs:List Value}{w w₁:World}(h:AF N KP out xs w)(r:Aside N w w₁):AF N KP out xs w₁:=h.hid hK (.of1 r)
end
theorem qR{N B':Nat}[Shy (N+5) N][ShyS N B'](a:Addr)(wr s:Bool)(h0:N<=a.block)(h:a.block≠N+5)(hB:a.block<B')(hC:a.block≠N)(hw:wr=true->N+6<=a.block)(hs:s=true->N+6<=a.block):EvQ (iK N) (N+5) N 0 ⟨.cell a,wr,s⟩:=by
 refine⟨fun fn pos=>⟨rfl,fun y hy=> ?_,by rw [ofEvent_cell];simp,by rw [ofEvent_cell];exact ShyS.own (B':=B') a wr s h0 h hB hs⟩,vS,vS,vS⟩
 simp only [ofEvent_cell,MemAct.touch?,Option.some.injEq]at hy
 subst hy
 refine⟨.inr (.inl ⟨rfl,fun e=>⟨a,rfl,hw e⟩⟩),fun hs=> ?_,fun⟨y,hy,hyb,_⟩=> ?_⟩
 ·rcases hs with ⟨y,hy,hyb⟩|hs
  ·cases hy;exact absurd hyb h
  ·cases hs
 ·cases hy;exact absurd hyb hC
theorem VO{N B':Nat}[Shy (N+5) N][ShyS N B']{m:Mark}(h:Neutral m):EvQ (iK N) (N+5) N 0 ⟨.mark m,false,true⟩:=by
 unfold Neutral at h
 subst h
 exact⟨fun fn pos=>⟨rfl,fun y hy=>(by simp [MemAct.ofEvent,MemAct.touch?]at hy),by simp [MemAct.ofEvent],by simpa [MemAct.ofEvent]using ShyS.room (N:=N) (B':=B')⟩,vS,vS,vS⟩
theorem uponK_append{P:Program}{o:Oper}{a:Act}{K:Act->World->Prop}{w w':World}{v xv v':Value}(s y:Operand)(t:TypeId)
  (ho:o.op= .call {callee:= .builtin .append,args:= #[s,y],argTypes:= #[t,t]}) (hs:a.eval s=v) (hx:a.eval y=xv)
  (hr:(Builtin.append_ #[t,t] o.type #[v,xv]).run P w= .ok v' w') (h:K (a.put o.dst v') w'):uponK o a K ((execOp a.eval o).run P w):=by
 have e:(execOp a.eval o).run P w= .ok (.value v') w':=by
  unfold execOp
  simp [ho,resolve,invoke,builtin,hs,hx,hr]
 rw [e]
 exact h
theorem events_append_op{P:Program}{o:Oper}{a:Act}{w:World}{v xv:Value}(s y:Operand)(t:TypeId)
  (ho:o.op= .call {callee:= .builtin .append,args:= #[s,y],argTypes:= #[t,t]}) (hs:a.eval s=v) (hx:a.eval y=xv) (es:Array Event):
  (execOp a.eval o).events P w es=(Builtin.append_ #[t,t] o.type #[v,xv]).events P w es:=by
 unfold execOp
 simp only [ho,resolve,invoke,builtin,Sem.events_bind,Sem.run_pure,Sem.events_pure,Result.evThen_ok,List.map_toArray,List.map_cons,List.map_nil,hs,hx]
 cases (Builtin.append_ #[t,t] o.type #[v,xv]).run P w <;> rfl
noncomputable def nV:Code:=Tryz.f160.body.getD .skip
noncomputable def tl4:Code:=match nV with| .seq _ (.seq _ (.seq _ (.seq _ c)))=>c|_=> .skip
noncomputable def tl5:Code:=match tl4 with| .seq _ c=>c|_=> .skip
noncomputable def aaE:Array Oper:=match tl5 with| .seq (.region _ ops _) _=>ops|_=> #[]
noncomputable def tl6:Code:=match tl5 with| .seq _ c=>c|_=> .skip
noncomputable def ops7S:Array Oper:=match tl6 with| .seq _ (.seq (.seq (.region _ ops _) _) _)=>ops|_=> #[]
noncomputable def Ul:Code:=match tl6 with| .seq _ (.seq (.seq _ c) _)=>c|_=> .skip
noncomputable def LB:Code:=match Ul with| .block _ (.loop c)=>c|_=> .skip
noncomputable def ops9S:Array Oper:=match LB with| .seq _ (.seq _ (.region _ ops _))=>ops|_=> #[]
noncomputable def mX:Code:=match tl6 with| .seq _ (.seq _ c)=>c|_=> .skip
noncomputable def SV:Array Oper:=match mX with| .seq (.region _ ops _) _=>ops|_=> #[]
noncomputable def PZ:Code:=match mX with| .seq _ c=>c|_=> .skip
noncomputable def Bl:Array Oper:=match PZ with| .seq (.region _ ops _) _=>ops|_=> #[]
noncomputable def FU:Code:=match PZ with| .seq _ c=>c|_=> .skip
def TS(N:Nat)(x to:Int)(v3 out day v12 v13 v14 v15 v16 v17 v18 v19 v20 v21 v22 v23 v24 v25 v26 v27:Value):Array Value:= #[.int .i64 x,.int .i64 to,.pointer (some ⟨N,0,none⟩),v3,.slice none 0 0,.pointer (some ⟨N+2,0,none⟩),.pointer (some ⟨N+4,0,none⟩),.pointer (some ⟨N+5,0,none⟩),out,day,.chan (some (N+1)),.chan (some (N+3)),v12,v13,v14,v15,v16,v17,v18,v19,v20,v21,v22,v23,v24,v25,v26,v27]
section
variable {N B':Nat} [Shy (N+5) N] [ShyS N B'] {x to:Int} {v3:Value} {KP:List Value->Value->World->Prop} {cs:List Frame}
variable (N x to v3 KP cs) in
def AnS(g:Goroutine)(w:World):Prop:=∃ (out:Value) (xs:List Value) (day v12 v13 v14 v15 v16 v17 v18 v19 v20 v21 v22 v23 v24 v25 v26 v27:Value),AnchW7 Tryz.link (fun w=>AF N KP out xs w/\to<aC x+7*xs.length) (N+5) N [.int .i64 x]
 ((base 160).at ⟨TS N x to v3 out day v12 v13 v14 v15 v16 v17 v18 v19 v20 v21 v22 v23 v24 v25 v26 v27,[]⟩ (.inRegion Bl (0 :: []) :: [.code FU])) cs g w
abbrev WaA(N:Nat)[Shy (N+5) N](x to:Int)(v3:Value)(KP:List Value->Value->World->Prop)(cs:List Frame)(vs:List Value)(m:Nat)(g:Goroutine)(w:World):Prop:=WalkA Tryz.prog 226 (N+5) N (N+6) (N+1) (N+3) [.int .i64 x] (iK N) (AnS N x to v3 KP cs) (.int .i64 0) vs m g w
variable (hK:KOk N x to KP)
include hK
theorem fj2(out:Value)(xs:List Value):∀w w',Aside2 N (N+5) w w'->(AF N KP out xs w/\to<aC x+7*xs.length)->(AF N KP out xs w'/\to<aC x+7*xs.length):=fun _ _ h1 h2=>⟨h2.1.hid hK (.ofW h1),h2.2⟩
theorem abB(out:Value)(xs:List Value)(day v12 v13 v14 v15 v16 v17 v18 v19 v20 v21 v22 v23 v24 v25 v26 v27:Value)(w:World)(hF:(AF N KP out xs w/\to<aC x+7*xs.length)/\KPa 226 (N+5) N [.int .i64 x] w):
  Goes Tryz.prog true (RPa 226 (N+5) N [.int .i64 x]) (DPi (iK N) (N+5) N (N+6)) (AtKd Tryz.prog 226 (N+5) N (N+6) [.int .i64 x] (iK N) (AnS N x to v3 KP cs)) 7
   (G ((base 160).at ⟨TS N x to v3 out day v12 v13 v14 v15 v16 v17 v18 v19 v20 v21 v22 v23 v24 v25 v26 v27,[]⟩ [.inRegion SV [],.code PZ]) cs) w:=by
 have hA:=waitStart (L:=Tryz.link) (P:=Tryz.prog) Tryz.UC (Mine:=iK N) (Wg:=N+5) (C:=N) (Low:=N+6) (vals:= [.int .i64 x]) (F:=fun w=>AF N KP out xs w/\to<aC x+7*xs.length) (b₀:=base 160) (a₀:=⟨TS N x to v3 out day v12 v13 v14 v15 v16 v17 v18 v19 v20 v21 v22 v23 v24 v25 v26 v27,[]⟩) (ops₀:=Bl) (i₀:=0) (rest₀:= []) (k₀:= [.code FU]) (cs:=cs) (fj2 hK out xs)
 have hB:∀g w,AtKd Tryz.prog 226 (N+5) N (N+6) [.int .i64 x] (iK N) (AnchW7 Tryz.link (fun w=>AF N KP out xs w/\to<aC x+7*xs.length) (N+5) N [.int .i64 x] ((base 160).at ⟨TS N x to v3 out day v12 v13 v14 v15 v16 v17 v18 v19 v20 v21 v22 v23 v24 v25 v26 v27,[]⟩ (.inRegion Bl (0 :: []) :: [.code FU])) cs) g w->
   AtKd Tryz.prog 226 (N+5) N (N+6) [.int .i64 x] (iK N) (AnS N x to v3 KP cs) g w:=fun g w=>VU fun g w h=>⟨out,xs,day,v12,v13,v14,v15,v16,v17,v18,v19,v20,v21,v22,v23,v24,v25,v26,v27,h⟩
 refine iI hB _ ?_
 clear hB
 simp only [TS,SV,Bl,FU,PZ,mX,tl6,tl5,tl4,nV,body_wait,Tryz.f160,waitFn,Option.getD_some]at hA⊢
 u_c stepG_region_end (fa_rely (L:=Tryz.link) (fj2 hK out xs)) hF
 u_c stepG_seq (fa_rely (L:=Tryz.link) (fj2 hK out xs)) hF
 u_reg (fa_rely (L:=Tryz.link) (fj2 hK out xs)) hF
 u_in (fa_rely (L:=Tryz.link) (fj2 hK out xs)) hF
 refine goes_call rfl rfl vD rfl Tryz.func186 (nm_wait Tryz.link) rfl ⟨by u_nil, ?_⟩
 walk_nrmf Tryz.f186
 exact hA _ hF
end
end Go.Proofs.YtljbnicolhhicaaGreatDoor.Sat
end
section
namespace Go.Proofs.YtljbnicolhhicaaGreatDoor.Sat
open Go.Conc Go.ConcX Go.RowKit Go.Conc.Lib Go.ConcX.Gen Go.Sq
theorem core_G(fr:Frame)(cs:List Frame):core (G fr cs)=G fr cs:=rfl
theorem loudS:(Tryz.prog.funcs[160]?).any (·.norace)=false:=vK
theorem aa6:(Tryz.prog.info? 3).map (fun i=>(i.zero,i.size,i.bytes))=some (some (.int .i64 0),1,8):=vK
section
variable {N B':Nat} [Shy (N+5) N] [ShyS N B'] {x to:Int} {v3:Value} {KP:List Value->Value->World->Prop} {cs:List Frame} (hK:KOk N x to KP)
include hK
structure AG(N:Nat)(KP:List Value->Value->World->Prop)(out:Value)(xs:List Value)(w:World):Prop where
 af:AF N KP out xs w
 eo:w.1[N+3]? =some (.chan 0 #[] false 0 0 false)
 wg:w.1[N+5]? =some (wgBlock 226 KK 0)
theorem AG.rs{out:Value}{xs:List Value}{w w₁:World}(h:AG N KP out xs w)(r:Aside N w w₁):AG N KP out xs w₁:=⟨h.af.rs hK r,(r.block _ vO).trans h.eo,(r.block _ vO).trans h.wg⟩
noncomputable def frR(N:Nat)(x to:Int)(v3 out day v12 v13 v14 v15 v16 v17 v18 v19 v20 v21 v22 v23 v24 v25 v26 v27:Value)(k:List Item)(cs:List Frame):Goroutine:=G ((base 160).at ⟨TS N x to v3 out day v12 v13 v14 v15 v16 v17 v18 v19 v20 v21 v22 v23 v24 v25 v26 v27,[]⟩ k) cs
include B' in
theorem finW(hB:N+5<B')(out:Value)(xs:List Value)(day v12 v13 v14 v15 v16 v17 v18 v19 v20 v21 v22 v23 v24 v25 v26 v27:Value)(w:World)(hF:AG N KP out xs w)(hto:to<aC x+7*xs.length):
  WaA N x to v3 KP cs [] 8 (frR N x to v3 out day v12 v13 v14 v15 v16 v17 v18 v19 v20 v21 v22 v23 v24 v25 v26 v27 [.code mX] cs) w:=by
 have hs:=fun w hw=>abB (v3:=v3) (cs:=cs) hK out xs day v12 v13 v14 v15 v16 v17 v18 v19 v20 v21 v22 v23 v24 (.chan (some (N+3))) v26 v27 w hw
 simp only [frR,TS,SV,PZ,mX,tl6,tl5,tl4,nV,Tryz.f160,Option.getD_some]at hs⊢
 u_c stepG_seq (AG.rs hK) hF
 u_reg (AG.rs hK) hF
 u_opw (AG.rs hK) hF [AF.ev (AG.af hF)] (fun _ _=>rfl) (qR (B':=B') _ _ _ vS vS vQ vS vS vS)
 refine Goes.stop fun w₂ r=> ?_
 replace hF:=hF.rs hK r
 refine⟨rfl,rfl,_,rfl,stepG_close rfl rfl vD rfl rfl hF.eo loudS,7, ?_⟩
 walk_nrm
 refine hs _ ⟨⟨hF.af.hid hK .ofE,hto⟩,.inl ?_⟩
 show _=_
 rw [bR vO]
 exact hF.wg
omit hK in
theorem RL{out:Value}{n:Nat}{xs:List Value}{w w₁:World}(h:w.ownsRow (N+6) 3 1 out n xs)(r:Hid N w w₁):w₁.ownsRow (N+6) 3 1 out n xs:=by
 refine⟨h.1, ?_⟩
 rcases h.2 with h0|⟨g,cp,cur,e,hg,hh,r2⟩
 ·exact .inl h0
 ·exact .inr ⟨g,cp,cur,e,hg,(r.block g vO vO vO vO).trans hh,r2⟩
include B' in
theorem headW:∀ (k:Nat) (xs:List Value) (d:Int) (out:Value) (v12 v13 v14 v15 v16 v17 v18 v19 v20 v21 v22 v23 v24 v25 v26 v27:Value) (w:World),d=aC x+7*xs.length->(∀j:Nat,j<k->d+7*j<=to)->to<d+7*k->(xs.length+k+1)*8<=140737488355328->N+6+2*(xs.length+k)+2<B'->
  AG N KP out xs w->WaA N x to v3 KP cs (days (d+7) k) 60 (frR N x to v3 out (.int .i64 d) v12 v13 v14 v15 v16 v17 v18 v19 v20 v21 v22 v23 v24 v25 v26 v27 [.code LB,.inLoop LB,.inBlock 0,.code mX] cs) w:=by
 intro k
 induction k with
 |zero=>
  intro xs d out v12 v13 v14 v15 v16 v17 v18 v19 v20 v21 v22 v23 v24 v25 v26 v27 w hd _ hto hlen hB hF
  subst hd
  have hnl:¬ ((aC x+7*(xs.length:Int))<=to):=vO
  have hfin:=fun v16 v17 v18 w hw=>finW (v3:=v3) (cs:=cs) (B':=B') hK vO out xs (.int .i64 (aC x+7*(xs.length:Int))) v12 v13 v14 v15 v16 v17 v18 v19 v20 v21 v22 v23 v24 v25 v26 v27 w hw vO
  simp only [days]
  simp only [frR,TS,LB,Ul,mX,tl6,tl5,tl4,nV,Tryz.f160,Option.getD_some]at hfin⊢
  u_c stepG_seq (AG.rs hK) hF
  u_c stepG_seq (AG.rs hK) hF
  u_reg (AG.rs hK) hF
  u_op (AG.rs hK) hF
  u_op (AG.rs hK) hF
  u_op (AG.rs hK) hF
  u_c stepG_region_end (AG.rs hK) hF
  try simp only [hnl,decide_false]
  u_cond false (AG.rs hK) hF
  u_exit (AG.rs hK) hF
  exact Goes.mono (hfin _ _ _ _ hF) vO
 | succ k ih=>
  intro xs d out v12 v13 v14 v15 v16 v17 v18 v19 v20 v21 v22 v23 v24 v25 v26 v27 w hd hle hto hlen hB hF
  subst hd
  have hdt:(aC x+7*(xs.length:Int))<=to:=by have:=hle 0 vO;omega
  simp only [days]
  simp only [frR,TS,LB,ops9S,Ul,mX,tl6,tl5,tl4,nV,Tryz.f160,Option.getD_some]at ih⊢
  u_c stepG_seq (AG.rs hK) hF
  u_c stepG_seq (AG.rs hK) hF
  u_reg (AG.rs hK) hF
  u_op (AG.rs hK) hF
  u_op (AG.rs hK) hF
  u_op (AG.rs hK) hF
  u_c stepG_region_end (AG.rs hK) hF
  try simp only [hdt,decide_true]
  u_cond true (AG.rs hK) hF
  u_c stepG_skip (AG.rs hK) hF
  u_c stepG_seq (AG.rs hK) hF
  u_c stepG_block (AG.rs hK) hF
  u_reg (AG.rs hK) hF
  u_op (AG.rs hK) hF
  u_op (AG.rs hK) hF
  -- a new block of one cell
  refine Goes.step rfl (fun w₁ h₁=> ?_)
  replace hF:=hF.rs hK h₁
  clear h₁
  refine goes_oper_k rfl rfl vD (fun K hKK=> ?_)
  go_simp
  refine hKK _ _ ⟨⟨fun b hb=>Below.heap_alloc _ _ _ (by have:=hF.af.size;omega),fun e he=> ?_⟩, ?_⟩
  ·have hm:=mem_listed he
   simp [go_sem]at hm
  clear hKK K
  have hsz:=hF.af.size
  have htop:=hF.af.top
  have hnew:(w₁.alloc (.cells #[.int .i64 (aC x+7*(xs.length:Int))] 3)).cell? ⟨w₁.1.size,0,none⟩=some (.int .i64 (aC x+7*(xs.length:Int))):=by
   rw [World.cell?_alloc_at _ _ _ _ rfl];rfl
  -- append
  refine Goes.step rfl (fun w₂ h₂=> ?_)
  have hh2:Hid N (w₁.alloc (.cells #[.int .i64 (aC x+7*(xs.length:Int))] 3)) w₂:= .of1 h₂
  have hs2:w₂.1.size=w₁.1.size+1:=by rw [h₂.size];simp
  have hown2:=RL (hF.af.own.alloc (.cells #[.int .i64 (aC x+7*(xs.length:Int))] 3)) hh2
  replace hnew:w₂.cell? ⟨w₁.1.size,0,none⟩=some (.int .i64 (aC x+7*(xs.length:Int))):=(World.cell?_of_block (h₂.block _ vQ)).trans hnew
  have lowb:∀b,b<w₁.1.size->b≠N->w₂.1[b]? =w₁.1[b]? :=fun b hb hN=>(h₂.block b hN).trans (Below.heap_alloc _ _ _ hb)
  obtain⟨i0,hi,hz0,hz1,hz2⟩:=info_parts aa6
  have hnews:∀j u,[Value.int .i64 (aC x+7*(xs.length:Int))][j]? =some u->w₂.cell? ((⟨w₁.1.size,0,none⟩:Addr).add j)=some u:=by
   intro j u hj
   match j,hj with
   |0,hj=>simp at hj;subst hj;simpa [Addr.add]using hnew
  have h1c:∀u∈ [Value.int .i64 (aC x+7*(xs.length:Int))],u.oneCell'=true:=by intro u hu;simp at hu;subst hu;rfl
  have h63:xs.length+1<=maxLen:=by simp only [maxLen];omega
  obtain⟨out',w₃,hr,hown',hgrow,_⟩:=run_append_own (P:=Tryz.prog) w₂ (N+6) 154 154 3 i0 (.int .i64 0) 1 8 Tryz.underlying154 hi hz0 hz1 hz2 rfl vD out xs.length xs hown2 ⟨w₁.1.size,0,none⟩ 1 1 [.int .i64 (aC x+7*(xs.length:Int))] rfl hnews h1c h63 vO vO
  have hsz3:=RB (P:=Tryz.prog) w₂ (N+6) 154 154 3 i0 (.int .i64 0) 8 Tryz.underlying154 hi hz0 hz1 hz2 out xs.length xs hown2 ⟨w₁.1.size,0,none⟩ 1 (.int .i64 (aC x+7*(xs.length:Int))) hnews rfl h63 vO out' w₃ hr
  have hevs:=events_append_where (P:=Tryz.prog) w₂ (N+6) 154 154 3 i0 (.int .i64 0) 1 8 Tryz.underlying154 hi hz0 hz1 hz2 out xs.length xs hown2 ⟨w₁.1.size,0,none⟩ 1 1 [.int .i64 (aC x+7*(xs.length:Int))] rfl hnews h1c h63 vO
  refine goes_oper_k rfl rfl vD (fun K hKK=> ?_)
  refine uponK_append (.tmp 21) (.tmp 23) 154 rfl rfl rfl hr (hKK _ _ ⟨⟨fun b hb=> ?_,fun e he=> ?_⟩, ?_⟩)
  ·exact hgrow.block b vO (fun e=>by have:=(hown2.lt b e.symm).1;omega)
  ·have hm:=mem_listed he
   rw [events_append_op (.tmp 21) (.tmp 23) 154 rfl rfl rfl]at hm
   rcases hevs e hm with ⟨ad,h2,h3⟩|⟨m,rfl,hn⟩
   ·obtain⟨l,wr,sy⟩:=e
    try simp only at h2 h3
    subst h2
    rcases h3 with ⟨h3,h4⟩|h3
    ·exact qR (B':=B') ad wr sy vO vO vO vO (by rw [h3];simp) (fun _=>by omega)
    ·have h4:=hown2.lt _ h3.symm
     exact qR (B':=B') ad wr sy vO vO vO vO (fun _=>h4.1) (fun _=>h4.1)
   ·exact VO (B':=B') hn
  clear hKK K
  have low3:∀b,b<N+6->b≠N->w₃.1[b]? =w₁.1[b]? :=fun b hb hN=>(hgrow.block b vO (fun e=>by have:=(hown2.lt b e.symm).1;omega)).trans (lowb b vO hN)
  have hlen1:(xs++ [Value.int .i64 (aC x+7*(xs.length:Int))]).length=xs.length+1:=vS
  replace hF:AG N KP out' (xs++ [.int .i64 (aC x+7*(xs.length:Int))]) w₃:=by
   refine⟨⟨by rw [hlen1];exact hown',by have:=hgrow.size;omega,by rw [hlen1];omega,(World.cell?_of_block (low3 (N+2) vO vO)).trans hF.af.dv,
    (World.cell?_of_block (low3 (N+4) vO vO)).trans hF.af.ev, ?_⟩,(low3 _ vO vO).trans hF.eo,(low3 _ vO vO).trans hF.wg⟩
   exact hK.app hF.af.kp hdt hh2 hr
  clear hr hown' hgrow hevs hnews hnew low3 lowb hsz3 hown2 hh2 hs2 h₂
  walk_nrm
  u_op (AG.rs hK) hF
  u_c stepG_region_end (AG.rs hK) hF
  u_c stepG_inBlock (AG.rs hK) hF
  u_reg (AG.rs hK) hF
  u_opw (AG.rs hK) hF [AF.dv (AG.af hF)] (fun _ _=>rfl) (qR (B':=B') _ _ _ vS vS vQ vS vS vS)
  refine Goes.stop fun w₄ r=> ?_
  replace hF:=hF.rs hK r
  refine⟨rfl, ?_,fun w₅ h₅=> ?_⟩
  ·rw [stepG_comm rfl rfl vD (cases:= #[rcase (N+1) (.int .i64 0)]) (blocking:=true) (shape:= .recv false) (w':=w₄) (by simp [go_sem,execOp,rcase,Act.eval]),listed_none (by simp [go_sem,execOp,Act.eval])]
   rfl
  ·have hF5:AG N KP out' (xs++ [.int .i64 (aC x+7*(xs.length:Int))]) w₅:=⟨hF.af.hid hK (.ofD h₅),(h₅.block _ vO vO).trans hF.eo,(h₅.block _ vO vO).trans hF.wg⟩
   clear hF h₅
   refine⟨60+3, ?_⟩
   rw [core_G,served_fr,Frame.finish_at]
   walk_nrm
   u_op (AG.rs hK) hF5
   u_c stepG_region_end (AG.rs hK) hF5
   u_c stepG_inLoop (AG.rs hK) hF5
   exact ih _ _ _ _ _ _ _ _ _ _ _ _ _ _ _ _ _ _ _ _ (by rw [hlen1];push_cast;omega) (fun j hj=>by have:=hle (j+1) vO;push_cast at this;omega) (by push_cast at hto;omega) (by rw [hlen1];omega) (by rw [hlen1];omega) hF5
end
end Go.Proofs.YtljbnicolhhicaaGreatDoor.Sat
end
section
namespace Go.Proofs.YtljbnicolhhicaaGreatDoor.Sat
open Go.Conc Go.ConcX Go.RowKit Go.Conc.Lib Go.ConcX.Gen Go.Sq
noncomputable def VX(N:Nat)(x to:Int)(v3 out day v12 v13 v14 v15 v16 v17 v18 v19 v20 v21 v22 v23 v24 v25 v26 v27:Value)(cs:List Frame):Goroutine:=
 G {(base 160).at ⟨#[.int .i64 x,.int .i64 to,.pointer (some ⟨N,0,none⟩),v3,out,.pointer (some ⟨N+2,0,none⟩),.pointer (some ⟨N+4,0,none⟩),.pointer (some ⟨N+5,0,none⟩),out,day,.chan (some (N+1)),.chan (some (N+3)),v12,v13,v14,v15,v16,v17,v18,v19,v20,v21,v22,v23,v24,v25,v26,v27],[]⟩ [.code .ret]with mode:= .returning} cs
section
variable {N B':Nat} [Shy (N+5) N] [ShyS N B'] {x to:Int} {v3:Value} {KP:List Value->Value->World->Prop} {cs:List Frame} (hK:KOk N x to KP)
include hK
theorem sS{out:Value}{xs:List Value}{w w₁:World}(h:AF N KP out xs w/\to<aC x+7*xs.length)(r:AtRel w w₁):AF N KP out xs w₁/\to<aC x+7*xs.length:=⟨h.1.hid hK (.ofA r),h.2⟩
theorem aby(hstop:∀ (out:Value) (xs:List Value) (day v12 v13 v14 v15 v16 v17 v18 v19 v20 v21 v22 v23 v24 v25 v26 v27:Value) (w:World),AF N KP out xs w->to<aC x+7*xs.length->Shy.stop (N+5) N (VX N x to v3 out day v12 v13 v14 v15 v16 v17 v18 v19 v20 v21 v22 v23 v24 v25 v26 v27 cs) w)
  (out:Value) (xs:List Value) (day v12 v13 v14 v15 v16 v17 v18 v19 v20 v21 v22 v23 v24 v25 v26 v27:Value) (w:World) (hF:AF N KP out xs w/\to<aC x+7*xs.length):
  Goes Tryz.prog true AtRel (DPj (iK N) (N+5) N (N+6)) (AtRetJ Tryz.prog (N+5) N (iK N) (fun _ _=>True)) 8
   (G ((base 160).at ((⟨TS N x to v3 out day v12 v13 v14 v15 v16 v17 v18 v19 v20 v21 v22 v23 v24 v25 v26 v27,[]⟩:Act).put ((Bl[0]?).bind (·.dst)) (.tuple #[])) (.inRegion Bl [] :: [.code FU])) cs) w:=by
 simp only [VX]at hstop
 simp only [TS,Bl,FU,PZ,mX,tl6,tl5,tl4,nV,Tryz.f160,Option.getD_some]
 walk_nrm
 u_c stepG_region_end (sS hK) hF
 u_c stepG_seq (sS hK) hF
 u_reg (sS hK) hF
 u_op (sS hK) hF
 u_op (sS hK) hF
 u_c stepG_region_end (sS hK) hF
 u_c stepG_ret' (sS hK) hF
 exact Goes.stop (fun w₂ r₂=>⟨rfl,hstop _ _ _ _ _ _ _ _ _ _ _ _ _ _ _ _ _ _ _ _ (sS hK hF r₂).1 (sS hK hF r₂).2⟩)
theorem abp(hstop:∀ (out:Value) (xs:List Value) (day v12 v13 v14 v15 v16 v17 v18 v19 v20 v21 v22 v23 v24 v25 v26 v27:Value) (w:World),AF N KP out xs w->to<aC x+7*xs.length->Shy.stop (N+5) N (VX N x to v3 out day v12 v13 v14 v15 v16 v17 v18 v19 v20 v21 v22 v23 v24 v25 v26 v27 cs) w)
  (g:Goroutine) (w:World) (h:AnS N x to v3 KP cs g w):
  ∃m,Goes Tryz.prog true (RPa 226 (N+5) N [.int .i64 x]) (DPi (iK N) (N+5) N (N+6)) (AtW1 Tryz.prog 226 (N+5) N (N+6) [.int .i64 x] (iK N) (AnS N x to v3 KP cs) (fun _ _=>True)) m g w:=by
 obtain⟨out,xs,day,v12,v13,v14,v15,v16,v17,v18,v19,v20,v21,v22,v23,v24,v25,v26,v27,h⟩:=h
 obtain⟨m,hm⟩:=waitRound (L:=Tryz.link) (Mine:=iK N) (Low:=N+6) (Post:=fun _ _=>True) Tryz.UC vO (fj2 hK out xs) (fun w hF _ _=>aby hK hstop out xs day v12 v13 v14 v15 v16 v17 v18 v19 v20 v21 v22 v23 v24 v25 v26 v27 w hF) g w h
 exact⟨m,iI (fun g w=>WZ fun g w h=>⟨out,xs,day,v12,v13,v14,v15,v16,v17,v18,v19,v20,v21,v22,v23,v24,v25,v26,v27,h⟩) m hm⟩
theorem R4(g:Goroutine)(w:World)(h:AnS N x to v3 KP cs g w):g.status= .running:=by
 obtain⟨out,xs,day,v12,v13,v14,v15,v16,v17,v18,v19,v20,v21,v22,v23,v24,v25,v26,v27,T,hg,_⟩:=h
 rw [hg];rfl
end
noncomputable def frGo(N:Nat)(x to:Int)(v3 v8 v9 v14 v15 v16 v17 v18 v19 v20 v21 v22 v23 v24 v25 v26 v27:Value)(cs:List Frame):Goroutine:=
 G ((base 160).at ⟨#[.int .i64 x,.int .i64 to,.pointer (some ⟨N,0,none⟩),v3,.slice none 0 0,.pointer (some ⟨N+2,0,none⟩),.pointer (some ⟨N+4,0,none⟩),.pointer (some ⟨N+5,0,none⟩),v8,v9,.chan (some (N+1)),.chan (some (N+3)),.tuple #[],
  .func (.func 182) #[] #[.pointer (some ⟨N+5,0,none⟩),.pointer (some ⟨N,0,none⟩),.pointer (some ⟨N+2,0,none⟩),.pointer (some ⟨N+4,0,none⟩)],v14,v15,v16,v17,v18,v19,v20,v21,v22,v23,v24,v25,v26,v27],[]⟩ [.inRegion aaE [],.code tl6]) cs
section
variable {N B':Nat} [Shy (N+5) N] [ShyS N B'] {x to:Int} {v3 v8 v9 v14 v15 v16 v17 v18 v19 v20 v21 v22 v23 v24 v25 v26 v27:Value} {KP:List Value->Value->World->Prop} {cs:List Frame} (hK:KOk N x to KP)
include hK
include B' in
theorem aa9(k:Nat)(hle:∀j:Nat,j<k->aC x+7*j<=to)(hto:to<aC x+7*k)(hlen:(k+1)*8<=140737488355328)(hB:N+6+2*k+2<B')(w:World)(hF:AG N KP (.slice none 0 0) [] w):
  WaA N x to v3 KP cs (days (aC x) (k+1)) 20 (frGo N x to v3 v8 v9 v14 v15 v16 v17 v18 v19 v20 v21 v22 v23 v24 v25 v26 v27 cs) w:=by
 have hh:=fun v12 v13 v14 v15 v16 v17 v18 v19 v20 v21 v22 v23 v24 v25 v26 v27 w hw=>headW (v3:=v3) (cs:=cs) (B':=B') hK k [] (aC x) (.slice none 0 0) v12 v13 v14 v15 v16 v17 v18 v19 v20 v21 v22 v23 v24 v25 v26 v27 w vS hle hto (by simpa using hlen) (by simpa using hB) hw
 simp only [days]
 simp only [frGo,frR,TS,LB,aaE,ops7S,Ul,mX,tl6,tl5,tl4,nV,Tryz.f160,Option.getD_some]at hh⊢
 u_c stepG_region_end (AG.rs hK) hF
 u_c stepG_seq (AG.rs hK) hF
 u_reg (AG.rs hK) hF
 u_op (AG.rs hK) hF
 u_c stepG_region_end (AG.rs hK) hF
 u_c stepG_seq (AG.rs hK) hF
 u_c stepG_seq (AG.rs hK) hF
 u_reg (AG.rs hK) hF
 u_opw (AG.rs hK) hF [AF.dv (AG.af hF)] (fun _ _=>rfl) (qR (B':=B') _ _ _ vS vS vQ vS vS vS)
 refine Goes.stop fun w₄ r=> ?_
 replace hF:=hF.rs hK r
 refine⟨rfl, ?_,fun w₅ h₅=> ?_⟩
 ·rw [stepG_comm rfl rfl vD (cases:= #[rcase (N+1) (.int .i64 0)]) (blocking:=true) (shape:= .recv false) (w':=w₄) (by simp [go_sem,execOp,rcase,Act.eval]),listed_none (by simp [go_sem,execOp,Act.eval])]
  rfl
 ·have hF5:AG N KP (.slice none 0 0) [] w₅:=⟨hF.af.hid hK (.ofD h₅),(h₅.block _ vO vO).trans hF.eo,(h₅.block _ vO vO).trans hF.wg⟩
  clear hF h₅
  refine⟨60+4, ?_⟩
  rw [core_G,served_fr,Frame.finish_at]
  walk_nrm
  u_op (AG.rs hK) hF5
  u_c stepG_region_end (AG.rs hK) hF5
  u_c stepG_block (AG.rs hK) hF5
  u_c stepG_loop (AG.rs hK) hF5
  exact hh _ _ _ _ _ _ _ _ _ _ _ _ _ _ _ _ _ hF5
end
theorem mkD(w:World):(Instr.makeChan 217 (.int .i64 0)).run Tryz.prog w= .ok (.chan (some w.1.size)) (w.alloc (.chan 0 #[] false 0 0 false)):=by
 have h:(Tryz.prog.info? 3).map (·.bytes)=some 8:=vK
 obtain⟨i,hi,hb⟩:=Option.map_eq_some_iff.1 h
 simpa using run_makeChan (P:=Tryz.prog) (w:=w) Tryz.underlying217 hi .i64 0 vO (by rw [hb];omega)
theorem mkE(w:World):(Instr.makeChan 218 (.int .i64 0)).run Tryz.prog w= .ok (.chan (some w.1.size)) (w.alloc (.chan 0 #[] false 0 0 false)):=by
 have h:(Tryz.prog.info? 219).map (·.bytes)=some 0:=vK
 obtain⟨i,hi,hb⟩:=Option.map_eq_some_iff.1 h
 simpa using run_makeChan (P:=Tryz.prog) (w:=w) Tryz.underlying218 hi .i64 0 vO (by rw [hb];omega)
theorem evD(w:World)(es:Array Event):(Instr.makeChan 217 (.int .i64 0)).events Tryz.prog w es=es:=by
 have h:(Tryz.prog.info? 3).map (·.bytes)=some 8:=vK
 obtain⟨i,hi,hb⟩:=Option.map_eq_some_iff.1 h
 simpa using events_makeChan (P:=Tryz.prog) (w:=w) Tryz.underlying217 hi .i64 0 vO (by rw [hb];omega) es
theorem evE(w:World)(es:Array Event):(Instr.makeChan 218 (.int .i64 0)).events Tryz.prog w es=es:=by
 have h:(Tryz.prog.info? 219).map (·.bytes)=some 0:=vK
 obtain⟨i,hi,hb⟩:=Option.map_eq_some_iff.1 h
 simpa using events_makeChan (P:=Tryz.prog) (w:=w) Tryz.underlying218 hi .i64 0 vO (by rw [hb];omega) es
noncomputable def gSat(x to:Int)(v2 v3 v4 v5 v6 v7 v8 v9 v10 v11 v12 v13 v14 v15 v16 v17 v18 v19 v20 v21 v22 v23 v24 v25 v26 v27:Value)(cs:List Frame):Goroutine:=G ((base 160).at ⟨#[.int .i64 x,.int .i64 to,v2,v3,v4,v5,v6,v7,v8,v9,v10,v11,v12,v13,v14,v15,v16,v17,v18,v19,v20,v21,v22,v23,v24,v25,v26,v27],[]⟩ [.code nV]) cs
def wS(W:World)(x:Int):World:=
 (((((W.alloc (.cells #[.int .i64 x] 3)).alloc (.chan 0 #[] false 0 0 false)).alloc (.cells #[.chan (some (W.1.size+1))] 217)).alloc (.chan 0 #[] false 0 0 false)).alloc (.cells #[.chan (some (W.1.size+3))] 218)).alloc (.cells #[.int .u64 0,.int .u32 0] 226)
theorem new1(w:World)(o:Obj){k:Nat}(hk:k=w.1.size):(w.alloc o).1[k]? =some o:=by subst hk;exact heap_alloc_new w o
theorem GL(W:World)(x:Int):(wS W x).1.size=W.1.size+6:=by simp [wS]
theorem wS_b0(W:World)(x:Int):(wS W x).1[W.1.size]? =some (.cells #[.int .i64 x] 3):=by
 unfold wS
 iterate 5 rw [Below.heap_alloc _ _ _ (by simp <;> omega)]
 exact new1 _ _ vS
theorem wS_b1(W:World)(x:Int):(wS W x).1[W.1.size+1]? =some (.chan 0 #[] false 0 0 false):=by
 unfold wS
 iterate 4 rw [Below.heap_alloc _ _ _ (by simp <;> omega)]
 exact new1 _ _ vS
theorem aaN(W:World)(x:Int):(wS W x).1[W.1.size+2]? =some (.cells #[.chan (some (W.1.size+1))] 217):=by
 unfold wS
 iterate 3 rw [Below.heap_alloc _ _ _ (by simp <;> omega)]
 exact new1 _ _ vS
theorem wS_b3(W:World)(x:Int):(wS W x).1[W.1.size+3]? =some (.chan 0 #[] false 0 0 false):=by
 unfold wS
 iterate 2 rw [Below.heap_alloc _ _ _ (by simp <;> omega)]
 exact new1 _ _ vS
theorem aaU(W:World)(x:Int):(wS W x).1[W.1.size+4]? =some (.cells #[.chan (some (W.1.size+3))] 218):=by
 unfold wS
 iterate 1 rw [Below.heap_alloc _ _ _ (by simp <;> omega)]
 exact new1 _ _ vS
theorem aaR(W:World)(x:Int):(wS W x).1[W.1.size+5]? =some (wgBlock 226 0 0):=by
 unfold wS
 exact new1 _ _ vS
theorem YB(W:World)(x:Int){b:Nat}(h:b<W.1.size):(wS W x).1[b]? =W.1[b]? :=by
 unfold wS
 iterate 6 rw [Below.heap_alloc _ _ _ (by first|omega|(simp <;> omega))]
theorem cell1{w:World}{b:Nat}{v:Value}{t:TypeId}(h:w.1[b]? =some (.cells #[v] t)):w.cell? ⟨b,0,none⟩=some v:=by simp [World.cell?,h]
section
variable {W:World} {B':Nat} [Shy (W.1.size+5) W.1.size] [ShyS W.1.size B'] {x to:Int} {v3:Value} {KP:List Value->Value->World->Prop} {cs:List Frame} (hK:KOk W.1.size x to KP)
include hK
theorem wS_ag(hkp:∀w,Hid W.1.size ((wS W x).setCell (stA (W.1.size+5)) (.int .u64 KK)) w->KP [] (.slice none 0 0) w)(d:Nat):AG W.1.size KP (.slice none 0 0) [] (((wS W x).setCell (stA (W.1.size+5)) (.int .u64 KK)).at d):=by
 have other:∀b,b≠W.1.size+5->(((wS W x).setCell (stA (W.1.size+5)) (.int .u64 KK)).at d).1[b]? =(wS W x).1[b]? :=fun b hb=>Below.heap_setCell _ _ _ _ hb
 have hwg:WgAt 226 (W.1.size+5) (wS W x) 0 0:=aaR W x
 refine⟨⟨⟨rfl,.inl ⟨rfl,rfl⟩⟩, ?_, ?_,cell1 ((other _ vO).trans (aaN W x)),cell1 ((other _ vO).trans (aaU W x)),hkp _ (.ofA ⟨d,rfl⟩)⟩,(other _ vO).trans (wS_b3 W x),hwg.setSt KK⟩
 ·have:(((wS W x).setCell (stA (W.1.size+5)) (.int .u64 KK)).at d).1.size=(wS W x).1.size:=by
   show((wS W x).setCell _ _).1.size=_
   simp
  rw [this,GL]
  omega
 ·have:(((wS W x).setCell (stA (W.1.size+5)) (.int .u64 KK)).at d).1.size=(wS W x).1.size:=by
   show((wS W x).setCell _ _).1.size=_
   simp
  rw [this,GL]
  simp
omit hK in
theorem wS_wk(W:World)(x:Int)(d:Nat):WK W.1.size x (((wS W x).setCell (stA (W.1.size+5)) (.int .u64 KK)).at d):=by
 have other:∀b,b≠W.1.size+5->(((wS W x).setCell (stA (W.1.size+5)) (.int .u64 KK)).at d).1[b]? =(wS W x).1[b]? :=fun b hb=>Below.heap_setCell _ _ _ _ hb
 exact⟨(other _ vO).trans (wS_b0 W x),cell1 ((other _ vO).trans (aaN W x)),cell1 ((other _ vO).trans (aaU W x))⟩
end
end Go.Proofs.YtljbnicolhhicaaGreatDoor.Sat
end
section
namespace Go.Proofs.YtljbnicolhhicaaGreatDoor.Sat
open Go.Conc Go.ConcX Go.RowKit Go.Conc.Lib Go.ConcX.Gen Go.Sq
section
variable {W:World} {B':Nat} [Shy (W.1.size+5) W.1.size] [ShyS W.1.size B'] {x to:Int} {v3 v2 v4 v5 v6 v7 v8 v9 v10 v11 v12 v13 v14 v15 v16 v17 v18 v19 v20 v21 v22 v23 v24 v25 v26 v27:Value} {KP:List Value->Value->World->Prop} {cs:List Frame} (hK:KOk W.1.size x to KP)
include hK
theorem loneS(k:Nat)(hx:oC x)(h1: -9223372036854775808<=aC x)(h2:aC x+7*(k+1:Nat)<=9223372036854775807)(hle:∀j:Nat,j<k->aC x+7*j<=to)(hto:to<aC x+7*k)
  (hlen:(k+1)*8<=140737488355328) (hB:W.1.size+6+2*k+2<B') (hkp:∀w,Hid W.1.size ((wS W x).setCell (stA (W.1.size+5)) (.int .u64 KK)) w->KP [] (.slice none 0 0) w):
  XY Tryz.prog 226 (W.1.size+5) W.1.size (W.1.size+6) (W.1.size+1) (W.1.size+3) [.int .i64 x] (iK W.1.size) (AnS W.1.size x to v3 KP cs) (.int .i64 0) (.int .i64 0) (.agg #[]) (days (aC x) (k+1)) (gSat x to v2 v3 v4 v5 v6 v7 v8 v9 v10 v11 v12 v13 v14 v15 v16 v17 v18 v19 v20 v21 v22 v23 v24 v25 v26 v27 cs) W:=by
 refine⟨24+12, ?_⟩
 have hmD:=fun w=>mkD w
 have hmE:=fun w=>mkE w
 have heD:=fun w es=>evD w es
 have heE:=fun w es=>evE w es
 have hA:= @addPos Tryz.link (W.1.size+5) W.1.size
 simp only [gSat,nV,body_add,Tryz.f160,addFn,Option.getD_some]at hA⊢
 l_c stepG_seq
 l_reg
 l_opw (‹ShyS _ B'›.own _ _ _ (by simp <;> omega) (by simp <;> omega) (by simp <;> omega) vS)
 l_opw (‹ShyS _ B'›.own _ _ _ (by simp <;> omega) (by simp <;> omega) (by simp <;> omega) vS)
 l_c stepG_region_end
 l_c stepG_seq
 l_reg
 l_opw (‹ShyS _ B'›.own _ _ _ (by simp <;> omega) (by simp <;> omega) (by simp <;> omega) vS)
 l_opw (‹ShyS _ B'›.own _ _ _ (by simp <;> omega) (by simp <;> omega) (by simp <;> omega) vS)
 l_opw (‹ShyS _ B'›.own _ _ _ (by simp <;> omega) (by simp <;> omega) (by simp <;> omega) vS)
 l_c stepG_region_end
 l_c stepG_seq
 l_reg
 l_opw (‹ShyS _ B'›.own _ _ _ (by simp <;> omega) (by simp <;> omega) (by simp <;> omega) vS)
 l_opw (‹ShyS _ B'›.own _ _ _ (by simp <;> omega) (by simp <;> omega) (by simp <;> omega) vS)
 l_opw (‹ShyS _ B'›.own _ _ _ (by simp <;> omega) (by simp <;> omega) (by simp <;> omega) vS)
 l_c stepG_region_end
 l_c stepG_seq
 l_reg
 l_opw (‹ShyS _ B'›.own _ _ _ (by simp <;> omega) (by simp <;> omega) (by simp <;> omega) vS)
 l_c stepG_region_end
 l_c stepG_seq
 l_reg
 l_in
 refine goes_call rfl rfl vD rfl Tryz.func181 (nm_add Tryz.link) rfl ⟨by u_nil, ?_⟩
 walk_nrmf Tryz.f181
 refine hA (mT:=4) Tryz.UC _ (show WgAt 226 (W.1.size+5) (World.at (wS W x) _) 0 0 from aaR W x) ?_
 clear hA hmD hmE heD heE
 walk_nrm
 l_c stepG_region_end
 l_c stepG_seq
 l_reg
 l_opw (‹ShyS _ B'›.own _ _ _ (by simp <;> omega) (by simp <;> omega) (by simp <;> omega) vS)
 refine Goes.stop (fun w₁ h₁=> ?_)
 obtain⟨d,hd⟩:=h₁
 subst hd
 simp only [alloc_at,setCell_at,at_at]
 have hG:=wS_ag hK hkp d
 have hW:=wS_wk W x d
 have hb1:(((wS W x).setCell (stA (W.1.size+5)) (.int .u64 KK)).at d).1[W.1.size+1]? =some (.chan 0 #[] false 0 0 false):=(Below.heap_setCell _ _ _ _ (show W.1.size+1≠W.1.size+5 by omega)).trans (wS_b1 W x)
 have hA:=aa9 (v3:=v3) (cs:=cs) (B':=B') (v8:=v8) (v9:=v9) (v14:=v14) (v15:=v15) (v16:=v16) (v17:=v17) (v18:=v18) (v19:=v19) (v20:=v20) (v21:=v21) (v22:=v22) (v23:=v23) (v24:=v24) (v25:=v25) (v26:=v26) (v27:=v27) hK k hle hto hlen hB _ hG
 refine⟨rfl,_,born Tryz.prog (Lu W.1.size),((wS W x).setCell (stA (W.1.size+5)) (.int .u64 KK)).at d,#[], ?_,vS,hG.wg,⟨⟨0,0,hb1⟩,hG.eo⟩,⟨_,hA⟩,workW (B':=B') hx h1 h2 vO _ hW⟩
 simp only [frGo,tl6,tl5,tl4,nV,Tryz.f160,Option.getD_some]
 rw [stepG_spawn (d:=Lu W.1.size) (w':=((wS W x).setCell (stA (W.1.size+5)) (.int .u64 KK)).at d) (f:= .func 182) (c:= #[.pointer (some ⟨W.1.size+5,0,none⟩),.pointer (some ⟨W.1.size,0,none⟩),.pointer (some ⟨W.1.size+2,0,none⟩),.pointer (some ⟨W.1.size+4,0,none⟩)]) rfl rfl vD (by simp [go_sem,Lu,Deferred.ofValue,wS,alloc_at,setCell_at]) rfl,listed_none (by simp [go_sem,execOp,Act.eval,Deferred.ofValue])]
 rfl
end
end Go.Proofs.YtljbnicolhhicaaGreatDoor.Sat
end
section
namespace Go.Proofs.YtljbnicolhhicaaGreatDoor.Sat
open Go.Conc Go.ConcX Go.RowKit Go.Conc.Lib Go.ConcX.Gen Go.Sq
def Yq(N:Nat)(x to:Int)(v3:Value)(KP:List Value->Value->World->Prop)(cs:List Frame)(g:Goroutine)(w:World):Prop:=
 ∃ (out:Value) (xs:List Value) (day v12 v13 v14 v15 v16 v17 v18 v19 v20 v21 v22 v23 v24 v25 v26 v27:Value),g=VX N x to v3 out day v12 v13 v14 v15 v16 v17 v18 v19 v20 v21 v22 v23 v24 v25 v26 v27 cs/\AF N KP out xs w/\to<aC x+7*xs.length
theorem Ls{W:World}{x to:Int}{v3 v2 v4 v5 v6 v7 v8 v9 v10 v11 v12 v13 v14 v15 v16 v17 v18 v19 v20 v21 v22 v23 v24 v25 v26 v27:Value}{KP:List Value->Value->World->Prop}{cs:List Frame}(hK:KOk W.1.size x to KP)(k:Nat)(hx:oC x)(h1: -9223372036854775808<=aC x)(h2:aC x+7*(k+1:Nat)<=9223372036854775807)
  (hle:∀j:Nat,j<k->aC x+7*j<=to) (hto:to<aC x+7*k) (hlen:(k+1)*8<=140737488355328)
  (hkp:∀w,Hid W.1.size ((wS W x).setCell (stA (W.1.size+5)) (.int .u64 KK)) w->KP [] (.slice none 0 0) w)
  {Shun:Loc->Prop} {B:Nat} {t₀:Trace} (hS:∀a:Addr,W.1.size<=a.block->¬ Shun (.cell a))
  {gs:Array Goroutine} {sl:Option (Nat×Nat)} {q:Nat->Nat} (h0:gs[0]? =some (gSat x to v2 v3 v4 v5 v6 v7 v8 v9 v10 v11 v12 v13 v14 v15 v16 v17 v18 v19 v20 v21 v22 v23 v24 v25 v26 v27 cs)) (hL:Leavers Tryz.prog t₀ gs q) (hP:Past Shun B t₀):
  ∃ (B' n:Nat) (gs':Array Goroutine) (a':Goroutine) (w':World) (sl':Option (Nat×Nat)) (T':Trace) (q':Nat->Nat),runNT Tryz.prog n (crowd gs W sl) t₀=(.next (crowd gs' w' sl'),T')/\gs'.size=gs.size+1/\gs'[0]? =some a'/\
   Yq W.1.size x to v3 KP cs a' w'/\Leavers Tryz.prog T' gs' q'/\Past (fun l=>Shun l∨OfS (W.1.size+5) (W.1.size+3) l) B' T':=by
 let B':=W.1.size+6+2*k+3+B
 letI I:Shy (W.1.size+5) W.1.size:=shyS Shun (iK W.1.size) B' (W.1.size+5) W.1.size (W.1.size+3) (Yq W.1.size x to v3 KP cs) (by show _<W.1.size+6+2*k+3+B;omega) (by show _<W.1.size+6+2*k+3+B;omega) (fun a ha=>hS a vO)
 haveI J:ShyS W.1.size B':=by
  refine⟨fun a wr s h0 h hB hs=> ?_,iX rfl trivial (fun k e=>by cases e)⟩
  refine⟨fun y hy=> ?_,hB,fun k e=>by cases e⟩
  simp only [MemAct.touch?,Option.some.injEq]at hy
  subst hy
  refine⟨fun h=>absurd h (hS a h0),fun e=> ?_,fun e=>by cases e⟩
  cases s with
  |true=>exact .inr ⟨a,rfl,hs rfl⟩
  |false=>simp at e
 have hG:Geo (W.1.size+5) W.1.size (W.1.size+6) (W.1.size+1) (W.1.size+3):=⟨vO,vO,vO,vO,vO,vO,vO,vO,vO,vO⟩
 have hB1:W.1.size+1<B':=by show _<W.1.size+6+2*k+3+B;omega
 have hB3:W.1.size+3<B':=by show _<W.1.size+6+2*k+3+B;omega
 have hOk:X5 (W.1.size+5) W.1.size (W.1.size+1) (W.1.size+3):=by
  refine⟨fun n=>iX rfl hB1 (fun k e=>by cases e),fun n m=>iX rfl hB1 (fun k e=>by cases e),fun n=>iX rfl hB1 (fun k e=>by cases e),fun n=>iX rfl hB1 (fun k e=>by cases e),iX rfl hB3 (fun k e=>by cases e), ?_,iX rfl hB3 (fun k e=>by cases e)⟩
  refine⟨fun y hy=> ?_,hB3,fun k e=>by cases e⟩
  simp only [MemAct.touch?,Option.some.injEq]at hy
  subst hy
  exact⟨fun _=>by simp,(fun _=> .inl (.inr rfl)),fun _=>by simp⟩
 have hMS:∀l,iK W.1.size l->¬ ShT (W.1.size+5) W.1.size l:=by
  rintro l ⟨a,rfl,ha⟩ hs
  rcases hs with (⟨y,hy,hyb⟩|hs)|⟨y,hy,hyb,_⟩
  ·cases hy;omega
  ·cases hs
  ·cases hy;omega
 have hstop:∀ (out:Value) (xs:List Value) (day v12 v13 v14 v15 v16 v17 v18 v19 v20 v21 v22 v23 v24 v25 v26 v27:Value) (w:World),AF W.1.size KP out xs w->to<aC x+7*xs.length->Shy.stop (W.1.size+5) W.1.size (VX W.1.size x to v3 out day v12 v13 v14 v15 v16 v17 v18 v19 v20 v21 v22 v23 v24 v25 v26 v27 cs) w:=
  fun out xs day v12 v13 v14 v15 v16 v17 v18 v19 v20 v21 v22 v23 v24 v25 v26 v27 w hA ht=>⟨out,xs,day,v12,v13,v14,v15,v16,v17,v18,v19,v20,v21,v22,v23,v24,v25,v26,v27,rfl,hA,ht⟩
 obtain⟨n,gs',a',w',sl',T',q',r,hs,h0',_,hst,hL',hP'⟩:=Sq.OD (Shun:=Shun) (B:=B) (B':=B') (Post:=fun _ _=>True) hG hOk (fun g w h=>R4 hK g w h) (fun g w h=>abp hK hstop g w h) hMS (fun act h=>h) (by show B<=W.1.size+6+2*k+3+B;omega) h0 hL hP
  (loneS (B':=B') hK k hx h1 h2 hle hto hlen (by show _<W.1.size+6+2*k+3+B;omega) hkp)
 exact⟨B',n,gs',a',w',sl',T',q',r,hs,h0',hst,hL',hP'⟩
#print axioms Ls
end Go.Proofs.YtljbnicolhhicaaGreatDoor.Sat
end
section
namespace Go.Proofs.YtljbnicolhhicaaGreatDoor.Sat
open Go.Conc Go.RowKit Go.Sq
def opO(dst:Nat)(o:Op):Oper:={dst:=some dst,op:=o,type:=3,pos:= "",after:= #[],guard:=none}
noncomputable def LBo:Code:=match LB with
 | .seq a (.seq b _)=> .seq a (.seq b (.region 209 #[opO 19 (.move (.tmp 9)),opO 20 (.binOp .add 3 (.tmp 19) (.const (.int .i64 7)) 3),opO 9 (.assign (.tmp 20))] false))
 |_=> .skip
def iO:Op:= .binOp .add 3 (.const (.bool true)) (.const (.bool true)) 3
def opG(o:Op)(g:Nat×Bool):Oper:={dst:=some 15,op:=o,type:=3,pos:= "",after:= #[],guard:=some g}
def opsE:Array Oper:= #[opO 28 (.assign (.const (.bool true))),opG iO (0,true),opO 14 (.binOp .leq 3 (.tmp 0) (.const (.int .i64 1099511627776)) 3),opG iO (2,false),
 opO 16 (.binOp .leq 3 (.const (.int .i64 (-1099511627776))) (.tmp 0) 3),opG iO (4,false),opO 17 (.binOp .leq 3 (.tmp 1) (.const (.int .i64 1099511627776)) 3),opG iO (6,false)]
def Yl:Array Oper:= #[opO 2 (.box 3 (.const (.int .i64 0))),opO 5 (.box 3 (.const (.int .i64 0))),opO 6 (.box 3 (.const (.int .i64 0))),opO 7 (.box 3 (.const (.int .i64 0))),opO 12 (.box 3 (.const (.int .i64 0))),opO 13 (.box 3 (.const (.int .i64 0))),opO 8 (.assign (.const (.slice none 0 0)))]
def Yt:Array Oper:= #[opO 14 (.binOp .rem 3 (.tmp 0) (.const (.int .i64 7)) 3),opO 15 (.binOp .add 3 (.tmp 14) (.const (.int .i64 7)) 3),opO 19 (.binOp .rem 3 (.tmp 15) (.const (.int .i64 7)) 3),opO 20 (.binOp .sub 3 (.const (.int .i64 6)) (.tmp 19) 3),opO 21 (.binOp .add 3 (.tmp 0) (.tmp 20) 3),opO 9 (.assign (.tmp 21))]
noncomputable def lF:Code:= .seq (.region 199 opsE false) (.seq (.region 200 Yl false) (.seq (.region 201 Yt false) (.seq (.block 0 (.loop LBo)) FU)))
noncomputable def Ow:Func:={Tryz.f160 with body:=some lF}
noncomputable def FO:Array Func:=Tryz.prog.funcs.setIfInBounds 160 Ow
theorem CZ{f:Nat}(h:f≠160):FO[f]? =Tryz.prog.funcs[f]? :=by
 unfold FO
 exact Array.getElem?_setIfInBounds_ne (Ne.symm h)
theorem abI:160<Tryz.prog.funcs.size:=(Array.getElem?_eq_some_iff.1 Tryz.func160).1
theorem JH:FO[160]? =some Ow:=by
 unfold FO
 exact Array.getElem?_setIfInBounds_self_of_lt abI
end Go.Proofs.YtljbnicolhhicaaGreatDoor.Sat
end
