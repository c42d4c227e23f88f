import Derived.Test.YthnjjcoahdhmnaaGreatDoorChecked
import Derived.Conc.FxGenDone
import Derived.Conc.FxGenWait
import Derived.Conc.FxGenLone
import Derived.Conc.CompanyWords
import Derived.RowKit
import Derived.KernelRfl
import Derived.Test.YthnjjcoahdhmnaaGreatDoorOGB
import Derived.Conc.BesideWords
import Derived.Conc.TokenWords
import Derived.Conc.CompanyDraw
import Derived.Laws.AppendOwn
import Derived.Laws.MakeOwn
import Derived.Conc.AppendEvents3
import Derived.OwnWalk
import Derived.Laws.NewBlocks
import Derived.Below
import Derived.Conc.SmallLaws
import Derived.Conc.PipeWords
import Derived.Test.YthnjjcoahdhmnaaGreatDoorOGA
set_option maxHeartbeats 8000000
set_option maxRecDepth 100000
set_option linter.unusedSectionVars false
set_option linter.unusedSimpArgs false
set_option linter.unusedVariables false
section
namespace Go.Proofs
abbrev Tryz.link:Go.Conc.Lib.WgLink:={add:=257,done:=259,wait:=261,relMerge:=287,disable:=288,enable:=289,inBubble:=290,associate:=291,fatal:=292,uOr:=293,uAdd:=294,raceRead:=295,uLoad:=296,uStore:=297,disassociate:=298,semrelease:=299,acquire:=300,isAssociated:=301,uCas:=302,raceWrite:=303,semacquire:=304,orU64:=311,addU64:=312,loadU64:=313,storeU64:=314,casU64:=315,tWgP:=276,tUP:=269,tAssoc:=278,tWg:=255,tAU:=253,tU64:=237,tUint:=197,tU32:=212,tPU32:=282,tPAU:=294,tPU64:=296,tNoCopy:=249,tANoCopy:=250,tAlign64:=251}
theorem Tryz.P5:Go.Conc.Lib.WgLib Tryz.prog Tryz.link:=
 ⟨Tryz.func257,Tryz.func259,Tryz.func261,Tryz.func287,Tryz.func288,Tryz.func289,Tryz.func290,Tryz.func291,Tryz.func292,Tryz.func293,Tryz.func294,Tryz.func295,Tryz.func296,Tryz.func297,Tryz.func298,Tryz.func299,Tryz.func300,Tryz.func301,Tryz.func302,Tryz.func303,Tryz.func304,Tryz.func311,Tryz.func312,Tryz.func313,Tryz.func314,Tryz.func315,Tryz.underlying276,Tryz.runUnderlying276,Tryz.sizeOf276,Tryz.isAgg276,Tryz.zeroValue276,Tryz.underlying269,Tryz.runUnderlying269,Tryz.sizeOf269,Tryz.isAgg269,Tryz.zeroValue269,Tryz.underlying278,Tryz.runUnderlying278,Tryz.sizeOf278,Tryz.isAgg278,Tryz.zeroValue278,Tryz.underlying255,Tryz.runUnderlying255,Tryz.sizeOf255,Tryz.isAgg255,Tryz.zeroValue255,Tryz.underlying253,Tryz.runUnderlying253,Tryz.sizeOf253,Tryz.isAgg253,Tryz.zeroValue253,Tryz.underlying237,Tryz.runUnderlying237,Tryz.sizeOf237,Tryz.isAgg237,Tryz.zeroValue237,Tryz.underlying197,Tryz.runUnderlying197,Tryz.sizeOf197,Tryz.isAgg197,Tryz.zeroValue197,Tryz.underlying212,Tryz.runUnderlying212,Tryz.sizeOf212,Tryz.isAgg212,Tryz.zeroValue212,Tryz.underlying282,Tryz.runUnderlying282,Tryz.sizeOf282,Tryz.isAgg282,Tryz.zeroValue282,Tryz.underlying294,Tryz.runUnderlying294,Tryz.sizeOf294,Tryz.isAgg294,Tryz.zeroValue294,Tryz.underlying296,Tryz.runUnderlying296,Tryz.sizeOf296,Tryz.isAgg296,Tryz.zeroValue296,Tryz.underlying0,Tryz.runUnderlying0,Tryz.sizeOf0,Tryz.isAgg0,Tryz.zeroValue0,Tryz.underlying3,Tryz.runUnderlying3,Tryz.sizeOf3,Tryz.isAgg3,Tryz.zeroValue3,Tryz.underlying4,Tryz.runUnderlying4,Tryz.sizeOf4,Tryz.isAgg4,Tryz.zeroValue4,Tryz.underlying9,Tryz.runUnderlying9,Tryz.sizeOf9,Tryz.isAgg9,Tryz.zeroValue9,Tryz.underlying20,Tryz.runUnderlying20,Tryz.sizeOf20,Tryz.isAgg20,Tryz.zeroValue20,Tryz.underlying21,Tryz.runUnderlying21,Tryz.sizeOf21,Tryz.isAgg21,Tryz.zeroValue21,(by kernel_rfl),(by kernel_rfl)⟩
end Go.Proofs
end
section
namespace Go.Proofs.YthnjjcoahdhmnaaGreatDoor.Sat
open Go.Conc Go.RowKit
variable {main:Bool} {R:World->World->Prop} {D:World->World->Array Event->Prop}
def aj(x:Int):Int:=x+(6-x) % 7
def mF(x:Int):Prop:= -4611686018427387904<=x/\x<=4611686018427387904
theorem Lj(x:Int):(0<=x/\Int.tmod x 7=x % 7)∨(x<0/\Int.tmod x 7= -((-x) % 7)):=by
 rcases Int.lt_or_le x 0 with h|h
 ·refine .inr ⟨h, ?_⟩
  have:x= -(-x):=by omega
  rw [this,Int.neg_tmod,Int.tmod_eq_emod_of_nonneg (by omega)]
  simp
 ·exact .inl ⟨h,Int.tmod_eq_emod_of_nonneg h⟩
theorem VK(T:Terms R D):∃n,∀ (x:Int) (w:World),mF x->CallsC Tryz.prog main R D 83 #[.int .i64 x,.int .i64 7] n w fun v w'=>v= .tuple #[.int .i64 (x % 7),.int .i64 0]/\Since R w w':=by
 co_apply Exists.intro
 intro x w hx
 obtain⟨h1,h2⟩:=hx
 co_apply callsC_of_wpC Tryz.func83 (by rfl) rfl
 have hF:Since R w w:= .refl w
 simp only [Tryz.ntmps83,List.size_toArray,List.length_cons,List.length_nil,Nat.reduceAdd,Nat.reduceSub,Array.replicate_succ,Array.replicate_zero,List.push_toArray,List.append_toArray,List.nil_append,List.cons_append]
 co_go T (Since.rely T) hF (co_quiet T)
 co_apply wpC_cond T (t:=false)
 focus (exact rfl)
 simp only [Bool.false_eq_true,if_false]
 co_ctl T
 try co_then
 co_apply wpC_seq T
 co_reg T
 co_op (Since.rely T) hF (co_quiet T)
 co_op (Since.rely T) hF (co_quiet T)
 co_op (Since.rely T) hF (co_quiet T)
 co_op (Since.rely T) hF (co_quiet T)
 co_apply opsC_nil T
 co_then
 co_apply wpC_seq_mid T (fun a' w'=>∃ (v11 v12 v13 v14 v15 v16:Value),Since R w w'/\
  a'={tmps:= #[.int .i64 x,.int .i64 7,undef,undef,.int .i64 0,.int .i64 0,.int .i64 (x % 7),.int .i64 7,.bool false,.int .i64 x,.int .i64 7,v11,v12,v13,v14,v15,v16,undef],defers:= []})
 ·co_go T (Since.rely T) hF (co_quiet T)
  co_split T (decide (Int.tmod x 7<0))
  ·intro hx
   replace hx:=of_decide_eq_true hx
   co_go T (Since.rely T) hF (co_quiet T)
   have e:IntKind.i64.wrap (Int.tmod x 7+7)=x % 7:=by
    rw [IntKind.wrap_i64]
    rcases Lj x with ⟨c,d⟩|⟨c,d⟩ <;> rw [d]at hx⊢ <;> omega
   simp only [e]
   exact⟨_,_,_,_,_,_,hF,rfl⟩
  ·intro hx
   replace hx:=of_decide_eq_false hx
   co_go T (Since.rely T) hF (co_quiet T)
   have e:Int.tmod x 7=x % 7:=by
    rcases Lj x with ⟨c,d⟩|⟨c,d⟩ <;> rw [d]at hx⊢ <;> omega
   simp only [e]
   exact⟨_,_,_,_,_,_,hF,rfl⟩
 ·rintro a' w' ⟨v11,v12,v13,v14,v15,v16,hF,rfl⟩
  co_go T (Since.rely T) hF (co_quiet T)
  exact⟨rfl,_,resultsC_tmp2 (by rfl) _,by simp,hF⟩
theorem Nq(T:Terms R D):∃n,∀ (x:Int) (w:World),mF x->CallsC Tryz.prog main R D 27 #[.int .i64 x] n w fun v w'=>v= .int .i64 (x % 7)/\Since R w w':=by
 obtain⟨nm,hm⟩:=VK (main:=main) T
 co_apply Exists.intro
 intro x w hx
 co_apply callsC_of_wpC Tryz.func27 (by rfl) rfl
 have hF:Since R w w:= .refl w
 simp only [Tryz.ntmps27,List.size_toArray,List.length_cons,List.length_nil,Nat.reduceAdd,Nat.reduceSub,Array.replicate_succ,Array.replicate_zero,List.push_toArray,List.append_toArray,List.nil_append,List.cons_append]
 co_go T (Since.rely T) hF (co_quiet T)
 co_apply opsC_call T rfl (by rfl) rfl
 ·walk_nrm
  exact hm _ _ hx
 rintro v w' ⟨rfl,hs⟩
 replace hF:Since R w w':=hs.elim (fun e=>e▸hF) (fun r=>Since.rely T hF r)
 clear hs
 walk_nrm
 co_go T (Since.rely T) hF (co_quiet T)
 refine⟨rfl,_,resultsC_tmp (by rfl) _,by simp,hF⟩
theorem Q5(T:Terms R D):∃n,∀ (w:World),CallsC Tryz.prog main R D 273 #[.int .i64 6] n w fun v w'=>v= .bool true/\Since R w w':=by
 co_apply Exists.intro
 intro w
 co_apply callsC_of_wpC Tryz.func273 (by rfl) rfl
 have hF:Since R w w:= .refl w
 simp only [Tryz.ntmps273,List.size_toArray,List.length_cons,List.length_nil,Nat.reduceAdd,Nat.reduceSub,Array.replicate_succ,Array.replicate_zero,List.push_toArray,List.append_toArray,List.nil_append,List.cons_append]
 co_go T (Since.rely T) hF (co_quiet T)
 exact⟨rfl,_,resultsC_tmp (by rfl) _,by simp,hF⟩
theorem WB(T:Terms R D):∃n,∀ (x:Int) (w:World),mF x->CallsC Tryz.prog main R D 229 #[.int .i64 x,.int .i64 6] n w fun v w'=>v= .int .i64 (aj x)/\Since R w w':=by
 obtain⟨nm,hm⟩:=Nq (main:=main) T
 obtain⟨nk,hk⟩:=Q5 (main:=main) T
 have h6:∀y:Int,mF y->mF (6-y % 7):=fun y h=>by unfold mF at*;omega
 co_apply Exists.intro
 intro x w hx
 co_apply callsC_of_wpC Tryz.func229 (by rfl) rfl
 have hF:Since R w w:= .refl w
 simp only [Tryz.ntmps229,List.size_toArray,List.length_cons,List.length_nil,Nat.reduceAdd,Nat.reduceSub,Array.replicate_succ,Array.replicate_zero,List.push_toArray,List.append_toArray,List.nil_append,List.cons_append]
 co_go T (Since.rely T) hF (co_quiet T)
 co_apply opsC_call T rfl (by rfl) rfl
 ·walk_nrm
  exact hk _
 rintro v w' ⟨rfl,hs⟩
 replace hF:Since R w w':=hs.elim (fun e=>e▸hF) (fun r=>Since.rely T hF r)
 clear hs
 walk_nrm
 co_go T (Since.rely T) hF (co_quiet T)
 co_apply wpC_cond T (t:=false)
 focus (exact rfl)
 simp only [Bool.false_eq_true,if_false]
 co_go T (Since.rely T) hF (co_quiet T)
 co_apply opsC_call T rfl (by rfl) rfl
 ·walk_nrm
  exact hm _ _ hx
 rintro v w' ⟨rfl,hs⟩
 replace hF:Since R w w':=hs.elim (fun e=>e▸hF) (fun r=>Since.rely T hF r)
 clear hs
 walk_nrm
 have e6:IntKind.i64.wrap (6-x % 7)=6-x % 7:=by rw [IntKind.wrap_i64];omega
 co_go T (Since.rely T) hF (co_quiet T)
 try simp only [e6]
 co_apply opsC_call T rfl (by rfl) rfl
 ·walk_nrm
  try simp only [e6]
  exact hm _ _ (h6 x hx)
 rintro v w' ⟨rfl,hs⟩
 replace hF:Since R w w':=hs.elim (fun e=>e▸hF) (fun r=>Since.rely T hF r)
 clear hs
 walk_nrm
 have e7:IntKind.i64.wrap (x+(6-x) % 7)=aj x:=by unfold mF at hx;unfold aj;rw [IntKind.wrap_i64];omega
 co_go T (Since.rely T) hF (co_quiet T)
 exact⟨rfl,_,resultsC_tmp (by rfl) _,by simp [e7],hF⟩
end Go.Proofs.YthnjjcoahdhmnaaGreatDoor.Sat
end
section
namespace Go.Proofs.YthnjjcoahdhmnaaGreatDoor.Sat
open Go.Conc Go.ConcX Go.RowKit Go.Conc.Lib Go.ConcX.Gen Go.Sq
instance:Payload:=⟨3⟩
class ShyS (N B':Nat) [Shy (N+5) N]:Prop where
 own:∀ (a:Addr) (wr s:Bool),N<=a.block->a.block≠N+5->a.block<B'->(s=true->N+6<=a.block)->Shy.ok (N+5) N (.access ⟨.cell a,wr,s⟩)
 room:Shy.ok (N+5) N (.mark .noRoom)
def fZ(N:Nat):Loc->Prop:=fun l=>∃a,l= .cell a/\N+6<=a.block
def days(d:Int):Nat->List Value
 |0=> []
 |n+1=> .int .i64 d :: days (d+7) n
structure WK(N:Nat)(x:Int)(w:World):Prop where
 blk:w.heap[N]? =some (.cells #[.int .i64 x] 3)
 dv:w.cell? ⟨N+2,0,none⟩=some (.chan (some (N+1)))
 ev:w.cell? ⟨N+4,0,none⟩=some (.chan (some (N+3)))
theorem WK.xb{N:Nat}{x:Int}{w:World}(h:WK N x w):w.cell? ⟨N,0,none⟩=some (.int .i64 x):=by simp [World.cell?,h.blk]
theorem WK.of{N:Nat}{x:Int}{w w₁:World}(h:WK N x w)(h0:w₁.heap[N]? =w.heap[N]?)(h2:w₁.heap[N+2]? =w.heap[N+2]?)(h4:w₁.heap[N+4]? =w.heap[N+4]?):WK N x w₁:=
 ⟨h0.trans h.blk,(World.cell?_of_block h2).trans h.dv,(World.cell?_of_block h4).trans h.ev⟩
theorem WK.rs{N:Nat}{x:Int}{w w₁:World}(h:WK N x w)(r:RS (N+5) (N+6) (N+1) (N+3) w w₁):WK N x w₁:=
 h.of (r _ (by omega) (by omega) (by omega) (by omega)) (r _ (by omega) (by omega) (by omega) (by omega)) (r _ (by omega) (by omega) (by omega) (by omega))
def WKt(N:Nat)(x:Int)[Shy (N+5) N](w:World):Prop:=WK N x w/\KCa 255 (N+5) w
theorem WKt.rca{N:Nat}{x:Int}[Shy (N+5) N]{w w₁:World}(h:WKt N x w)(r:RCa 255 (N+5) (N+6) w w₁):WKt N x w₁:=
 ⟨h.1.of (r.low _ (by omega) (by omega)) (r.low _ (by omega) (by omega)) (r.low _ (by omega) (by omega)),r.k h.2⟩
theorem WKt.full{N:Nat}{x:Int}[Shy (N+5) N]{w:World}(h:WKt N x w):Full N [.int .i64 x] w:=fun _=>h.1.blk
theorem Vn{N B':Nat}[Shy (N+5) N][ShyS N B'](a:Addr)(h0:N<=a.block)(h:a.block<N+5)(hB:a.block<B')(hC:a.block≠N):EvQ (fZ N) (N+5) N 1 ⟨.cell a,false,false⟩:=by
 refine⟨fun fn pos=>⟨rfl,fun x hx=> ?_,by rw [ofEvent_cell];simp,by rw [ofEvent_cell];exact ShyS.own (B':=B') a false false h0 (by omega) hB (by simp)⟩,by simp,by simp,by simp⟩
 simp only [ofEvent_cell,MemAct.touch?,Option.some.injEq]at hx
 subst hx
 refine⟨.inr (.inr ⟨rfl,rfl,fun⟨y,hy,hyb⟩=> ?_⟩),fun hs=> ?_,fun⟨y,hy,hyb,_⟩=> ?_⟩
 ·cases hy;omega
 ·rcases hs with ⟨y,hy,hyb⟩|hs
  ·cases hy;omega
  ·cases hs
 ·cases hy;exact absurd hyb hC
theorem evQ_x{N:Nat}[Shy (N+5) N]:EvQ (fZ N) (N+5) N 1 ⟨.cell ⟨N,0,none⟩,false,false⟩:=
 ⟨fun fn pos=>by rw [ofEvent_cell];exact okOp_theirs rfl (show N≠N+5 by omega) _,by simp,by simp,by simp⟩
def bW:Frame:=baseD 258
noncomputable def Ip:Frame:={(default:Frame)with fn:=Tryz.prog.funcs.size,defers:= [],mode:= .panicking [goexitEntry]}
noncomputable def qN:Code:=Tryz.f258.body.getD .skip
noncomputable def iL:Array Oper:=match qN with| .seq _ (.region _ ops _)=>ops|_=> #[]
noncomputable def MS:Code:=Tryz.f260.body.getD .skip
noncomputable def Bv:Code:=match MS with| .seq _ (.block _ (.loop c))=>c|_=> .skip
noncomputable def TH:Array Oper:=match Bv with| .seq (.block _ (.seq _ (.seq (.region _ ops _) _))) _=>ops|_=> #[]
noncomputable def aftG:Code:=match Bv with| .seq (.block _ (.seq _ (.seq _ c))) _=>c|_=> .skip
noncomputable def PZ:Code:=match Bv with| .seq _ c=>c|_=> .skip
def G9(N:Nat):Deferred:={target:= .fn (.func 258) #[.pointer (some ⟨N+5,0,none⟩),.pointer (some ⟨N,0,none⟩),.pointer (some ⟨N+2,0,none⟩),.pointer (some ⟨N+4,0,none⟩)],args:= #[]}
noncomputable def frW(N:Nat)(x:Int):Frame:=bW.at ⟨#[.pointer (some ⟨N+5,0,none⟩),.pointer (some ⟨N,0,none⟩),.pointer (some ⟨N+2,0,none⟩),.pointer (some ⟨N+4,0,none⟩),.int .i64 x,.int .i64 (aj x),.chan (some (N+1)),.chan (some (N+3)),undef],[dcall 259 #[.pointer (some ⟨N+5,0,none⟩)]]⟩ [.inRegion iL [4]]
noncomputable def EO(N:Nat)(x d:Int)(v8 v9 v13 v14 v15 v16:Value):Goroutine:=
 G ((base 260).at ⟨#[.int .i64 (aj x),.chan (some (N+1)),.chan (some (N+3)),undef,undef,undef,.int .i64 d,.int .i64 (aj x),v8,v9,.chan (some (N+1)),.int .i64 d,.chan (some (N+3)),v13,v14,v15,v16],[]⟩
  [.inRegion TH [0,1,2,3],.code aftG,.inBlock 1,.code PZ,.inLoop Bv,.inBlock 0]) [frW N x,Ip]
theorem QK(N:Nat)(x d:Int)(v8 v9 v13 v14 v15 v16:Value)(w:World):stepG Tryz.prog false (EO N x d v8 v9 v13 v14 v15 v16) w=
  .comm (core (EO N x d v8 v9 v13 v14 v15 v16)) (aV (N+1) (N+3) (.int .i64 d) (.int .i64 0) (.agg #[])) true .select w #[]:=by
 unfold EO TH
 simp only [Bv,MS,Tryz.f260,Option.getD_some]
 rw [stepG_comm rfl rfl (by decide) (cases:=aV (N+1) (N+3) (.int .i64 d) (.int .i64 0) (.agg #[])) (blocking:=true) (shape:= .select) (w':=w) (by simp [go_sem,execOp,aV,rcase,scase,Act.eval]),listed_none (by simp [go_sem,execOp,Act.eval])]
 rfl
theorem U1(N:Nat)(d:Int):commResult (aV (N+1) (N+3) (.int .i64 d) (.int .i64 0) (.agg #[])) .select 0 undef false= .tuple #[goInt 0,.bool false,.agg #[]]:=by
 simp [commResult,aV,rcase,scase,List.zipIdx_cons]
theorem U5(N:Nat)(d:Int):commResult (aV (N+1) (N+3) (.int .i64 d) (.int .i64 0) (.agg #[])) .select 1 (.agg #[]) false= .tuple #[goInt 1,.bool false,.agg #[]]:=by
 simp [commResult,aV,rcase,scase,List.zipIdx_cons]
theorem WW(T:Array Value):QuitsD Tryz.prog 2 0 (G {bW.at ⟨T,[]⟩ []with mode:= .returning} [Ip]):=by
 refine QuitsD.ctl (g':=G Ip []) rfl (fun w=> ?_) ?_
 ·simp [G,stepG,unwind,doReturn,results,Frame.at,bW,baseD,Ip,Tryz.func258,Tryz.f258,seen,GStep.after,goexitEntry]
 refine QuitsD.ctl (g':={G Ip []with status:= .finished}) rfl (fun w=> ?_) ⟨rfl,rfl⟩
 simp [G,stepG,unwind,Ip,goexitEntry,Frame.catches]
 rfl
section
variable {N B':Nat} [Shy (N+5) N] [ShyS N B'] {x:Int}
theorem shutW(d:Int)(v8 v9 v13 v14 v15 v16:Value)(w:World)(hK:WK N x w)(hk:KCa 255 (N+5) w):
  Goes Tryz.prog false (RCa 255 (N+5) (N+6)) (DCs (fZ N) (N+5) N) (AtR0 Tryz.prog 255 (N+5) N (N+6) [.int .i64 x]) (12+23)
   (Go.Conc.served (core (EO N x d v8 v9 v13 v14 v15 v16)) (commResult (aV (N+1) (N+3) (.int .i64 d) (.int .i64 0) (.agg #[])) .select 1 (.agg #[]) false)) w:=by
 have hF:WKt N x w:=⟨hK,hk⟩
 rw [U5]
 show Goes _ _ _ _ _ _ (Go.Conc.served (EO N x d v8 v9 v13 v14 v15 v16) _) _
 unfold EO frW
 rw [served_fr,Frame.finish_at]
 simp only [TH,aftG,PZ,Bv,MS,iL,qN,Tryz.f260,Tryz.f258,Option.getD_some]
 walk_nrm
 u_op WKt.rca hF
 u_op WKt.rca hF
 u_op WKt.rca hF
 u_c stepG_region_end WKt.rca hF
 u_c stepG_block WKt.rca hF
 u_cond false WKt.rca hF
 u_cond true WKt.rca hF
 u_c stepG_ret' WKt.rca hF
 u_leave0 Tryz.func260 WKt.rca hF
 u_c stepG_region_end WKt.rca hF
 u_c stepG_end WKt.rca hF
 u_unwB WKt.rca hF Tryz.func259 (nm_done Tryz.link) Tryz.f259
 have hA:= @doneD _ Tryz.link Tryz.prog Tryz.P5 (fZ N) (N+5) N (N+6) _ [.int .i64 x] (by omega) (by omega) (by omega)
 simp only [body_done,doneFn,Option.getD_some]at hA
 exact hA rfl (WW _) _ ⟨hF.2,hF.full⟩
end
end Go.Proofs.YthnjjcoahdhmnaaGreatDoor.Sat
end
section
namespace Go.Proofs.YthnjjcoahdhmnaaGreatDoor.Sat
open Go.Conc Go.ConcX Go.RowKit Go.Conc.Lib Go.ConcX.Gen Go.Sq
section
variable {N B':Nat} [Shy (N+5) N] [ShyS N B'] {x:Int}
abbrev StB(N:Nat)[Shy (N+5) N](x:Int)(vs:List Value):Goroutine->World->Prop:=StopB Tryz.prog 255 (N+5) N (N+6) (N+1) (N+3) [.int .i64 x] (fZ N) (.int .i64 0) (.agg #[]) vs
abbrev WaB(N:Nat)[Shy (N+5) N](x:Int)(vs:List Value)(m:Nat)(g:Goroutine)(w:World):Prop:=qF Tryz.prog 255 (N+5) N (N+6) (N+1) (N+3) [.int .i64 x] (fZ N) (.int .i64 0) (.agg #[]) vs m g w
theorem SX(d:Int)(v8 v9 v13 v14 v15 v16:Value)(w:World)(hK:WK N x w):
  Ba Tryz.prog 255 (N+5) N (N+6) (N+1) (N+3) [.int .i64 x] (fZ N) (.int .i64 0) (.agg #[]) (.int .i64 d) (EO N x d v8 v9 v13 v14 v15 v16) w:=
 ⟨rfl,QK N x d v8 v9 v13 v14 v15 v16 w,fun w₂ h hk=>⟨_,shutW d v8 v9 v13 v14 v15 v16 w₂ (hK.rs h) hk⟩⟩
theorem selB:∀ (n:Nat) (d:Int), -9223372036854775808<=d->d+7*n<=9223372036854775807->∀ (v8 v9 v13 v14 v15 v16:Value) (w:World),WK N x w->StB N x (days d n) (EO N x d v8 v9 v13 v14 v15 v16) w:=by
 intro n
 induction n with
 |zero=>intro d h1 h2 v8 v9 v13 v14 v15 v16 w hK;exact⟨_,SX d v8 v9 v13 v14 v15 v16 w hK⟩
 |succ n ih=>
  intro d h1 h2 v8 v9 v13 v14 v15 v16 w hK
  refine⟨SX d v8 v9 v13 v14 v15 v16 w hK,fun w₂ h=>⟨40, ?_⟩⟩
  have hF:=hK.rs h
  have ih':=ih (d+7) (by omega) (by omega)
  have e7:IntKind.i64.wrap (d+7)=d+7:=by rw [IntKind.wrap_i64];omega
  rw [U1]
  show Goes _ _ _ _ _ _ (Go.Conc.served (EO N x d v8 v9 v13 v14 v15 v16) _) _
  unfold EO frW at ih'⊢
  rw [served_fr,Frame.finish_at]
  simp only [TH,aftG,PZ,Bv,MS,iL,qN,Tryz.f260,Tryz.f258,Option.getD_some]at ih'⊢
  walk_nrm
  u_op WK.rs hF
  u_op WK.rs hF
  u_op WK.rs hF
  u_c stepG_region_end WK.rs hF
  u_c stepG_block WK.rs hF
  u_cond true WK.rs hF
  u_c stepG_skip WK.rs hF
  u_c stepG_inBlock WK.rs hF
  u_c stepG_inBlock WK.rs hF
  u_reg WK.rs hF
  u_op WK.rs hF
  u_op WK.rs hF
  try simp only [e7]
  u_op WK.rs hF
  u_c stepG_region_end WK.rs hF
  u_c stepG_inLoop WK.rs hF
  u_c stepG_seq WK.rs hF
  u_c stepG_block WK.rs hF
  u_c stepG_seq WK.rs hF
  u_c stepG_seq WK.rs hF
  u_c stepG_seq WK.rs hF
  u_reg WK.rs hF
  u_op WK.rs hF
  u_c stepG_region_end WK.rs hF
  u_reg WK.rs hF
  u_op WK.rs hF
  u_c stepG_region_end WK.rs hF
  u_reg WK.rs hF
  u_op WK.rs hF
  u_c stepG_region_end WK.rs hF
  u_c stepG_seq WK.rs hF
  u_reg WK.rs hF
  exact Goes.stop fun w₃ r=>ih' _ _ _ _ _ _ w₃ (hF.rs r)
end
noncomputable def stW(N:Nat)(v4 v5 v6 v7:Value)(l:List Nat):Goroutine:=
 G (bW.at ⟨#[.pointer (some ⟨N+5,0,none⟩),.pointer (some ⟨N,0,none⟩),.pointer (some ⟨N+2,0,none⟩),.pointer (some ⟨N+4,0,none⟩),v4,v5,v6,v7,undef],[dcall 259 #[.pointer (some ⟨N+5,0,none⟩)]]⟩ [.inRegion iL l]) [Ip]
theorem RF(N:Nat)[Shy (N+5) N]:Terms (RS (N+5) (N+6) (N+1) (N+3)) (DCs (fZ N) (N+5) N):=⟨fun _ _ _ h k=>h.trans k,fun _=>⟨Aside.refl _ _,by simp⟩⟩
theorem WK.since{N:Nat}{x:Int}{w w':World}(h:WK N x w)(s:Since (RS (N+5) (N+6) (N+1) (N+3)) w w'):WK N x w':=s.elim (fun e=>e▸h) (fun r=>h.rs r)
abbrev PW(N:Nat)[Shy (N+5) N](x:Int)(n m:Nat)(v4 v5 v6 v7:Value)(l:List Nat):Prop:=∀w,WK N x w->WaB N x (days (aj x) n) m (stW N v4 v5 v6 v7 l) w
section
variable {N B':Nat} [Shy (N+5) N] [ShyS N B'] {x:Int} {n m:Nat} {v4 v5 v6 v7:Value} {l:List Nat}
include B' in
theorem op0(hB:N+5<B')(h:PW N x n m (.int .i64 x) v5 v6 v7 l):PW N x n (m+1) v4 v5 v6 v7 (0 :: l):=by
 intro w hF
 simp only [stW,iL,qN,Tryz.f258,Option.getD_some]at h⊢
 u_opw WK.rs hF [WK.xb hF] (Aside.refl _ _) evQ_x
 exact h _ hF
include B' in
theorem op2(hB:N+5<B')(h:PW N x n m v4 v5 (.chan (some (N+1))) v7 l):PW N x n (m+1) v4 v5 v6 v7 (2 :: l):=by
 intro w hF
 simp only [stW,iL,qN,Tryz.f258,Option.getD_some]at h⊢
 u_opw WK.rs hF [WK.dv hF] (Aside.refl _ _) (Vn (B':=B') _ (by simp) (by simp) (by simp;omega) (by simp))
 exact h _ hF
include B' in
theorem op3(hB:N+5<B')(h:PW N x n m v4 v5 v6 (.chan (some (N+3))) l):PW N x n (m+1) v4 v5 v6 v7 (3 :: l):=by
 intro w hF
 simp only [stW,iL,qN,Tryz.f258,Option.getD_some]at h⊢
 u_opw WK.rs hF [WK.ev hF] (Aside.refl _ _) (Vn (B':=B') _ (by simp) (by simp) (by simp;omega) (by simp))
 exact h _ hF
theorem op1{nf:Nat}(hf:∀ (x:Int) (w:World),mF x->CallsC Tryz.prog false (RS (N+5) (N+6) (N+1) (N+3)) (DCs (fZ N) (N+5) N) 229 #[.int .i64 x,.int .i64 6] nf w fun v w'=>v= .int .i64 (aj x)/\Since (RS (N+5) (N+6) (N+1) (N+3)) w w')
  (hx:mF x) (h:PW N x n m (.int .i64 x) (.int .i64 (aj x)) v6 v7 l):PW N x n (m+nf+3) (.int .i64 x) v5 v6 v7 (1 :: l):=by
 intro w hF
 simp only [stW,iL,qN,Tryz.f258,Option.getD_some]at h⊢
 co_apply Goes.call (RF N) rfl rfl (by decide) rfl
 ·walk_nrm
  exact hf _ _ hx
 intro v w' hp
 obtain⟨rfl,hs⟩:=hp
 replace hF:=hF.since hs
 clear hs
 walk_nrm
 exact h _ hF
theorem op4(h1: -9223372036854775808<=aj x)(h2:aj x+7*n<=9223372036854775807):PW N x n 40 (.int .i64 x) (.int .i64 (aj x)) (.chan (some (N+1))) (.chan (some (N+3))) [4]:=by
 intro w hF
 have ih':=selB (N:=N) (x:=x) n (aj x) h1 h2
 simp only [stW,EO,frW,TH,aftG,PZ,Bv,MS,iL,qN,Tryz.f260,Tryz.f258,Option.getD_some]at ih'⊢
 u_call Tryz.func260 (by rfl) Tryz.f260 WK.rs hF
 u_c stepG_seq WK.rs hF
 u_reg WK.rs hF
 u_op WK.rs hF
 u_op WK.rs hF
 u_c stepG_region_end WK.rs hF
 u_c stepG_block WK.rs hF
 u_c stepG_loop WK.rs hF
 u_c stepG_seq WK.rs hF
 u_c stepG_block WK.rs hF
 u_c stepG_seq WK.rs hF
 u_c stepG_seq WK.rs hF
 u_c stepG_seq WK.rs hF
 u_reg WK.rs hF
 u_op WK.rs hF
 u_c stepG_region_end WK.rs hF
 u_reg WK.rs hF
 u_op WK.rs hF
 u_c stepG_region_end WK.rs hF
 u_reg WK.rs hF
 u_op WK.rs hF
 u_c stepG_region_end WK.rs hF
 u_c stepG_seq WK.rs hF
 u_reg WK.rs hF
 exact Goes.stop fun w₃ r=>ih' _ _ _ _ _ _ w₃ (hF.rs r)
theorem VE:Tryz.prog.follows .mixedOrders=true:=by kernel_rfl
theorem Wh:Region.ready .any iL #[false,false,false,false,false]= [0,2,3]:=by kernel_rfl
theorem V5:Region.ready .any iL #[false,false,false,true,false]= [0,2]:=by kernel_rfl
theorem VR:Region.ready .any iL #[false,false,true,false,false]= [0,3]:=by kernel_rfl
theorem WX:Region.ready .any iL #[false,false,true,true,false]= [0]:=by kernel_rfl
theorem WV:Region.ready .any iL #[true,false,false,false,false]= [1,2,3]:=by kernel_rfl
theorem VF:Region.ready .any iL #[true,false,false,true,false]= [1,2]:=by kernel_rfl
theorem WC:Region.ready .any iL #[true,false,true,false,false]= [1,3]:=by kernel_rfl
theorem V4:Region.ready .any iL #[true,false,true,true,false]= [1]:=by kernel_rfl
theorem WL:Region.ready .any iL #[true,true,false,false,false]= [2,3]:=by kernel_rfl
theorem VQ:Region.ready .any iL #[true,true,false,true,false]= [2]:=by kernel_rfl
theorem Ww:Region.ready .any iL #[true,true,true,false,false]= [3]:=by kernel_rfl
theorem W9:Region.ready .any iL #[true,true,true,true,false]= [4]:=by kernel_rfl
theorem PW.mono{m':Nat}(h:PW N x n m v4 v5 v6 v7 l)(hm:m<=m'):PW N x n m' v4 v5 v6 v7 l:=fun w hF=>Goes.mono (h w hF) hm
theorem fq{L:Array Bool}{k:Nat}{rs:List Nat}(hr:Region.ready .any iL L=rs)(hne:rs≠ [])(h:Ord .any iL (k+1) L l):∃i l',l=i :: l'/\i∈rs/\Ord .any iL k (L.setIfInBounds i true) l':=by
 cases h with
 |stop h=>exact absurd (hr.symm.trans h) hne
 |cons h1 h2=>exact⟨_,_,rfl,hr▸h1,h2⟩
section
variable {nf:Nat} (hf:∀ (x:Int) (w:World),mF x->CallsC Tryz.prog false (RS (N+5) (N+6) (N+1) (N+3)) (DCs (fZ N) (N+5) N) 229 #[.int .i64 x,.int .i64 6] nf w fun v w'=>v= .int .i64 (aj x)/\Since (RS (N+5) (N+6) (N+1) (N+3)) w w')
 (hx:mF x) (h1: -9223372036854775808<=aj x) (h2:aj x+7*n<=9223372036854775807) (hB:N+5<B')
include hf hx h1 h2 hB
theorem s211(h:Ord .any iL 1 #[true,true,true,true,false] l):PW N x n (40) (.int .i64 x) (.int .i64 (aj x)) (.chan (some (N+1))) (.chan (some (N+3))) l:=by
 obtain⟨i,l',rfl,hi,h⟩:=fq W9 (by simp) h
 obtain rfl:i=4:=by simpa using hi
 rw [UN h]
 exact(op4 h1 h2).mono (by omega)
theorem s210(h:Ord .any iL 2 #[true,true,true,false,false] l):PW N x n (40+1) (.int .i64 x) (.int .i64 (aj x)) (.chan (some (N+1))) undef l:=by
 obtain⟨i,l',rfl,hi,h⟩:=fq Ww (by simp) h
 obtain rfl:i=3:=by simpa using hi
 exact(op3 (B':=B') hB (s211 hf hx h1 h2 hB h)).mono (by omega)
theorem s201(h:Ord .any iL 2 #[true,true,false,true,false] l):PW N x n (40+1) (.int .i64 x) (.int .i64 (aj x)) undef (.chan (some (N+3))) l:=by
 obtain⟨i,l',rfl,hi,h⟩:=fq VQ (by simp) h
 obtain rfl:i=2:=by simpa using hi
 exact(op2 (B':=B') hB (s211 hf hx h1 h2 hB h)).mono (by omega)
theorem s200(h:Ord .any iL 3 #[true,true,false,false,false] l):PW N x n (40+1+1) (.int .i64 x) (.int .i64 (aj x)) undef undef l:=by
 obtain⟨i,l',rfl,hi,h⟩:=fq WL (by simp) h
 simp only [List.mem_cons,List.not_mem_nil,or_false]at hi
 rcases hi with rfl|rfl
 ·exact(op2 (B':=B') hB (s210 hf hx h1 h2 hB h)).mono (by omega)
 ·exact(op3 (B':=B') hB (s201 hf hx h1 h2 hB h)).mono (by omega)
theorem s111(h:Ord .any iL 2 #[true,false,true,true,false] l):PW N x n (40+(nf+3)) (.int .i64 x) undef (.chan (some (N+1))) (.chan (some (N+3))) l:=by
 obtain⟨i,l',rfl,hi,h⟩:=fq V4 (by simp) h
 obtain rfl:i=1:=by simpa using hi
 exact(op1 hf hx (s211 hf hx h1 h2 hB h)).mono (by omega)
theorem s110(h:Ord .any iL 3 #[true,false,true,false,false] l):PW N x n (40+(nf+3)+1) (.int .i64 x) undef (.chan (some (N+1))) undef l:=by
 obtain⟨i,l',rfl,hi,h⟩:=fq WC (by simp) h
 simp only [List.mem_cons,List.not_mem_nil,or_false]at hi
 rcases hi with rfl|rfl
 ·exact(op1 hf hx (s210 hf hx h1 h2 hB h)).mono (by omega)
 ·exact(op3 (B':=B') hB (s111 hf hx h1 h2 hB h)).mono (by omega)
theorem s101(h:Ord .any iL 3 #[true,false,false,true,false] l):PW N x n (40+(nf+3)+1) (.int .i64 x) undef undef (.chan (some (N+3))) l:=by
 obtain⟨i,l',rfl,hi,h⟩:=fq VF (by simp) h
 simp only [List.mem_cons,List.not_mem_nil,or_false]at hi
 rcases hi with rfl|rfl
 ·exact(op1 hf hx (s201 hf hx h1 h2 hB h)).mono (by omega)
 ·exact(op2 (B':=B') hB (s111 hf hx h1 h2 hB h)).mono (by omega)
theorem s100(h:Ord .any iL 4 #[true,false,false,false,false] l):PW N x n (40+(nf+3)+1+1) (.int .i64 x) undef undef undef l:=by
 obtain⟨i,l',rfl,hi,h⟩:=fq WV (by simp) h
 simp only [List.mem_cons,List.not_mem_nil,or_false]at hi
 rcases hi with rfl|rfl|rfl
 ·exact(op1 hf hx (s200 hf hx h1 h2 hB h)).mono (by omega)
 ·exact(op2 (B':=B') hB (s110 hf hx h1 h2 hB h)).mono (by omega)
 ·exact(op3 (B':=B') hB (s101 hf hx h1 h2 hB h)).mono (by omega)
theorem s011(h:Ord .any iL 3 #[false,false,true,true,false] l):PW N x n (40+(nf+3)+1) undef undef (.chan (some (N+1))) (.chan (some (N+3))) l:=by
 obtain⟨i,l',rfl,hi,h⟩:=fq WX (by simp) h
 obtain rfl:i=0:=by simpa using hi
 exact(op0 (B':=B') hB (s111 hf hx h1 h2 hB h)).mono (by omega)
theorem s010(h:Ord .any iL 4 #[false,false,true,false,false] l):PW N x n (40+(nf+3)+1+1) undef undef (.chan (some (N+1))) undef l:=by
 obtain⟨i,l',rfl,hi,h⟩:=fq VR (by simp) h
 simp only [List.mem_cons,List.not_mem_nil,or_false]at hi
 rcases hi with rfl|rfl
 ·exact(op0 (B':=B') hB (s110 hf hx h1 h2 hB h)).mono (by omega)
 ·exact(op3 (B':=B') hB (s011 hf hx h1 h2 hB h)).mono (by omega)
theorem s001(h:Ord .any iL 4 #[false,false,false,true,false] l):PW N x n (40+(nf+3)+1+1) undef undef undef (.chan (some (N+3))) l:=by
 obtain⟨i,l',rfl,hi,h⟩:=fq V5 (by simp) h
 simp only [List.mem_cons,List.not_mem_nil,or_false]at hi
 rcases hi with rfl|rfl
 ·exact(op0 (B':=B') hB (s101 hf hx h1 h2 hB h)).mono (by omega)
 ·exact(op2 (B':=B') hB (s011 hf hx h1 h2 hB h)).mono (by omega)
theorem s000(h:Ord .any iL 5 #[false,false,false,false,false] l):PW N x n (40+(nf+3)+1+1+1) undef undef undef undef l:=by
 obtain⟨i,l',rfl,hi,h⟩:=fq Wh (by simp) h
 simp only [List.mem_cons,List.not_mem_nil,or_false]at hi
 rcases hi with rfl|rfl|rfl
 ·exact(op0 (B':=B') hB (s100 hf hx h1 h2 hB h)).mono (by omega)
 ·exact(op2 (B':=B') hB (s010 hf hx h1 h2 hB h)).mono (by omega)
 ·exact(op3 (B':=B') hB (s001 hf hx h1 h2 hB h)).mono (by omega)
end
theorem V9(N:Nat)(w:World):stepG Tryz.prog false (born Tryz.prog (G9 N)) w=
  .go (G (bW.at ⟨#[.pointer (some ⟨N+5,0,none⟩),.pointer (some ⟨N,0,none⟩),.pointer (some ⟨N+2,0,none⟩),.pointer (some ⟨N+4,0,none⟩),undef,undef,undef,undef,undef],[]⟩ [.code qN]) [Ip]) w #[]:=by
 simp [born,G9,stepG,unwind,callDeferred,invoke,callFunc,Tryz.func258,Tryz.f258,seen,GStep.after,G,Frame.enter,Frame.at,bW,baseD,Ip,qN]
include B' in
theorem workW(hx:mF x)(h1: -9223372036854775808<=aj x)(h2:aj x+7*n<=9223372036854775807)(hB:N+5<B')(w:World)(hF:WK N x w):∃m,WaB N x (days (aj x) n) m (born Tryz.prog (G9 N)) w:=by
 obtain⟨nf,hf⟩:=WB (main:=false) (RF N)
 refine⟨(40+(nf+3)+1+1+1)+6,Goes.step rfl fun w₁ r₁=> ?_⟩
 rw [V9]
 refine⟨⟨Aside.refl _ _,by simp⟩, ?_⟩
 replace hF:=hF.rs r₁
 clear r₁
 have key:=fun l h=>s000 (l:=l) hf hx h1 h2 hB h
 simp only [stW,qN,iL,Tryz.f258,Option.getD_some]at key⊢
 u_c stepG_seq WK.rs hF
 u_reg WK.rs hF
 u_defer WK.rs hF
 u_c stepG_region_end WK.rs hF
 u_in WK.rs hF
 rw [stepG_region_draw]
 refine⟨⟨⟨rfl,rfl,rfl,rfl,fun _ _=>rfl⟩,by simp⟩, ?_⟩
 exact key _ (Ka VE _) _ ⟨hF.blk,hF.dv,hF.ev⟩
end
end Go.Proofs.YthnjjcoahdhmnaaGreatDoor.Sat
end
section
namespace Go.Proofs.YthnjjcoahdhmnaaGreatDoor.Sat
open Go.Conc Go.ConcX Go.RowKit Go.Conc.Lib Go.ConcX.Gen Go.Sq
structure Hid(N:Nat)(w w₁:World):Prop where
 tape:w₁.tape=w.tape
 os:w₁.os=w.os
 output:w₁.output=w.output
 size:w₁.heap.size=w.heap.size
 block:∀k,k≠N->k≠N+1->k≠N+3->k≠N+5->w₁.heap[k]? =w.heap[k]?
theorem Hid.refl(N:Nat)(w:World):Hid N w w:=⟨rfl,rfl,rfl,rfl,fun _ _ _ _ _=>rfl⟩
theorem Hid.trans{N:Nat}{a b c:World}(h:Hid N a b)(h':Hid N b c):Hid N a c:=⟨h'.tape.trans h.tape,h'.os.trans h.os,h'.output.trans h.output,h'.size.trans h.size,fun k a b c d=>(h'.block k a b c d).trans (h.block k a b c d)⟩
theorem Hid.of1{N:Nat}{w w₁:World}(h:Aside N w w₁):Hid N w w₁:=⟨h.tape,h.os,h.output,h.size,fun k a _ _ _=>h.block k a⟩
theorem Hid.ofD{N:Nat}{w w₁:World}(h:Aside2 N (N+1) w w₁):Hid N w w₁:=⟨h.tape,h.os,h.output,h.size,fun k a b _ _=>h.block k a b⟩
theorem Hid.ofW{N:Nat}{w w₁:World}(h:Aside2 N (N+5) w w₁):Hid N w w₁:=⟨h.tape,h.os,h.output,h.size,fun k a _ _ b=>h.block k a b⟩
theorem Hid.ofE{N:Nat}{w:World}{cap s r:Nat}{buf:Array Value}{cl tm:Bool}:Hid N w (w.setChan (N+3) cap buf cl s r tm):=⟨rfl,rfl,rfl,by simp [World.setChan],fun k _ _ a _=>bB a⟩
theorem Hid.ofA{N:Nat}{w w₁:World}(h:AtRel w w₁):Hid N w w₁:= .of1 (Sq.Aside.uy h)
structure KOk(N:Nat)(x to:Int)(KP:List Value->Value->World->Prop):Prop where
 hid:∀{xs:List Value} {out:Value} {w w₁:World},KP xs out w->Hid N w w₁->KP xs out w₁
 app:∀{xs:List Value} {out out':Value} {w w₂ w₃:World},KP xs out w->aj x+7*xs.length<=to->Hid N (w.alloc (.cells #[.int .i64 (aj x+7*xs.length)] 3)) w₂->
  (Builtin.append_ #[30,30] 30 #[out,.slice (some ⟨w.heap.size,0,none⟩) 1 1]).run Tryz.prog w₂= .ok out' w₃->KP (xs++ [.int .i64 (aj x+7*xs.length)]) out' w₃
structure AF(N:Nat)(KP:List Value->Value->World->Prop)(out:Value)(xs:List Value)(w:World):Prop where
 own:w.ownsRow (N+6) 3 1 out xs.length xs
 size:N+6<=w.heap.size
 top:w.heap.size<=N+6+2*xs.length
 dv:w.cell? ⟨N+2,0,none⟩=some (.chan (some (N+1)))
 ev:w.cell? ⟨N+4,0,none⟩=some (.chan (some (N+3)))
 kp:KP xs out w
section
variable {N:Nat} {x to:Int} {v3:Value} {KP:List Value->Value->World->Prop} (hK:KOk N x to KP)
include hK
theorem AF.hid{out:Value}{xs:List Value}{w w₁:World}(h:AF N KP out xs w)(r:Hid N w w₁):AF N KP out xs w₁:=by
 refine⟨⟨h.own.1, ?_⟩,by rw [r.size];exact h.size,by rw [r.size];exact h.top,(World.cell?_of_block (r.block (N+2) (by omega) (by omega) (by omega) (by omega))).trans h.dv,
  (World.cell?_of_block (r.block (N+4) (by omega) (by omega) (by omega) (by omega))).trans h.ev,hK.hid h.kp r⟩
 rcases h.own.2 with h0|⟨g,cp,cur,e,hg,hh,r2⟩
 ·exact .inl h0
 ·exact .inr ⟨g,cp,cur,e,hg,(r.block g (by omega) (by omega) (by omega) (by omega)).trans hh,r2⟩
theorem AF.rs{out:Value}{xs:List Value}{w w₁:World}(h:AF N KP out xs w)(r:Aside N w w₁):AF N KP out xs w₁:=h.hid hK (.of1 r)
end
theorem nP{N B':Nat}[Shy (N+5) N][ShyS N B'](a:Addr)(wr s:Bool)(h0:N<=a.block)(h:a.block≠N+5)(hB:a.block<B')(hC:a.block≠N)(hw:wr=true->N+6<=a.block)(hs:s=true->N+6<=a.block):EvQ (fZ N) (N+5) N 0 ⟨.cell a,wr,s⟩:=by
 refine⟨fun fn pos=>⟨rfl,fun y hy=> ?_,by rw [ofEvent_cell];simp,by rw [ofEvent_cell];exact ShyS.own (B':=B') a wr s h0 h hB hs⟩,by simp,by simp,by simp⟩
 simp only [ofEvent_cell,MemAct.touch?,Option.some.injEq]at hy
 subst hy
 refine⟨.inr (.inl ⟨rfl,fun e=>⟨a,rfl,hw e⟩⟩),fun hs=> ?_,fun⟨y,hy,hyb,_⟩=> ?_⟩
 ·rcases hs with ⟨y,hy,hyb⟩|hs
  ·cases hy;exact absurd hyb h
  ·cases hs
 ·cases hy;exact absurd hyb hC
theorem QE{N B':Nat}[Shy (N+5) N][ShyS N B']{m:Mark}(h:Neutral m):EvQ (fZ N) (N+5) N 0 ⟨.mark m,false,true⟩:=by
 unfold Neutral at h
 subst h
 exact⟨fun fn pos=>⟨rfl,fun y hy=>(by simp [MemAct.ofEvent,MemAct.touch?]at hy),by simp [MemAct.ofEvent],by simpa [MemAct.ofEvent]using ShyS.room (N:=N) (B':=B')⟩,by simp,by simp,by simp⟩
theorem uponK_append{P:Program}{o:Oper}{a:Act}{K:Act->World->Prop}{w w':World}{v xv v':Value}(s y:Operand)(t:TypeId)
  (ho:o.op= .call {callee:= .builtin .append,args:= #[s,y],argTypes:= #[t,t]}) (hs:a.eval s=v) (hx:a.eval y=xv)
  (hr:(Builtin.append_ #[t,t] o.type #[v,xv]).run P w= .ok v' w') (h:K (a.put o.dst v') w'):uponK o a K ((execOp a.eval o).run P w):=by
 have e:(execOp a.eval o).run P w= .ok (.value v') w':=by
  unfold execOp
  simp [ho,resolve,invoke,builtin,hs,hx,hr]
 rw [e]
 exact h
theorem events_append_op{P:Program}{o:Oper}{a:Act}{w:World}{v xv:Value}(s y:Operand)(t:TypeId)
  (ho:o.op= .call {callee:= .builtin .append,args:= #[s,y],argTypes:= #[t,t]}) (hs:a.eval s=v) (hx:a.eval y=xv) (es:Array Event):
  (execOp a.eval o).events P w es=(Builtin.append_ #[t,t] o.type #[v,xv]).events P w es:=by
 unfold execOp
 simp only [ho,resolve,invoke,builtin,Sem.events_bind,Sem.run_pure,Sem.events_pure,Result.evThen_ok,List.map_toArray,List.map_cons,List.map_nil,hs,hx]
 cases (Builtin.append_ #[t,t] o.type #[v,xv]).run P w <;> rfl
noncomputable def mK:Code:=Tryz.f209.body.getD .skip
noncomputable def tl4:Code:=match mK with| .seq _ (.seq _ (.seq _ (.seq _ c)))=>c|_=> .skip
noncomputable def tl5:Code:=match tl4 with| .seq _ c=>c|_=> .skip
noncomputable def Vk:Array Oper:=match tl5 with| .seq (.region _ ops _) _=>ops|_=> #[]
noncomputable def tl6:Code:=match tl5 with| .seq _ c=>c|_=> .skip
noncomputable def ops7S:Array Oper:=match tl6 with| .seq _ (.seq (.seq (.region _ ops _) _) _)=>ops|_=> #[]
noncomputable def Ow:Code:=match tl6 with| .seq _ (.seq (.seq _ c) _)=>c|_=> .skip
noncomputable def LB:Code:=match Ow with| .block _ (.loop c)=>c|_=> .skip
noncomputable def ops9S:Array Oper:=match LB with| .seq _ (.seq _ (.region _ ops _))=>ops|_=> #[]
noncomputable def kW:Code:=match tl6 with| .seq _ (.seq _ c)=>c|_=> .skip
noncomputable def ND:Array Oper:=match kW with| .seq (.region _ ops _) _=>ops|_=> #[]
noncomputable def Lg:Code:=match kW with| .seq _ c=>c|_=> .skip
noncomputable def yg:Array Oper:=match Lg with| .seq (.region _ ops _) _=>ops|_=> #[]
noncomputable def BF:Code:=match Lg with| .seq _ c=>c|_=> .skip
def TS(N:Nat)(x to:Int)(v3 out day v12 v13 v14 v15 v16 v17 v18 v19 v20 v21 v22 v23 v24 v25 v26 v27:Value):Array Value:= #[.int .i64 x,.int .i64 to,.pointer (some ⟨N,0,none⟩),v3,.slice none 0 0,.pointer (some ⟨N+2,0,none⟩),.pointer (some ⟨N+4,0,none⟩),.pointer (some ⟨N+5,0,none⟩),out,day,.chan (some (N+1)),.chan (some (N+3)),v12,v13,v14,v15,v16,v17,v18,v19,v20,v21,v22,v23,v24,v25,v26,v27]
section
variable {N B':Nat} [Shy (N+5) N] [ShyS N B'] {x to:Int} {v3:Value} {KP:List Value->Value->World->Prop} {cs:List Frame}
variable (N x to v3 KP cs) in
def AnS(g:Goroutine)(w:World):Prop:=∃ (out:Value) (xs:List Value) (day v12 v13 v14 v15 v16 v17 v18 v19 v20 v21 v22 v23 v24 v25 v26 v27:Value),AnchW7 Tryz.link (fun w=>AF N KP out xs w/\to<aj x+7*xs.length) (N+5) N [.int .i64 x]
 ((base 209).at ⟨TS N x to v3 out day v12 v13 v14 v15 v16 v17 v18 v19 v20 v21 v22 v23 v24 v25 v26 v27,[]⟩ (.inRegion yg (0 :: []) :: [.code BF])) cs g w
abbrev WaA(N:Nat)[Shy (N+5) N](x to:Int)(v3:Value)(KP:List Value->Value->World->Prop)(cs:List Frame)(vs:List Value)(m:Nat)(g:Goroutine)(w:World):Prop:=WalkA Tryz.prog 255 (N+5) N (N+6) (N+1) (N+3) [.int .i64 x] (fZ N) (AnS N x to v3 KP cs) (.int .i64 0) vs m g w
variable (hK:KOk N x to KP)
include hK
theorem fj2(out:Value)(xs:List Value):∀w w',Aside2 N (N+5) w w'->(AF N KP out xs w/\to<aj x+7*xs.length)->(AF N KP out xs w'/\to<aj x+7*xs.length):=fun _ _ h1 h2=>⟨h2.1.hid hK (.ofW h1),h2.2⟩
theorem WM(out:Value)(xs:List Value)(day v12 v13 v14 v15 v16 v17 v18 v19 v20 v21 v22 v23 v24 v25 v26 v27:Value)(w:World)(hF:(AF N KP out xs w/\to<aj x+7*xs.length)/\KPa 255 (N+5) N [.int .i64 x] w):
  Goes Tryz.prog true (RPa 255 (N+5) N [.int .i64 x]) (DPi (fZ N) (N+5) N (N+6)) (AtKd Tryz.prog 255 (N+5) N (N+6) [.int .i64 x] (fZ N) (AnS N x to v3 KP cs)) 7
   (G ((base 209).at ⟨TS N x to v3 out day v12 v13 v14 v15 v16 v17 v18 v19 v20 v21 v22 v23 v24 v25 v26 v27,[]⟩ [.inRegion ND [],.code Lg]) cs) w:=by
 have hA:=waitStart (L:=Tryz.link) (P:=Tryz.prog) Tryz.P5 (Mine:=fZ N) (Wg:=N+5) (C:=N) (Low:=N+6) (vals:= [.int .i64 x]) (F:=fun w=>AF N KP out xs w/\to<aj x+7*xs.length) (b₀:=base 209) (a₀:=⟨TS N x to v3 out day v12 v13 v14 v15 v16 v17 v18 v19 v20 v21 v22 v23 v24 v25 v26 v27,[]⟩) (ops₀:=yg) (i₀:=0) (rest₀:= []) (k₀:= [.code BF]) (cs:=cs) (fj2 hK out xs)
 have hB:∀g w,AtKd Tryz.prog 255 (N+5) N (N+6) [.int .i64 x] (fZ N) (AnchW7 Tryz.link (fun w=>AF N KP out xs w/\to<aj x+7*xs.length) (N+5) N [.int .i64 x] ((base 209).at ⟨TS N x to v3 out day v12 v13 v14 v15 v16 v17 v18 v19 v20 v21 v22 v23 v24 v25 v26 v27,[]⟩ (.inRegion yg (0 :: []) :: [.code BF])) cs) g w->
   AtKd Tryz.prog 255 (N+5) N (N+6) [.int .i64 x] (fZ N) (AnS N x to v3 KP cs) g w:=fun g w=>Rb fun g w h=>⟨out,xs,day,v12,v13,v14,v15,v16,v17,v18,v19,v20,v21,v22,v23,v24,v25,v26,v27,h⟩
 refine fK hB _ ?_
 clear hB
 simp only [TS,ND,yg,BF,Lg,kW,tl6,tl5,tl4,mK,body_wait,Tryz.f209,waitFn,Option.getD_some]at hA⊢
 u_c stepG_region_end (fa_rely (L:=Tryz.link) (fj2 hK out xs)) hF
 u_c stepG_seq (fa_rely (L:=Tryz.link) (fj2 hK out xs)) hF
 u_reg (fa_rely (L:=Tryz.link) (fj2 hK out xs)) hF
 u_in (fa_rely (L:=Tryz.link) (fj2 hK out xs)) hF
 refine goes_call rfl rfl (by decide) rfl Tryz.func261 (nm_wait Tryz.link) rfl ⟨by u_nil, ?_⟩
 walk_nrmf Tryz.f261
 exact hA _ hF
end
end Go.Proofs.YthnjjcoahdhmnaaGreatDoor.Sat
end
section
namespace Go.Proofs.YthnjjcoahdhmnaaGreatDoor.Sat
open Go.Conc Go.ConcX Go.RowKit Go.Conc.Lib Go.ConcX.Gen Go.Sq
theorem core_G(fr:Frame)(cs:List Frame):core (G fr cs)=G fr cs:=rfl
theorem loudS:(Tryz.prog.funcs[209]?).any (·.norace)=false:=by kernel_rfl
theorem WY:(Tryz.prog.info? 3).map (fun i=>(i.zero,i.size,i.bytes))=some (some (.int .i64 0),1,8):=by kernel_rfl
section
variable {N B':Nat} [Shy (N+5) N] [ShyS N B'] {x to:Int} {v3:Value} {KP:List Value->Value->World->Prop} {cs:List Frame} (hK:KOk N x to KP)
include hK
structure AG(N:Nat)(KP:List Value->Value->World->Prop)(out:Value)(xs:List Value)(w:World):Prop where
 af:AF N KP out xs w
 eo:w.heap[N+3]? =some (.chan 0 #[] false 0 0 false)
 wg:w.heap[N+5]? =some (wgBlock 255 KK 0)
theorem AG.rs{out:Value}{xs:List Value}{w w₁:World}(h:AG N KP out xs w)(r:Aside N w w₁):AG N KP out xs w₁:=⟨h.af.rs hK r,(r.block _ (by omega)).trans h.eo,(r.block _ (by omega)).trans h.wg⟩
noncomputable def frR(N:Nat)(x to:Int)(v3 out day v12 v13 v14 v15 v16 v17 v18 v19 v20 v21 v22 v23 v24 v25 v26 v27:Value)(k:List Item)(cs:List Frame):Goroutine:=G ((base 209).at ⟨TS N x to v3 out day v12 v13 v14 v15 v16 v17 v18 v19 v20 v21 v22 v23 v24 v25 v26 v27,[]⟩ k) cs
include B' in
theorem finW(hB:N+5<B')(out:Value)(xs:List Value)(day v12 v13 v14 v15 v16 v17 v18 v19 v20 v21 v22 v23 v24 v25 v26 v27:Value)(w:World)(hF:AG N KP out xs w)(hto:to<aj x+7*xs.length):
  WaA N x to v3 KP cs [] 8 (frR N x to v3 out day v12 v13 v14 v15 v16 v17 v18 v19 v20 v21 v22 v23 v24 v25 v26 v27 [.code kW] cs) w:=by
 have hs:=fun w hw=>WM (v3:=v3) (cs:=cs) hK out xs day v12 v13 v14 v15 v16 v17 v18 v19 v20 v21 v22 v23 v24 (.chan (some (N+3))) v26 v27 w hw
 simp only [frR,TS,ND,Lg,kW,tl6,tl5,tl4,mK,Tryz.f209,Option.getD_some]at hs⊢
 u_c stepG_seq (AG.rs hK) hF
 u_reg (AG.rs hK) hF
 u_opw (AG.rs hK) hF [AF.ev (AG.af hF)] (fun _ _=>rfl) (nP (B':=B') _ _ _ (by simp) (by simp) (by simp;omega) (by simp) (by simp) (by simp))
 refine Goes.stop fun w₂ r=> ?_
 replace hF:=hF.rs hK r
 refine⟨rfl,rfl,_,rfl,stepG_close rfl rfl (by decide) rfl rfl hF.eo loudS,7, ?_⟩
 walk_nrm
 refine hs _ ⟨⟨hF.af.hid hK .ofE,hto⟩,.inl ?_⟩
 show _=_
 rw [bB (by omega)]
 exact hF.wg
omit hK in
theorem MW{out:Value}{n:Nat}{xs:List Value}{w w₁:World}(h:w.ownsRow (N+6) 3 1 out n xs)(r:Hid N w w₁):w₁.ownsRow (N+6) 3 1 out n xs:=by
 refine⟨h.1, ?_⟩
 rcases h.2 with h0|⟨g,cp,cur,e,hg,hh,r2⟩
 ·exact .inl h0
 ·exact .inr ⟨g,cp,cur,e,hg,(r.block g (by omega) (by omega) (by omega) (by omega)).trans hh,r2⟩
include B' in
theorem headW:∀ (k:Nat) (xs:List Value) (d:Int) (out:Value) (v12 v13 v14 v15 v16 v17 v18 v19 v20 v21 v22 v23 v24 v25 v26 v27:Value) (w:World),d=aj x+7*xs.length->(∀j:Nat,j<k->d+7*j<=to)->to<d+7*k->(xs.length+k+1)*8<=140737488355328->N+6+2*(xs.length+k)+2<B'->
  AG N KP out xs w->WaA N x to v3 KP cs (days (d+7) k) 60 (frR N x to v3 out (.int .i64 d) v12 v13 v14 v15 v16 v17 v18 v19 v20 v21 v22 v23 v24 v25 v26 v27 [.code LB,.inLoop LB,.inBlock 0,.code kW] cs) w:=by
 intro k
 induction k with
 |zero=>
  intro xs d out v12 v13 v14 v15 v16 v17 v18 v19 v20 v21 v22 v23 v24 v25 v26 v27 w hd _ hto hlen hB hF
  subst hd
  have hnl:¬ ((aj x+7*(xs.length:Int))<=to):=by omega
  have hfin:=fun v16 v17 v18 w hw=>finW (v3:=v3) (cs:=cs) (B':=B') hK (by omega) out xs (.int .i64 (aj x+7*(xs.length:Int))) v12 v13 v14 v15 v16 v17 v18 v19 v20 v21 v22 v23 v24 v25 v26 v27 w hw (by omega)
  simp only [days]
  simp only [frR,TS,LB,Ow,kW,tl6,tl5,tl4,mK,Tryz.f209,Option.getD_some]at hfin⊢
  u_c stepG_seq (AG.rs hK) hF
  u_c stepG_seq (AG.rs hK) hF
  u_reg (AG.rs hK) hF
  u_op (AG.rs hK) hF
  u_op (AG.rs hK) hF
  u_op (AG.rs hK) hF
  u_c stepG_region_end (AG.rs hK) hF
  try simp only [hnl,decide_false]
  u_cond false (AG.rs hK) hF
  u_exit (AG.rs hK) hF
  exact Goes.mono (hfin _ _ _ _ hF) (by omega)
 | succ k ih=>
  intro xs d out v12 v13 v14 v15 v16 v17 v18 v19 v20 v21 v22 v23 v24 v25 v26 v27 w hd hle hto hlen hB hF
  subst hd
  have hdt:(aj x+7*(xs.length:Int))<=to:=by have:=hle 0 (by omega);omega
  simp only [days]
  simp only [frR,TS,LB,ops9S,Ow,kW,tl6,tl5,tl4,mK,Tryz.f209,Option.getD_some]at ih⊢
  u_c stepG_seq (AG.rs hK) hF
  u_c stepG_seq (AG.rs hK) hF
  u_reg (AG.rs hK) hF
  u_op (AG.rs hK) hF
  u_op (AG.rs hK) hF
  u_op (AG.rs hK) hF
  u_c stepG_region_end (AG.rs hK) hF
  try simp only [hdt,decide_true]
  u_cond true (AG.rs hK) hF
  u_c stepG_skip (AG.rs hK) hF
  u_c stepG_seq (AG.rs hK) hF
  u_c stepG_block (AG.rs hK) hF
  u_reg (AG.rs hK) hF
  u_op (AG.rs hK) hF
  u_op (AG.rs hK) hF
  -- a new block of one cell
  refine Goes.step rfl (fun w₁ h₁=> ?_)
  replace hF:=hF.rs hK h₁
  clear h₁
  refine goes_oper_k rfl rfl (by decide) (fun K hKK=> ?_)
  go_simp
  refine hKK _ _ ⟨⟨fun b hb=>Below.heap_alloc _ _ _ (by have:=hF.af.size;omega),fun e he=> ?_⟩, ?_⟩
  ·have hm:=mem_listed he
   simp [go_sem]at hm
  clear hKK K
  have hsz:=hF.af.size
  have htop:=hF.af.top
  have hnew:(w₁.alloc (.cells #[.int .i64 (aj x+7*(xs.length:Int))] 3)).cell? ⟨w₁.heap.size,0,none⟩=some (.int .i64 (aj x+7*(xs.length:Int))):=by
   rw [World.cell?_alloc_at _ _ _ _ rfl];rfl
  -- append
  refine Goes.step rfl (fun w₂ h₂=> ?_)
  have hh2:Hid N (w₁.alloc (.cells #[.int .i64 (aj x+7*(xs.length:Int))] 3)) w₂:= .of1 h₂
  have hs2:w₂.heap.size=w₁.heap.size+1:=by rw [h₂.size];simp
  have hown2:=MW (hF.af.own.alloc (.cells #[.int .i64 (aj x+7*(xs.length:Int))] 3)) hh2
  replace hnew:w₂.cell? ⟨w₁.heap.size,0,none⟩=some (.int .i64 (aj x+7*(xs.length:Int))):=(World.cell?_of_block (h₂.block _ (by simp;omega))).trans hnew
  have lowb:∀b,b<w₁.heap.size->b≠N->w₂.heap[b]? =w₁.heap[b]? :=fun b hb hN=>(h₂.block b hN).trans (Below.heap_alloc _ _ _ hb)
  obtain⟨i0,hi,hz0,hz1,hz2⟩:=info_parts WY
  have hnews:∀j u,[Value.int .i64 (aj x+7*(xs.length:Int))][j]? =some u->w₂.cell? ((⟨w₁.heap.size,0,none⟩:Addr).add j)=some u:=by
   intro j u hj
   match j,hj with
   |0,hj=>simp at hj;subst hj;simpa [Addr.add]using hnew
  have h1c:∀u∈ [Value.int .i64 (aj x+7*(xs.length:Int))],u.oneCell'=true:=by intro u hu;simp at hu;subst hu;rfl
  have h63:xs.length+1<=maxLen:=by simp only [maxLen];omega
  obtain⟨out',w₃,hr,hown',hgrow,_⟩:=run_append_own (P:=Tryz.prog) w₂ (N+6) 30 30 3 i0 (.int .i64 0) 1 8 Tryz.underlying30 hi hz0 hz1 hz2 rfl (by decide) out xs.length xs hown2 ⟨w₁.heap.size,0,none⟩ 1 1 [.int .i64 (aj x+7*(xs.length:Int))] rfl hnews h1c h63 (by omega) (by omega)
  have hsz3:=Mi (P:=Tryz.prog) w₂ (N+6) 30 30 3 i0 (.int .i64 0) 8 Tryz.underlying30 hi hz0 hz1 hz2 out xs.length xs hown2 ⟨w₁.heap.size,0,none⟩ 1 (.int .i64 (aj x+7*(xs.length:Int))) hnews rfl h63 (by omega) out' w₃ hr
  have hevs:=events_append_where (P:=Tryz.prog) w₂ (N+6) 30 30 3 i0 (.int .i64 0) 1 8 Tryz.underlying30 hi hz0 hz1 hz2 out xs.length xs hown2 ⟨w₁.heap.size,0,none⟩ 1 1 [.int .i64 (aj x+7*(xs.length:Int))] rfl hnews h1c h63 (by omega)
  refine goes_oper_k rfl rfl (by decide) (fun K hKK=> ?_)
  refine uponK_append (.tmp 21) (.tmp 23) 30 rfl rfl rfl hr (hKK _ _ ⟨⟨fun b hb=> ?_,fun e he=> ?_⟩, ?_⟩)
  ·exact hgrow.block b (by omega) (fun e=>by have:=(hown2.lt b e.symm).1;omega)
  ·have hm:=mem_listed he
   rw [events_append_op (.tmp 21) (.tmp 23) 30 rfl rfl rfl]at hm
   rcases hevs e hm with ⟨ad,h2,h3⟩|⟨m,rfl,hn⟩
   ·obtain⟨l,wr,sy⟩:=e
    try simp only at h2 h3
    subst h2
    rcases h3 with ⟨h3,h4⟩|h3
    ·exact nP (B':=B') ad wr sy (by omega) (by omega) (by omega) (by omega) (by rw [h3];simp) (fun _=>by omega)
    ·have h4:=hown2.lt _ h3.symm
     exact nP (B':=B') ad wr sy (by omega) (by omega) (by omega) (by omega) (fun _=>h4.1) (fun _=>h4.1)
   ·exact QE (B':=B') hn
  clear hKK K
  have low3:∀b,b<N+6->b≠N->w₃.heap[b]? =w₁.heap[b]? :=fun b hb hN=>(hgrow.block b (by omega) (fun e=>by have:=(hown2.lt b e.symm).1;omega)).trans (lowb b (by omega) hN)
  have hlen1:(xs++ [Value.int .i64 (aj x+7*(xs.length:Int))]).length=xs.length+1:=by simp
  replace hF:AG N KP out' (xs++ [.int .i64 (aj x+7*(xs.length:Int))]) w₃:=by
   refine⟨⟨by rw [hlen1];exact hown',by have:=hgrow.size;omega,by rw [hlen1];omega,(World.cell?_of_block (low3 (N+2) (by omega) (by omega))).trans hF.af.dv,
    (World.cell?_of_block (low3 (N+4) (by omega) (by omega))).trans hF.af.ev, ?_⟩,(low3 _ (by omega) (by omega)).trans hF.eo,(low3 _ (by omega) (by omega)).trans hF.wg⟩
   exact hK.app hF.af.kp hdt hh2 hr
  clear hr hown' hgrow hevs hnews hnew low3 lowb hsz3 hown2 hh2 hs2 h₂
  walk_nrm
  u_op (AG.rs hK) hF
  u_c stepG_region_end (AG.rs hK) hF
  u_c stepG_inBlock (AG.rs hK) hF
  u_reg (AG.rs hK) hF
  u_opw (AG.rs hK) hF [AF.dv (AG.af hF)] (fun _ _=>rfl) (nP (B':=B') _ _ _ (by simp) (by simp) (by simp;omega) (by simp) (by simp) (by simp))
  refine Goes.stop fun w₄ r=> ?_
  replace hF:=hF.rs hK r
  refine⟨rfl, ?_,fun w₅ h₅=> ?_⟩
  ·rw [stepG_comm rfl rfl (by decide) (cases:= #[rcase (N+1) (.int .i64 0)]) (blocking:=true) (shape:= .recv false) (w':=w₄) (by simp [go_sem,execOp,rcase,Act.eval]),listed_none (by simp [go_sem,execOp,Act.eval])]
   rfl
  ·have hF5:AG N KP out' (xs++ [.int .i64 (aj x+7*(xs.length:Int))]) w₅:=⟨hF.af.hid hK (.ofD h₅),(h₅.block _ (by omega) (by omega)).trans hF.eo,(h₅.block _ (by omega) (by omega)).trans hF.wg⟩
   clear hF h₅
   refine⟨60+3, ?_⟩
   rw [core_G,served_fr,Frame.finish_at]
   walk_nrm
   u_op (AG.rs hK) hF5
   u_c stepG_region_end (AG.rs hK) hF5
   u_c stepG_inLoop (AG.rs hK) hF5
   exact ih _ _ _ _ _ _ _ _ _ _ _ _ _ _ _ _ _ _ _ _ (by rw [hlen1];push_cast;omega) (fun j hj=>by have:=hle (j+1) (by omega);push_cast at this;omega) (by push_cast at hto;omega) (by rw [hlen1];omega) (by rw [hlen1];omega) hF5
end
end Go.Proofs.YthnjjcoahdhmnaaGreatDoor.Sat
end
section
namespace Go.Proofs.YthnjjcoahdhmnaaGreatDoor.Sat
open Go.Conc Go.ConcX Go.RowKit Go.Conc.Lib Go.ConcX.Gen Go.Sq
noncomputable def Rm(N:Nat)(x to:Int)(v3 out day v12 v13 v14 v15 v16 v17 v18 v19 v20 v21 v22 v23 v24 v25 v26 v27:Value)(cs:List Frame):Goroutine:=
 G {(base 209).at ⟨#[.int .i64 x,.int .i64 to,.pointer (some ⟨N,0,none⟩),v3,out,.pointer (some ⟨N+2,0,none⟩),.pointer (some ⟨N+4,0,none⟩),.pointer (some ⟨N+5,0,none⟩),out,day,.chan (some (N+1)),.chan (some (N+3)),v12,v13,v14,v15,v16,v17,v18,v19,v20,v21,v22,v23,v24,v25,v26,v27],[]⟩ [.code .ret]with mode:= .returning} cs
section
variable {N B':Nat} [Shy (N+5) N] [ShyS N B'] {x to:Int} {v3:Value} {KP:List Value->Value->World->Prop} {cs:List Frame} (hK:KOk N x to KP)
include hK
theorem oG{out:Value}{xs:List Value}{w w₁:World}(h:AF N KP out xs w/\to<aj x+7*xs.length)(r:AtRel w w₁):AF N KP out xs w₁/\to<aj x+7*xs.length:=⟨h.1.hid hK (.ofA r),h.2⟩
theorem Wd(hstop:∀ (out:Value) (xs:List Value) (day v12 v13 v14 v15 v16 v17 v18 v19 v20 v21 v22 v23 v24 v25 v26 v27:Value) (w:World),AF N KP out xs w->to<aj x+7*xs.length->Shy.stop (N+5) N (Rm N x to v3 out day v12 v13 v14 v15 v16 v17 v18 v19 v20 v21 v22 v23 v24 v25 v26 v27 cs) w)
  (out:Value) (xs:List Value) (day v12 v13 v14 v15 v16 v17 v18 v19 v20 v21 v22 v23 v24 v25 v26 v27:Value) (w:World) (hF:AF N KP out xs w/\to<aj x+7*xs.length):
  Goes Tryz.prog true AtRel (DPj (fZ N) (N+5) N (N+6)) (AtRetJ Tryz.prog (N+5) N (fZ N) (fun _ _=>True)) 8
   (G ((base 209).at ((⟨TS N x to v3 out day v12 v13 v14 v15 v16 v17 v18 v19 v20 v21 v22 v23 v24 v25 v26 v27,[]⟩:Act).put ((yg[0]?).bind (·.dst)) (.tuple #[])) (.inRegion yg [] :: [.code BF])) cs) w:=by
 simp only [Rm]at hstop
 simp only [TS,yg,BF,Lg,kW,tl6,tl5,tl4,mK,Tryz.f209,Option.getD_some]
 walk_nrm
 u_c stepG_region_end (oG hK) hF
 u_c stepG_seq (oG hK) hF
 u_reg (oG hK) hF
 u_op (oG hK) hF
 u_op (oG hK) hF
 u_c stepG_region_end (oG hK) hF
 u_c stepG_ret' (oG hK) hF
 exact Goes.stop (fun w₂ r₂=>⟨rfl,hstop _ _ _ _ _ _ _ _ _ _ _ _ _ _ _ _ _ _ _ _ (oG hK hF r₂).1 (oG hK hF r₂).2⟩)
theorem WJ(hstop:∀ (out:Value) (xs:List Value) (day v12 v13 v14 v15 v16 v17 v18 v19 v20 v21 v22 v23 v24 v25 v26 v27:Value) (w:World),AF N KP out xs w->to<aj x+7*xs.length->Shy.stop (N+5) N (Rm N x to v3 out day v12 v13 v14 v15 v16 v17 v18 v19 v20 v21 v22 v23 v24 v25 v26 v27 cs) w)
  (g:Goroutine) (w:World) (h:AnS N x to v3 KP cs g w):
  ∃m,Goes Tryz.prog true (RPa 255 (N+5) N [.int .i64 x]) (DPi (fZ N) (N+5) N (N+6)) (AtW1 Tryz.prog 255 (N+5) N (N+6) [.int .i64 x] (fZ N) (AnS N x to v3 KP cs) (fun _ _=>True)) m g w:=by
 obtain⟨out,xs,day,v12,v13,v14,v15,v16,v17,v18,v19,v20,v21,v22,v23,v24,v25,v26,v27,h⟩:=h
 obtain⟨m,hm⟩:=waitRound (L:=Tryz.link) (Mine:=fZ N) (Low:=N+6) (Post:=fun _ _=>True) Tryz.P5 (by omega) (fj2 hK out xs) (fun w hF _ _=>Wd hK hstop out xs day v12 v13 v14 v15 v16 v17 v18 v19 v20 v21 v22 v23 v24 v25 v26 v27 w hF) g w h
 exact⟨m,fK (fun g w=>QI fun g w h=>⟨out,xs,day,v12,v13,v14,v15,v16,v17,v18,v19,v20,v21,v22,v23,v24,v25,v26,v27,h⟩) m hm⟩
theorem Mf(g:Goroutine)(w:World)(h:AnS N x to v3 KP cs g w):g.status= .running:=by
 obtain⟨out,xs,day,v12,v13,v14,v15,v16,v17,v18,v19,v20,v21,v22,v23,v24,v25,v26,v27,T,hg,_⟩:=h
 rw [hg];rfl
end
noncomputable def frGo(N:Nat)(x to:Int)(v3 v8 v9 v14 v15 v16 v17 v18 v19 v20 v21 v22 v23 v24 v25 v26 v27:Value)(cs:List Frame):Goroutine:=
 G ((base 209).at ⟨#[.int .i64 x,.int .i64 to,.pointer (some ⟨N,0,none⟩),v3,.slice none 0 0,.pointer (some ⟨N+2,0,none⟩),.pointer (some ⟨N+4,0,none⟩),.pointer (some ⟨N+5,0,none⟩),v8,v9,.chan (some (N+1)),.chan (some (N+3)),.tuple #[],
  .func (.func 258) #[] #[.pointer (some ⟨N+5,0,none⟩),.pointer (some ⟨N,0,none⟩),.pointer (some ⟨N+2,0,none⟩),.pointer (some ⟨N+4,0,none⟩)],v14,v15,v16,v17,v18,v19,v20,v21,v22,v23,v24,v25,v26,v27],[]⟩ [.inRegion Vk [],.code tl6]) cs
section
variable {N B':Nat} [Shy (N+5) N] [ShyS N B'] {x to:Int} {v3 v8 v9 v14 v15 v16 v17 v18 v19 v20 v21 v22 v23 v24 v25 v26 v27:Value} {KP:List Value->Value->World->Prop} {cs:List Frame} (hK:KOk N x to KP)
include hK
include B' in
theorem Wz(k:Nat)(hle:∀j:Nat,j<k->aj x+7*j<=to)(hto:to<aj x+7*k)(hlen:(k+1)*8<=140737488355328)(hB:N+6+2*k+2<B')(w:World)(hF:AG N KP (.slice none 0 0) [] w):
  WaA N x to v3 KP cs (days (aj x) (k+1)) 20 (frGo N x to v3 v8 v9 v14 v15 v16 v17 v18 v19 v20 v21 v22 v23 v24 v25 v26 v27 cs) w:=by
 have hh:=fun v12 v13 v14 v15 v16 v17 v18 v19 v20 v21 v22 v23 v24 v25 v26 v27 w hw=>headW (v3:=v3) (cs:=cs) (B':=B') hK k [] (aj x) (.slice none 0 0) v12 v13 v14 v15 v16 v17 v18 v19 v20 v21 v22 v23 v24 v25 v26 v27 w (by simp) hle hto (by simpa using hlen) (by simpa using hB) hw
 simp only [days]
 simp only [frGo,frR,TS,LB,Vk,ops7S,Ow,kW,tl6,tl5,tl4,mK,Tryz.f209,Option.getD_some]at hh⊢
 u_c stepG_region_end (AG.rs hK) hF
 u_c stepG_seq (AG.rs hK) hF
 u_reg (AG.rs hK) hF
 u_op (AG.rs hK) hF
 u_c stepG_region_end (AG.rs hK) hF
 u_c stepG_seq (AG.rs hK) hF
 u_c stepG_seq (AG.rs hK) hF
 u_reg (AG.rs hK) hF
 u_opw (AG.rs hK) hF [AF.dv (AG.af hF)] (fun _ _=>rfl) (nP (B':=B') _ _ _ (by simp) (by simp) (by simp;omega) (by simp) (by simp) (by simp))
 refine Goes.stop fun w₄ r=> ?_
 replace hF:=hF.rs hK r
 refine⟨rfl, ?_,fun w₅ h₅=> ?_⟩
 ·rw [stepG_comm rfl rfl (by decide) (cases:= #[rcase (N+1) (.int .i64 0)]) (blocking:=true) (shape:= .recv false) (w':=w₄) (by simp [go_sem,execOp,rcase,Act.eval]),listed_none (by simp [go_sem,execOp,Act.eval])]
  rfl
 ·have hF5:AG N KP (.slice none 0 0) [] w₅:=⟨hF.af.hid hK (.ofD h₅),(h₅.block _ (by omega) (by omega)).trans hF.eo,(h₅.block _ (by omega) (by omega)).trans hF.wg⟩
  clear hF h₅
  refine⟨60+4, ?_⟩
  rw [core_G,served_fr,Frame.finish_at]
  walk_nrm
  u_op (AG.rs hK) hF5
  u_c stepG_region_end (AG.rs hK) hF5
  u_c stepG_block (AG.rs hK) hF5
  u_c stepG_loop (AG.rs hK) hF5
  exact hh _ _ _ _ _ _ _ _ _ _ _ _ _ _ _ _ _ hF5
end
theorem mkD(w:World):(Instr.makeChan 246 (.int .i64 0)).run Tryz.prog w= .ok (.chan (some w.heap.size)) (w.alloc (.chan 0 #[] false 0 0 false)):=by
 have h:(Tryz.prog.info? 3).map (·.bytes)=some 8:=by kernel_rfl
 obtain⟨i,hi,hb⟩:=Option.map_eq_some_iff.1 h
 simpa using run_makeChan (P:=Tryz.prog) (w:=w) Tryz.underlying246 hi .i64 0 (by omega) (by rw [hb];omega)
theorem mkE(w:World):(Instr.makeChan 247 (.int .i64 0)).run Tryz.prog w= .ok (.chan (some w.heap.size)) (w.alloc (.chan 0 #[] false 0 0 false)):=by
 have h:(Tryz.prog.info? 248).map (·.bytes)=some 0:=by kernel_rfl
 obtain⟨i,hi,hb⟩:=Option.map_eq_some_iff.1 h
 simpa using run_makeChan (P:=Tryz.prog) (w:=w) Tryz.underlying247 hi .i64 0 (by omega) (by rw [hb];omega)
theorem evD(w:World)(es:Array Event):(Instr.makeChan 246 (.int .i64 0)).events Tryz.prog w es=es:=by
 have h:(Tryz.prog.info? 3).map (·.bytes)=some 8:=by kernel_rfl
 obtain⟨i,hi,hb⟩:=Option.map_eq_some_iff.1 h
 simpa using events_makeChan (P:=Tryz.prog) (w:=w) Tryz.underlying246 hi .i64 0 (by omega) (by rw [hb];omega) es
theorem evE(w:World)(es:Array Event):(Instr.makeChan 247 (.int .i64 0)).events Tryz.prog w es=es:=by
 have h:(Tryz.prog.info? 248).map (·.bytes)=some 0:=by kernel_rfl
 obtain⟨i,hi,hb⟩:=Option.map_eq_some_iff.1 h
 simpa using events_makeChan (P:=Tryz.prog) (w:=w) Tryz.underlying247 hi .i64 0 (by omega) (by rw [hb];omega) es
noncomputable def gSat(x to:Int)(v2 v3 v4 v5 v6 v7 v8 v9 v10 v11 v12 v13 v14 v15 v16 v17 v18 v19 v20 v21 v22 v23 v24 v25 v26 v27:Value)(cs:List Frame):Goroutine:=G ((base 209).at ⟨#[.int .i64 x,.int .i64 to,v2,v3,v4,v5,v6,v7,v8,v9,v10,v11,v12,v13,v14,v15,v16,v17,v18,v19,v20,v21,v22,v23,v24,v25,v26,v27],[]⟩ [.code mK]) cs
def wS(W:World)(x:Int):World:=
 (((((W.alloc (.cells #[.int .i64 x] 3)).alloc (.chan 0 #[] false 0 0 false)).alloc (.cells #[.chan (some (W.heap.size+1))] 246)).alloc (.chan 0 #[] false 0 0 false)).alloc (.cells #[.chan (some (W.heap.size+3))] 247)).alloc (.cells #[.int .u64 0,.int .u32 0] 255)
theorem new1(w:World)(o:Obj){k:Nat}(hk:k=w.heap.size):(w.alloc o).heap[k]? =some o:=by subst hk;exact heap_alloc_new w o
theorem Cx(W:World)(x:Int):(wS W x).heap.size=W.heap.size+6:=by simp [wS]
theorem wS_b0(W:World)(x:Int):(wS W x).heap[W.heap.size]? =some (.cells #[.int .i64 x] 3):=by
 unfold wS
 iterate 5 rw [Below.heap_alloc _ _ _ (by simp <;> omega)]
 exact new1 _ _ (by simp)
theorem wS_b1(W:World)(x:Int):(wS W x).heap[W.heap.size+1]? =some (.chan 0 #[] false 0 0 false):=by
 unfold wS
 iterate 4 rw [Below.heap_alloc _ _ _ (by simp <;> omega)]
 exact new1 _ _ (by simp)
theorem Vl(W:World)(x:Int):(wS W x).heap[W.heap.size+2]? =some (.cells #[.chan (some (W.heap.size+1))] 246):=by
 unfold wS
 iterate 3 rw [Below.heap_alloc _ _ _ (by simp <;> omega)]
 exact new1 _ _ (by simp)
theorem wS_b3(W:World)(x:Int):(wS W x).heap[W.heap.size+3]? =some (.chan 0 #[] false 0 0 false):=by
 unfold wS
 iterate 2 rw [Below.heap_alloc _ _ _ (by simp <;> omega)]
 exact new1 _ _ (by simp)
theorem VB(W:World)(x:Int):(wS W x).heap[W.heap.size+4]? =some (.cells #[.chan (some (W.heap.size+3))] 247):=by
 unfold wS
 iterate 1 rw [Below.heap_alloc _ _ _ (by simp <;> omega)]
 exact new1 _ _ (by simp)
theorem VA(W:World)(x:Int):(wS W x).heap[W.heap.size+5]? =some (wgBlock 255 0 0):=by
 unfold wS
 exact new1 _ _ (by simp)
theorem Sc(W:World)(x:Int){b:Nat}(h:b<W.heap.size):(wS W x).heap[b]? =W.heap[b]? :=by
 unfold wS
 iterate 6 rw [Below.heap_alloc _ _ _ (by first|omega|(simp <;> omega))]
theorem cell1{w:World}{b:Nat}{v:Value}{t:TypeId}(h:w.heap[b]? =some (.cells #[v] t)):w.cell? ⟨b,0,none⟩=some v:=by simp [World.cell?,h]
section
variable {W:World} {B':Nat} [Shy (W.heap.size+5) W.heap.size] [ShyS W.heap.size B'] {x to:Int} {v3:Value} {KP:List Value->Value->World->Prop} {cs:List Frame} (hK:KOk W.heap.size x to KP)
include hK
theorem wS_ag(hkp:∀w,Hid W.heap.size ((wS W x).setCell (stA (W.heap.size+5)) (.int .u64 KK)) w->KP [] (.slice none 0 0) w)(d:Nat):AG W.heap.size KP (.slice none 0 0) [] (((wS W x).setCell (stA (W.heap.size+5)) (.int .u64 KK)).at d):=by
 have other:∀b,b≠W.heap.size+5->(((wS W x).setCell (stA (W.heap.size+5)) (.int .u64 KK)).at d).heap[b]? =(wS W x).heap[b]? :=fun b hb=>Below.heap_setCell _ _ _ _ hb
 have hwg:WgAt 255 (W.heap.size+5) (wS W x) 0 0:=VA W x
 refine⟨⟨⟨rfl,.inl ⟨rfl,rfl⟩⟩, ?_, ?_,cell1 ((other _ (by omega)).trans (Vl W x)),cell1 ((other _ (by omega)).trans (VB W x)),hkp _ (.ofA ⟨d,rfl⟩)⟩,(other _ (by omega)).trans (wS_b3 W x),hwg.setSt KK⟩
 ·have:(((wS W x).setCell (stA (W.heap.size+5)) (.int .u64 KK)).at d).heap.size=(wS W x).heap.size:=by
   show((wS W x).setCell _ _).heap.size=_
   simp
  rw [this,Cx]
  omega
 ·have:(((wS W x).setCell (stA (W.heap.size+5)) (.int .u64 KK)).at d).heap.size=(wS W x).heap.size:=by
   show((wS W x).setCell _ _).heap.size=_
   simp
  rw [this,Cx]
  simp
omit hK in
theorem wS_wk(W:World)(x:Int)(d:Nat):WK W.heap.size x (((wS W x).setCell (stA (W.heap.size+5)) (.int .u64 KK)).at d):=by
 have other:∀b,b≠W.heap.size+5->(((wS W x).setCell (stA (W.heap.size+5)) (.int .u64 KK)).at d).heap[b]? =(wS W x).heap[b]? :=fun b hb=>Below.heap_setCell _ _ _ _ hb
 exact⟨(other _ (by omega)).trans (wS_b0 W x),cell1 ((other _ (by omega)).trans (Vl W x)),cell1 ((other _ (by omega)).trans (VB W x))⟩
end
end Go.Proofs.YthnjjcoahdhmnaaGreatDoor.Sat
end
section
namespace Go.Proofs.YthnjjcoahdhmnaaGreatDoor.Sat
open Go.Conc Go.ConcX Go.RowKit Go.Conc.Lib Go.ConcX.Gen Go.Sq
section
variable {W:World} {B':Nat} [Shy (W.heap.size+5) W.heap.size] [ShyS W.heap.size B'] {x to:Int} {v3 v2 v4 v5 v6 v7 v8 v9 v10 v11 v12 v13 v14 v15 v16 v17 v18 v19 v20 v21 v22 v23 v24 v25 v26 v27:Value} {KP:List Value->Value->World->Prop} {cs:List Frame} (hK:KOk W.heap.size x to KP)
include hK
theorem loneS(k:Nat)(hx:mF x)(h1: -9223372036854775808<=aj x)(h2:aj x+7*(k+1:Nat)<=9223372036854775807)(hle:∀j:Nat,j<k->aj x+7*j<=to)(hto:to<aj x+7*k)
  (hlen:(k+1)*8<=140737488355328) (hB:W.heap.size+6+2*k+2<B') (hkp:∀w,Hid W.heap.size ((wS W x).setCell (stA (W.heap.size+5)) (.int .u64 KK)) w->KP [] (.slice none 0 0) w):
  Tv Tryz.prog 255 (W.heap.size+5) W.heap.size (W.heap.size+6) (W.heap.size+1) (W.heap.size+3) [.int .i64 x] (fZ W.heap.size) (AnS W.heap.size x to v3 KP cs) (.int .i64 0) (.int .i64 0) (.agg #[]) (days (aj x) (k+1)) (gSat x to v2 v3 v4 v5 v6 v7 v8 v9 v10 v11 v12 v13 v14 v15 v16 v17 v18 v19 v20 v21 v22 v23 v24 v25 v26 v27 cs) W:=by
 refine⟨24+12, ?_⟩
 have hmD:=fun w=>mkD w
 have hmE:=fun w=>mkE w
 have heD:=fun w es=>evD w es
 have heE:=fun w es=>evE w es
 have hA:= @addPos Tryz.link (W.heap.size+5) W.heap.size
 simp only [gSat,mK,body_add,Tryz.f209,addFn,Option.getD_some]at hA⊢
 l_c stepG_seq
 l_reg
 l_opw (‹ShyS _ B'›.own _ _ _ (by simp <;> omega) (by simp <;> omega) (by simp <;> omega) (by simp))
 l_opw (‹ShyS _ B'›.own _ _ _ (by simp <;> omega) (by simp <;> omega) (by simp <;> omega) (by simp))
 l_c stepG_region_end
 l_c stepG_seq
 l_reg
 l_opw (‹ShyS _ B'›.own _ _ _ (by simp <;> omega) (by simp <;> omega) (by simp <;> omega) (by simp))
 l_opw (‹ShyS _ B'›.own _ _ _ (by simp <;> omega) (by simp <;> omega) (by simp <;> omega) (by simp))
 l_opw (‹ShyS _ B'›.own _ _ _ (by simp <;> omega) (by simp <;> omega) (by simp <;> omega) (by simp))
 l_c stepG_region_end
 l_c stepG_seq
 l_reg
 l_opw (‹ShyS _ B'›.own _ _ _ (by simp <;> omega) (by simp <;> omega) (by simp <;> omega) (by simp))
 l_opw (‹ShyS _ B'›.own _ _ _ (by simp <;> omega) (by simp <;> omega) (by simp <;> omega) (by simp))
 l_opw (‹ShyS _ B'›.own _ _ _ (by simp <;> omega) (by simp <;> omega) (by simp <;> omega) (by simp))
 l_c stepG_region_end
 l_c stepG_seq
 l_reg
 l_opw (‹ShyS _ B'›.own _ _ _ (by simp <;> omega) (by simp <;> omega) (by simp <;> omega) (by simp))
 l_c stepG_region_end
 l_c stepG_seq
 l_reg
 l_in
 refine goes_call rfl rfl (by decide) rfl Tryz.func257 (nm_add Tryz.link) rfl ⟨by u_nil, ?_⟩
 walk_nrmf Tryz.f257
 refine hA (mT:=4) Tryz.P5 _ (show WgAt 255 (W.heap.size+5) (World.at (wS W x) _) 0 0 from VA W x) ?_
 clear hA hmD hmE heD heE
 walk_nrm
 l_c stepG_region_end
 l_c stepG_seq
 l_reg
 l_opw (‹ShyS _ B'›.own _ _ _ (by simp <;> omega) (by simp <;> omega) (by simp <;> omega) (by simp))
 refine Goes.stop (fun w₁ h₁=> ?_)
 obtain⟨d,hd⟩:=h₁
 subst hd
 simp only [alloc_at,setCell_at,at_at]
 have hG:=wS_ag hK hkp d
 have hW:=wS_wk W x d
 have hb1:(((wS W x).setCell (stA (W.heap.size+5)) (.int .u64 KK)).at d).heap[W.heap.size+1]? =some (.chan 0 #[] false 0 0 false):=(Below.heap_setCell _ _ _ _ (show W.heap.size+1≠W.heap.size+5 by omega)).trans (wS_b1 W x)
 have hA:=Wz (v3:=v3) (cs:=cs) (B':=B') (v8:=v8) (v9:=v9) (v14:=v14) (v15:=v15) (v16:=v16) (v17:=v17) (v18:=v18) (v19:=v19) (v20:=v20) (v21:=v21) (v22:=v22) (v23:=v23) (v24:=v24) (v25:=v25) (v26:=v26) (v27:=v27) hK k hle hto hlen hB _ hG
 refine⟨rfl,_,born Tryz.prog (G9 W.heap.size),((wS W x).setCell (stA (W.heap.size+5)) (.int .u64 KK)).at d,#[], ?_,by simp,hG.wg,⟨⟨0,0,hb1⟩,hG.eo⟩,⟨_,hA⟩,workW (B':=B') hx h1 h2 (by omega) _ hW⟩
 simp only [frGo,tl6,tl5,tl4,mK,Tryz.f209,Option.getD_some]
 rw [stepG_spawn (d:=G9 W.heap.size) (w':=((wS W x).setCell (stA (W.heap.size+5)) (.int .u64 KK)).at d) (f:= .func 258) (c:= #[.pointer (some ⟨W.heap.size+5,0,none⟩),.pointer (some ⟨W.heap.size,0,none⟩),.pointer (some ⟨W.heap.size+2,0,none⟩),.pointer (some ⟨W.heap.size+4,0,none⟩)]) rfl rfl (by decide) (by simp [go_sem,G9,Deferred.ofValue,wS,alloc_at,setCell_at]) rfl,listed_none (by simp [go_sem,execOp,Act.eval,Deferred.ofValue])]
 rfl
end
end Go.Proofs.YthnjjcoahdhmnaaGreatDoor.Sat
end
section
namespace Go.Proofs.YthnjjcoahdhmnaaGreatDoor.Sat
open Go.Conc Go.ConcX Go.RowKit Go.Conc.Lib Go.ConcX.Gen Go.Sq
def TA(N:Nat)(x to:Int)(v3:Value)(KP:List Value->Value->World->Prop)(cs:List Frame)(g:Goroutine)(w:World):Prop:=
 ∃ (out:Value) (xs:List Value) (day v12 v13 v14 v15 v16 v17 v18 v19 v20 v21 v22 v23 v24 v25 v26 v27:Value),g=Rm N x to v3 out day v12 v13 v14 v15 v16 v17 v18 v19 v20 v21 v22 v23 v24 v25 v26 v27 cs/\AF N KP out xs w/\to<aj x+7*xs.length
theorem G5{W:World}{x to:Int}{v3 v2 v4 v5 v6 v7 v8 v9 v10 v11 v12 v13 v14 v15 v16 v17 v18 v19 v20 v21 v22 v23 v24 v25 v26 v27:Value}{KP:List Value->Value->World->Prop}{cs:List Frame}(hK:KOk W.heap.size x to KP)(k:Nat)(hx:mF x)(h1: -9223372036854775808<=aj x)(h2:aj x+7*(k+1:Nat)<=9223372036854775807)
  (hle:∀j:Nat,j<k->aj x+7*j<=to) (hto:to<aj x+7*k) (hlen:(k+1)*8<=140737488355328)
  (hkp:∀w,Hid W.heap.size ((wS W x).setCell (stA (W.heap.size+5)) (.int .u64 KK)) w->KP [] (.slice none 0 0) w)
  {Shun:Loc->Prop} {B:Nat} {t₀:Trace} (hS:∀a:Addr,W.heap.size<=a.block->¬ Shun (.cell a))
  {gs:Array Goroutine} {sl:Option (Nat×Nat)} {q:Nat->Nat} (h0:gs[0]? =some (gSat x to v2 v3 v4 v5 v6 v7 v8 v9 v10 v11 v12 v13 v14 v15 v16 v17 v18 v19 v20 v21 v22 v23 v24 v25 v26 v27 cs)) (hL:Leavers Tryz.prog t₀ gs q) (hP:Past Shun B t₀):
  ∃ (B' n:Nat) (gs':Array Goroutine) (a':Goroutine) (w':World) (sl':Option (Nat×Nat)) (T':Trace) (q':Nat->Nat),runNT Tryz.prog n (crowd gs W sl) t₀=(.next (crowd gs' w' sl'),T')/\gs'.size=gs.size+1/\gs'[0]? =some a'/\
   TA W.heap.size x to v3 KP cs a' w'/\Leavers Tryz.prog T' gs' q'/\Past (fun l=>Shun l∨OfS (W.heap.size+5) (W.heap.size+3) l) B' T':=by
 let B':=W.heap.size+6+2*k+3+B
 letI I:Shy (W.heap.size+5) W.heap.size:=shyS Shun (fZ W.heap.size) B' (W.heap.size+5) W.heap.size (W.heap.size+3) (TA W.heap.size x to v3 KP cs) (by show _<W.heap.size+6+2*k+3+B;omega) (by show _<W.heap.size+6+2*k+3+B;omega) (fun a ha=>hS a (by omega))
 haveI J:ShyS W.heap.size B':=by
  refine⟨fun a wr s h0 h hB hs=> ?_,iF rfl trivial (fun k e=>by cases e)⟩
  refine⟨fun y hy=> ?_,hB,fun k e=>by cases e⟩
  simp only [MemAct.touch?,Option.some.injEq]at hy
  subst hy
  refine⟨fun h=>absurd h (hS a h0),fun e=> ?_,fun e=>by cases e⟩
  cases s with
  |true=>exact .inr ⟨a,rfl,hs rfl⟩
  |false=>simp at e
 have hG:Geo (W.heap.size+5) W.heap.size (W.heap.size+6) (W.heap.size+1) (W.heap.size+3):=⟨by omega,by omega,by omega,by omega,by omega,by omega,by omega,by omega,by omega,by omega⟩
 have hB1:W.heap.size+1<B':=by show _<W.heap.size+6+2*k+3+B;omega
 have hB3:W.heap.size+3<B':=by show _<W.heap.size+6+2*k+3+B;omega
 have hOk:RD (W.heap.size+5) W.heap.size (W.heap.size+1) (W.heap.size+3):=by
  refine⟨fun n=>iF rfl hB1 (fun k e=>by cases e),fun n m=>iF rfl hB1 (fun k e=>by cases e),fun n=>iF rfl hB1 (fun k e=>by cases e),fun n=>iF rfl hB1 (fun k e=>by cases e),iF rfl hB3 (fun k e=>by cases e), ?_,iF rfl hB3 (fun k e=>by cases e)⟩
  refine⟨fun y hy=> ?_,hB3,fun k e=>by cases e⟩
  simp only [MemAct.touch?,Option.some.injEq]at hy
  subst hy
  exact⟨fun _=>by simp,(fun _=> .inl (.inr rfl)),fun _=>by simp⟩
 have hMS:∀l,fZ W.heap.size l->¬ ShT (W.heap.size+5) W.heap.size l:=by
  rintro l ⟨a,rfl,ha⟩ hs
  rcases hs with (⟨y,hy,hyb⟩|hs)|⟨y,hy,hyb,_⟩
  ·cases hy;omega
  ·cases hs
  ·cases hy;omega
 have hstop:∀ (out:Value) (xs:List Value) (day v12 v13 v14 v15 v16 v17 v18 v19 v20 v21 v22 v23 v24 v25 v26 v27:Value) (w:World),AF W.heap.size KP out xs w->to<aj x+7*xs.length->Shy.stop (W.heap.size+5) W.heap.size (Rm W.heap.size x to v3 out day v12 v13 v14 v15 v16 v17 v18 v19 v20 v21 v22 v23 v24 v25 v26 v27 cs) w:=
  fun out xs day v12 v13 v14 v15 v16 v17 v18 v19 v20 v21 v22 v23 v24 v25 v26 v27 w hA ht=>⟨out,xs,day,v12,v13,v14,v15,v16,v17,v18,v19,v20,v21,v22,v23,v24,v25,v26,v27,rfl,hA,ht⟩
 obtain⟨n,gs',a',w',sl',T',q',r,hs,h0',_,hst,hL',hP'⟩:=Sq.Kh (Shun:=Shun) (B:=B) (B':=B') (Post:=fun _ _=>True) hG hOk (fun g w h=>Mf hK g w h) (fun g w h=>WJ hK hstop g w h) hMS (fun act h=>h) (by show B<=W.heap.size+6+2*k+3+B;omega) h0 hL hP
  (loneS (B':=B') hK k hx h1 h2 hle hto hlen (by show _<W.heap.size+6+2*k+3+B;omega) hkp)
 exact⟨B',n,gs',a',w',sl',T',q',r,hs,h0',hst,hL',hP'⟩
#print axioms G5
end Go.Proofs.YthnjjcoahdhmnaaGreatDoor.Sat
end
section
namespace Go.Proofs.YthnjjcoahdhmnaaGreatDoor.Sat
open Go.Conc Go.RowKit Go.Sq
def opO(dst:Nat)(o:Op):Oper:={dst:=some dst,op:=o,type:=3,pos:= "",after:= #[],guard:=none}
noncomputable def LBo:Code:=match LB with
 | .seq a (.seq b _)=> .seq a (.seq b (.region 209 #[opO 19 (.move (.tmp 9)),opO 20 (.binOp .add 3 (.tmp 19) (.const (.int .i64 7)) 3),opO 9 (.assign (.tmp 20))] false))
 |_=> .skip
def iC:Op:= .binOp .add 3 (.const (.bool true)) (.const (.bool true)) 3
def opG(o:Op)(g:Nat×Bool):Oper:={dst:=some 15,op:=o,type:=3,pos:= "",after:= #[],guard:=some g}
def opsE:Array Oper:= #[opO 28 (.assign (.const (.bool true))),opG iC (0,true),opO 14 (.binOp .leq 3 (.tmp 0) (.const (.int .i64 1099511627776)) 3),opG iC (2,false),
 opO 16 (.binOp .leq 3 (.const (.int .i64 (-1099511627776))) (.tmp 0) 3),opG iC (4,false),opO 17 (.binOp .leq 3 (.tmp 1) (.const (.int .i64 1099511627776)) 3),opG iC (6,false)]
def TU:Array Oper:= #[opO 2 (.box 3 (.const (.int .i64 0))),opO 5 (.box 3 (.const (.int .i64 0))),opO 6 (.box 3 (.const (.int .i64 0))),opO 7 (.box 3 (.const (.int .i64 0))),opO 12 (.box 3 (.const (.int .i64 0))),opO 13 (.box 3 (.const (.int .i64 0))),opO 8 (.assign (.const (.slice none 0 0)))]
def Sd:Array Oper:= #[opO 14 (.binOp .rem 3 (.tmp 0) (.const (.int .i64 7)) 3),opO 15 (.binOp .add 3 (.tmp 14) (.const (.int .i64 7)) 3),opO 19 (.binOp .rem 3 (.tmp 15) (.const (.int .i64 7)) 3),opO 20 (.binOp .sub 3 (.const (.int .i64 6)) (.tmp 19) 3),opO 21 (.binOp .add 3 (.tmp 0) (.tmp 20) 3),opO 9 (.assign (.tmp 21))]
noncomputable def jV:Code:= .seq (.region 199 opsE false) (.seq (.region 200 TU false) (.seq (.region 201 Sd false) (.seq (.block 0 (.loop LBo)) BF)))
noncomputable def Jt:Func:={Tryz.f209 with body:=some jV}
noncomputable def FO:Array Func:=Tryz.prog.funcs.setIfInBounds 209 Jt
theorem O7{f:Nat}(h:f≠209):FO[f]? =Tryz.prog.funcs[f]? :=by
 unfold FO
 exact Array.getElem?_setIfInBounds_ne (Ne.symm h)
theorem Wi:209<Tryz.prog.funcs.size:=(Array.getElem?_eq_some_iff.1 Tryz.func209).1
theorem Es:FO[209]? =some Jt:=by
 unfold FO
 exact Array.getElem?_setIfInBounds_self_of_lt Wi
end Go.Proofs.YthnjjcoahdhmnaaGreatDoor.Sat
end
