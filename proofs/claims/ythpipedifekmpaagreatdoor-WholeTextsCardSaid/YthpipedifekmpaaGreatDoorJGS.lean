import Derived.Test.YthpipedifekmpaaGreatDoorChecked
import Derived.Conc.FxGenDone
import Derived.Conc.FxGenWait
import Derived.Conc.FxGenLone
import Derived.Conc.CompanyWords
import Derived.RowKit
import Derived.KernelRfl
import Derived.Test.YthpipedifekmpaaGreatDoorJGB
import Derived.Conc.BesideWords
import Derived.Conc.TokenWords
import Derived.Conc.CompanyDraw
import Derived.Laws.AppendOwn
import Derived.Laws.MakeOwn
import Derived.Conc.AppendEvents3
import Derived.OwnWalk
import Derived.Laws.NewBlocks
import Derived.Below
import Derived.Conc.SmallLaws
import Derived.Conc.PipeWords
import Derived.Test.YthpipedifekmpaaGreatDoorJGA
set_option maxHeartbeats 8000000
set_option maxRecDepth 100000
set_option linter.unusedSectionVars false
set_option linter.unusedSimpArgs false
set_option linter.unusedVariables false
section
namespace Go.Proofs
abbrev Tryz.link:Go.Conc.Lib.WgLink:={add:=111,done:=113,wait:=116,relMerge:=136,disable:=137,enable:=138,inBubble:=139,associate:=140,fatal:=141,uOr:=142,uAdd:=143,raceRead:=144,uLoad:=145,uStore:=146,disassociate:=147,semrelease:=148,acquire:=150,isAssociated:=151,uCas:=152,raceWrite:=153,semacquire:=154,orU64:=163,addU64:=164,loadU64:=165,storeU64:=166,casU64:=167,tWgP:=191,tUP:=180,tAssoc:=193,tWg:=171,tAU:=169,tU64:=145,tUint:=121,tU32:=116,tPU32:=197,tPAU:=210,tPU64:=212,tNoCopy:=165,tANoCopy:=166,tAlign64:=167}
theorem Tryz.wgLib:Go.Conc.Lib.WgLib Tryz.prog Tryz.link:=
 ⟨Tryz.func111,Tryz.func113,Tryz.func116,Tryz.func136,Tryz.func137,Tryz.func138,Tryz.func139,Tryz.func140,Tryz.func141,Tryz.func142,Tryz.func143,Tryz.func144,Tryz.func145,Tryz.func146,Tryz.func147,Tryz.func148,Tryz.func150,Tryz.func151,Tryz.func152,Tryz.func153,Tryz.func154,Tryz.func163,Tryz.func164,Tryz.func165,Tryz.func166,Tryz.func167,Tryz.underlying191,Tryz.runUnderlying191,Tryz.sizeOf191,Tryz.isAgg191,Tryz.zeroValue191,Tryz.underlying180,Tryz.runUnderlying180,Tryz.sizeOf180,Tryz.isAgg180,Tryz.zeroValue180,Tryz.underlying193,Tryz.runUnderlying193,Tryz.sizeOf193,Tryz.isAgg193,Tryz.zeroValue193,Tryz.underlying171,Tryz.runUnderlying171,Tryz.sizeOf171,Tryz.isAgg171,Tryz.zeroValue171,Tryz.underlying169,Tryz.runUnderlying169,Tryz.sizeOf169,Tryz.isAgg169,Tryz.zeroValue169,Tryz.underlying145,Tryz.runUnderlying145,Tryz.sizeOf145,Tryz.isAgg145,Tryz.zeroValue145,Tryz.underlying121,Tryz.runUnderlying121,Tryz.sizeOf121,Tryz.isAgg121,Tryz.zeroValue121,Tryz.underlying116,Tryz.runUnderlying116,Tryz.sizeOf116,Tryz.isAgg116,Tryz.zeroValue116,Tryz.underlying197,Tryz.runUnderlying197,Tryz.sizeOf197,Tryz.isAgg197,Tryz.zeroValue197,Tryz.underlying210,Tryz.runUnderlying210,Tryz.sizeOf210,Tryz.isAgg210,Tryz.zeroValue210,Tryz.underlying212,Tryz.runUnderlying212,Tryz.sizeOf212,Tryz.isAgg212,Tryz.zeroValue212,Tryz.underlying0,Tryz.runUnderlying0,Tryz.sizeOf0,Tryz.isAgg0,Tryz.zeroValue0,Tryz.underlying3,Tryz.runUnderlying3,Tryz.sizeOf3,Tryz.isAgg3,Tryz.zeroValue3,Tryz.underlying4,Tryz.runUnderlying4,Tryz.sizeOf4,Tryz.isAgg4,Tryz.zeroValue4,Tryz.underlying9,Tryz.runUnderlying9,Tryz.sizeOf9,Tryz.isAgg9,Tryz.zeroValue9,Tryz.underlying20,Tryz.runUnderlying20,Tryz.sizeOf20,Tryz.isAgg20,Tryz.zeroValue20,Tryz.underlying21,Tryz.runUnderlying21,Tryz.sizeOf21,Tryz.isAgg21,Tryz.zeroValue21,(by kernel_rfl),(by kernel_rfl)⟩
end Go.Proofs
end
section
namespace Go.Proofs.YthpipedifekmpaaGreatDoor.Sat
open Go.Conc Go.RowKit
variable {main:Bool} {R:World->World->Prop} {D:World->World->Array Event->Prop}
def firstSat(x:Int):Int:=x+(6-x) % 7
def Day23(x:Int):Prop:= -4611686018427387904<=x/\x<=4611686018427387904
theorem tmod7(x:Int):(0<=x/\Int.tmod x 7=x % 7)∨(x<0/\Int.tmod x 7= -((-x) % 7)):=by
 rcases Int.lt_or_le x 0 with h|h
 ·refine .inr ⟨h, ?_⟩
  have:x= -(-x):=by omega
  rw [this,Int.neg_tmod,Int.tmod_eq_emod_of_nonneg (by omega)]
  simp
 ·exact .inl ⟨h,Int.tmod_eq_emod_of_nonneg h⟩
theorem mod7_c(T:Terms R D):∃n,∀ (x:Int) (w:World),Day23 x->CallsC Tryz.prog main R D 60 #[.int .i64 x,.int .i64 7] n w fun v w'=>v= .tuple #[.int .i64 (x % 7),.int .i64 0]/\Since R w w':=by
 co_apply Exists.intro
 intro x w hx
 obtain⟨h1,h2⟩:=hx
 co_apply callsC_of_wpC Tryz.func60 (by rfl) rfl
 have hF:Since R w w:= .refl w
 simp only [Tryz.ntmps60,List.size_toArray,List.length_cons,List.length_nil,Nat.reduceAdd,Nat.reduceSub,Array.replicate_succ,Array.replicate_zero,List.push_toArray,List.append_toArray,List.nil_append,List.cons_append]
 co_go T (Since.rely T) hF (co_quiet T)
 co_apply wpC_cond T (t:=false)
 focus (exact rfl)
 simp only [Bool.false_eq_true,if_false]
 co_ctl T
 try co_then
 co_apply wpC_seq T
 co_reg T
 co_op (Since.rely T) hF (co_quiet T)
 co_op (Since.rely T) hF (co_quiet T)
 co_op (Since.rely T) hF (co_quiet T)
 co_op (Since.rely T) hF (co_quiet T)
 co_apply opsC_nil T
 co_then
 co_apply wpC_seq_mid T (fun a' w'=>∃ (v11 v12 v13 v14 v15 v16:Value),Since R w w'/\
  a'={tmps:= #[.int .i64 x,.int .i64 7,undef,undef,.int .i64 0,.int .i64 0,.int .i64 (x % 7),.int .i64 7,.bool false,.int .i64 x,.int .i64 7,v11,v12,v13,v14,v15,v16,undef],defers:= []})
 ·co_go T (Since.rely T) hF (co_quiet T)
  co_split T (decide (Int.tmod x 7<0))
  ·intro hx
   replace hx:=of_decide_eq_true hx
   co_go T (Since.rely T) hF (co_quiet T)
   have e:IntKind.i64.wrap (Int.tmod x 7+7)=x % 7:=by
    rw [IntKind.wrap_i64]
    rcases tmod7 x with ⟨c,d⟩|⟨c,d⟩ <;> rw [d]at hx⊢ <;> omega
   simp only [e]
   exact⟨_,_,_,_,_,_,hF,rfl⟩
  ·intro hx
   replace hx:=of_decide_eq_false hx
   co_go T (Since.rely T) hF (co_quiet T)
   have e:Int.tmod x 7=x % 7:=by
    rcases tmod7 x with ⟨c,d⟩|⟨c,d⟩ <;> rw [d]at hx⊢ <;> omega
   simp only [e]
   exact⟨_,_,_,_,_,_,hF,rfl⟩
 ·rintro a' w' ⟨v11,v12,v13,v14,v15,v16,hF,rfl⟩
  co_go T (Since.rely T) hF (co_quiet T)
  exact⟨rfl,_,resultsC_tmp2 (by rfl) _,by simp,hF⟩
theorem weekday7_c(T:Terms R D):∃n,∀ (x:Int) (w:World),Day23 x->CallsC Tryz.prog main R D 33 #[.int .i64 x] n w fun v w'=>v= .int .i64 (x % 7)/\Since R w w':=by
 obtain⟨nm,hm⟩:=mod7_c (main:=main) T
 co_apply Exists.intro
 intro x w hx
 co_apply callsC_of_wpC Tryz.func33 (by rfl) rfl
 have hF:Since R w w:= .refl w
 simp only [Tryz.ntmps33,List.size_toArray,List.length_cons,List.length_nil,Nat.reduceAdd,Nat.reduceSub,Array.replicate_succ,Array.replicate_zero,List.push_toArray,List.append_toArray,List.nil_append,List.cons_append]
 co_go T (Since.rely T) hF (co_quiet T)
 co_apply opsC_call T rfl (by rfl) rfl
 ·walk_nrm
  exact hm _ _ hx
 rintro v w' ⟨rfl,hs⟩
 replace hF:Since R w w':=hs.elim (fun e=>e▸hF) (fun r=>Since.rely T hF r)
 clear hs
 walk_nrm
 co_go T (Since.rely T) hF (co_quiet T)
 refine⟨rfl,_,resultsC_tmp (by rfl) _,by simp,hF⟩
theorem weekday_c(T:Terms R D):∃n,∀ (w:World),CallsC Tryz.prog main R D 149 #[.int .i64 6] n w fun v w'=>v= .bool true/\Since R w w':=by
 co_apply Exists.intro
 intro w
 co_apply callsC_of_wpC Tryz.func149 (by rfl) rfl
 have hF:Since R w w:= .refl w
 simp only [Tryz.ntmps149,List.size_toArray,List.length_cons,List.length_nil,Nat.reduceAdd,Nat.reduceSub,Array.replicate_succ,Array.replicate_zero,List.push_toArray,List.append_toArray,List.nil_append,List.cons_append]
 co_go T (Since.rely T) hF (co_quiet T)
 exact⟨rfl,_,resultsC_tmp (by rfl) _,by simp,hF⟩
theorem from_c(T:Terms R D):∃n,∀ (x:Int) (w:World),Day23 x->CallsC Tryz.prog main R D 115 #[.int .i64 x,.int .i64 6] n w fun v w'=>v= .int .i64 (firstSat x)/\Since R w w':=by
 obtain⟨nm,hm⟩:=weekday7_c (main:=main) T
 obtain⟨nk,hk⟩:=weekday_c (main:=main) T
 have h6:∀y:Int,Day23 y->Day23 (6-y % 7):=fun y h=>by unfold Day23 at*;omega
 co_apply Exists.intro
 intro x w hx
 co_apply callsC_of_wpC Tryz.func115 (by rfl) rfl
 have hF:Since R w w:= .refl w
 simp only [Tryz.ntmps115,List.size_toArray,List.length_cons,List.length_nil,Nat.reduceAdd,Nat.reduceSub,Array.replicate_succ,Array.replicate_zero,List.push_toArray,List.append_toArray,List.nil_append,List.cons_append]
 co_go T (Since.rely T) hF (co_quiet T)
 co_apply opsC_call T rfl (by rfl) rfl
 ·walk_nrm
  exact hk _
 rintro v w' ⟨rfl,hs⟩
 replace hF:Since R w w':=hs.elim (fun e=>e▸hF) (fun r=>Since.rely T hF r)
 clear hs
 walk_nrm
 co_go T (Since.rely T) hF (co_quiet T)
 co_apply wpC_cond T (t:=false)
 focus (exact rfl)
 simp only [Bool.false_eq_true,if_false]
 co_go T (Since.rely T) hF (co_quiet T)
 co_apply opsC_call T rfl (by rfl) rfl
 ·walk_nrm
  exact hm _ _ hx
 rintro v w' ⟨rfl,hs⟩
 replace hF:Since R w w':=hs.elim (fun e=>e▸hF) (fun r=>Since.rely T hF r)
 clear hs
 walk_nrm
 have e6:IntKind.i64.wrap (6-x % 7)=6-x % 7:=by rw [IntKind.wrap_i64];omega
 co_go T (Since.rely T) hF (co_quiet T)
 try simp only [e6]
 co_apply opsC_call T rfl (by rfl) rfl
 ·walk_nrm
  try simp only [e6]
  exact hm _ _ (h6 x hx)
 rintro v w' ⟨rfl,hs⟩
 replace hF:Since R w w':=hs.elim (fun e=>e▸hF) (fun r=>Since.rely T hF r)
 clear hs
 walk_nrm
 have e7:IntKind.i64.wrap (x+(6-x) % 7)=firstSat x:=by unfold Day23 at hx;unfold firstSat;rw [IntKind.wrap_i64];omega
 co_go T (Since.rely T) hF (co_quiet T)
 exact⟨rfl,_,resultsC_tmp (by rfl) _,by simp [e7],hF⟩
end Go.Proofs.YthpipedifekmpaaGreatDoor.Sat
end
section
namespace Go.Proofs.YthpipedifekmpaaGreatDoor.Sat
open Go.Conc Go.ConcX Go.RowKit Go.Conc.Lib Go.ConcX.Gen Go.Sq
instance:Payload:=⟨3⟩
class ShyS (N B':Nat) [Shy (N+5) N]:Prop where
 own:∀ (a:Addr) (wr s:Bool),N<=a.block->a.block≠N+5->a.block<B'->(s=true->N+6<=a.block)->Shy.ok (N+5) N (.access ⟨.cell a,wr,s⟩)
 room:Shy.ok (N+5) N (.mark .noRoom)
def MineS(N:Nat):Loc->Prop:=fun l=>∃a,l= .cell a/\N+6<=a.block
def days(d:Int):Nat->List Value
 |0=> []
 |n+1=> .int .i64 d :: days (d+7) n
structure WK(N:Nat)(x:Int)(w:World):Prop where
 blk:w.heap[N]? =some (.cells #[.int .i64 x] 3)
 dv:w.cell? ⟨N+2,0,none⟩=some (.chan (some (N+1)))
 ev:w.cell? ⟨N+4,0,none⟩=some (.chan (some (N+3)))
theorem WK.xb{N:Nat}{x:Int}{w:World}(h:WK N x w):w.cell? ⟨N,0,none⟩=some (.int .i64 x):=by simp [World.cell?,h.blk]
theorem WK.of{N:Nat}{x:Int}{w w₁:World}(h:WK N x w)(h0:w₁.heap[N]? =w.heap[N]?)(h2:w₁.heap[N+2]? =w.heap[N+2]?)(h4:w₁.heap[N+4]? =w.heap[N+4]?):WK N x w₁:=
 ⟨h0.trans h.blk,(World.cell?_of_block h2).trans h.dv,(World.cell?_of_block h4).trans h.ev⟩
theorem WK.rs{N:Nat}{x:Int}{w w₁:World}(h:WK N x w)(r:RS (N+5) (N+6) (N+1) (N+3) w w₁):WK N x w₁:=
 h.of (r _ (by omega) (by omega) (by omega) (by omega)) (r _ (by omega) (by omega) (by omega) (by omega)) (r _ (by omega) (by omega) (by omega) (by omega))
def WKt(N:Nat)(x:Int)[Shy (N+5) N](w:World):Prop:=WK N x w/\KCa 171 (N+5) w
theorem WKt.rca{N:Nat}{x:Int}[Shy (N+5) N]{w w₁:World}(h:WKt N x w)(r:RCa 171 (N+5) (N+6) w w₁):WKt N x w₁:=
 ⟨h.1.of (r.low _ (by omega) (by omega)) (r.low _ (by omega) (by omega)) (r.low _ (by omega) (by omega)),r.k h.2⟩
theorem WKt.full{N:Nat}{x:Int}[Shy (N+5) N]{w:World}(h:WKt N x w):Full N [.int .i64 x] w:=fun _=>h.1.blk
theorem evQ_r{N B':Nat}[Shy (N+5) N][ShyS N B'](a:Addr)(h0:N<=a.block)(h:a.block<N+5)(hB:a.block<B')(hC:a.block≠N):EvQ (MineS N) (N+5) N 1 ⟨.cell a,false,false⟩:=by
 refine⟨fun fn pos=>⟨rfl,fun x hx=> ?_,by rw [ofEvent_cell];simp,by rw [ofEvent_cell];exact ShyS.own (B':=B') a false false h0 (by omega) hB (by simp)⟩,by simp,by simp,by simp⟩
 simp only [ofEvent_cell,MemAct.touch?,Option.some.injEq]at hx
 subst hx
 refine⟨.inr (.inr ⟨rfl,rfl,fun⟨y,hy,hyb⟩=> ?_⟩),fun hs=> ?_,fun⟨y,hy,hyb,_⟩=> ?_⟩
 ·cases hy;omega
 ·rcases hs with ⟨y,hy,hyb⟩|hs
  ·cases hy;omega
  ·cases hs
 ·cases hy;exact absurd hyb hC
theorem evQ_x{N:Nat}[Shy (N+5) N]:EvQ (MineS N) (N+5) N 1 ⟨.cell ⟨N,0,none⟩,false,false⟩:=
 ⟨fun fn pos=>by rw [ofEvent_cell];exact okOp_theirs rfl (show N≠N+5 by omega) _,by simp,by simp,by simp⟩
def bW:Frame:=baseD 112
noncomputable def botW:Frame:={(default:Frame)with fn:=Tryz.prog.funcs.size,defers:= [],mode:= .panicking [goexitEntry]}
noncomputable def bodyW:Code:=Tryz.f112.body.getD .skip
noncomputable def opsW:Array Oper:=match bodyW with| .seq _ (.region _ ops _)=>ops|_=> #[]
noncomputable def bodyG:Code:=Tryz.f114.body.getD .skip
noncomputable def loopG:Code:=match bodyG with| .seq _ (.block _ (.loop c))=>c|_=> .skip
noncomputable def opsG:Array Oper:=match loopG with| .seq (.block _ (.seq _ (.seq (.region _ ops _) _))) _=>ops|_=> #[]
noncomputable def aftG:Code:=match loopG with| .seq (.block _ (.seq _ (.seq _ c))) _=>c|_=> .skip
noncomputable def nextG:Code:=match loopG with| .seq _ c=>c|_=> .skip
def callW(N:Nat):Deferred:={target:= .fn (.func 112) #[.pointer (some ⟨N+5,0,none⟩),.pointer (some ⟨N,0,none⟩),.pointer (some ⟨N+2,0,none⟩),.pointer (some ⟨N+4,0,none⟩)],args:= #[]}
noncomputable def frW(N:Nat)(x:Int):Frame:=bW.at ⟨#[.pointer (some ⟨N+5,0,none⟩),.pointer (some ⟨N,0,none⟩),.pointer (some ⟨N+2,0,none⟩),.pointer (some ⟨N+4,0,none⟩),.int .i64 x,.int .i64 (firstSat x),.chan (some (N+1)),.chan (some (N+3)),undef],[dcall 113 #[.pointer (some ⟨N+5,0,none⟩)]]⟩ [.inRegion opsW [4]]
noncomputable def selW(N:Nat)(x d:Int)(v8 v9 v13 v14 v15 v16:Value):Goroutine:=
 G ((base 114).at ⟨#[.int .i64 (firstSat x),.chan (some (N+1)),.chan (some (N+3)),undef,undef,undef,.int .i64 d,.int .i64 (firstSat x),v8,v9,.chan (some (N+1)),.int .i64 d,.chan (some (N+3)),v13,v14,v15,v16],[]⟩
  [.inRegion opsG [0,1,2,3],.code aftG,.inBlock 1,.code nextG,.inLoop loopG,.inBlock 0]) [frW N x,botW]
theorem selW_comm(N:Nat)(x d:Int)(v8 v9 v13 v14 v15 v16:Value)(w:World):stepG Tryz.prog false (selW N x d v8 v9 v13 v14 v15 v16) w=
  .comm (core (selW N x d v8 v9 v13 v14 v15 v16)) (twoCases (N+1) (N+3) (.int .i64 d) (.int .i64 0) (.agg #[])) true .select w #[]:=by
 unfold selW opsG
 simp only [loopG,bodyG,Tryz.f114,Option.getD_some]
 rw [stepG_comm rfl rfl (by decide) (cases:=twoCases (N+1) (N+3) (.int .i64 d) (.int .i64 0) (.agg #[])) (blocking:=true) (shape:= .select) (w':=w) (by simp [go_sem,execOp,twoCases,rcase,scase,Act.eval]),listed_none (by simp [go_sem,execOp,Act.eval])]
 rfl
theorem resSent(N:Nat)(d:Int):commResult (twoCases (N+1) (N+3) (.int .i64 d) (.int .i64 0) (.agg #[])) .select 0 undef false= .tuple #[goInt 0,.bool false,.agg #[]]:=by
 simp [commResult,twoCases,rcase,scase,List.zipIdx_cons]
theorem resShut(N:Nat)(d:Int):commResult (twoCases (N+1) (N+3) (.int .i64 d) (.int .i64 0) (.agg #[])) .select 1 (.agg #[]) false= .tuple #[goInt 1,.bool false,.agg #[]]:=by
 simp [commResult,twoCases,rcase,scase,List.zipIdx_cons]
theorem quitsW(T:Array Value):QuitsD Tryz.prog 2 0 (G {bW.at ⟨T,[]⟩ []with mode:= .returning} [botW]):=by
 refine QuitsD.ctl (g':=G botW []) rfl (fun w=> ?_) ?_
 ·simp [G,stepG,unwind,doReturn,results,Frame.at,bW,baseD,botW,Tryz.func112,Tryz.f112,seen,GStep.after,goexitEntry]
 refine QuitsD.ctl (g':={G botW []with status:= .finished}) rfl (fun w=> ?_) ⟨rfl,rfl⟩
 simp [G,stepG,unwind,botW,goexitEntry,Frame.catches]
 rfl
section
variable {N B':Nat} [Shy (N+5) N] [ShyS N B'] {x:Int}
theorem shutW(d:Int)(v8 v9 v13 v14 v15 v16:Value)(w:World)(hK:WK N x w)(hk:KCa 171 (N+5) w):
  Goes Tryz.prog false (RCa 171 (N+5) (N+6)) (DCs (MineS N) (N+5) N) (AtR0 Tryz.prog 171 (N+5) N (N+6) [.int .i64 x]) (12+23)
   (Go.Conc.served (core (selW N x d v8 v9 v13 v14 v15 v16)) (commResult (twoCases (N+1) (N+3) (.int .i64 d) (.int .i64 0) (.agg #[])) .select 1 (.agg #[]) false)) w:=by
 have hF:WKt N x w:=⟨hK,hk⟩
 rw [resShut]
 show Goes _ _ _ _ _ _ (Go.Conc.served (selW N x d v8 v9 v13 v14 v15 v16) _) _
 unfold selW frW
 rw [served_fr,Frame.finish_at]
 simp only [opsG,aftG,nextG,loopG,bodyG,opsW,bodyW,Tryz.f114,Tryz.f112,Option.getD_some]
 walk_nrm
 u_op WKt.rca hF
 u_op WKt.rca hF
 u_op WKt.rca hF
 u_c stepG_region_end WKt.rca hF
 u_c stepG_block WKt.rca hF
 u_cond false WKt.rca hF
 u_cond true WKt.rca hF
 u_c stepG_ret' WKt.rca hF
 u_leave0 Tryz.func114 WKt.rca hF
 u_c stepG_region_end WKt.rca hF
 u_c stepG_end WKt.rca hF
 u_unwB WKt.rca hF Tryz.func113 (nm_done Tryz.link) Tryz.f113
 have hA:= @doneD _ Tryz.link Tryz.prog Tryz.wgLib (MineS N) (N+5) N (N+6) _ [.int .i64 x] (by omega) (by omega) (by omega)
 simp only [body_done,doneFn,Option.getD_some]at hA
 exact hA rfl (quitsW _) _ ⟨hF.2,hF.full⟩
end
end Go.Proofs.YthpipedifekmpaaGreatDoor.Sat
end
section
namespace Go.Proofs.YthpipedifekmpaaGreatDoor.Sat
open Go.Conc Go.ConcX Go.RowKit Go.Conc.Lib Go.ConcX.Gen Go.Sq
section
variable {N B':Nat} [Shy (N+5) N] [ShyS N B'] {x:Int}
abbrev StB(N:Nat)[Shy (N+5) N](x:Int)(vs:List Value):Goroutine->World->Prop:=StopB Tryz.prog 171 (N+5) N (N+6) (N+1) (N+3) [.int .i64 x] (MineS N) (.int .i64 0) (.agg #[]) vs
abbrev WaB(N:Nat)[Shy (N+5) N](x:Int)(vs:List Value)(m:Nat)(g:Goroutine)(w:World):Prop:=WalkB Tryz.prog 171 (N+5) N (N+6) (N+1) (N+3) [.int .i64 x] (MineS N) (.int .i64 0) (.agg #[]) vs m g w
theorem selAtW(d:Int)(v8 v9 v13 v14 v15 v16:Value)(w:World)(hK:WK N x w):
  SelAt Tryz.prog 171 (N+5) N (N+6) (N+1) (N+3) [.int .i64 x] (MineS N) (.int .i64 0) (.agg #[]) (.int .i64 d) (selW N x d v8 v9 v13 v14 v15 v16) w:=
 ⟨rfl,selW_comm N x d v8 v9 v13 v14 v15 v16 w,fun w₂ h hk=>⟨_,shutW d v8 v9 v13 v14 v15 v16 w₂ (hK.rs h) hk⟩⟩
theorem selB:∀ (n:Nat) (d:Int), -9223372036854775808<=d->d+7*n<=9223372036854775807->∀ (v8 v9 v13 v14 v15 v16:Value) (w:World),WK N x w->StB N x (days d n) (selW N x d v8 v9 v13 v14 v15 v16) w:=by
 intro n
 induction n with
 |zero=>intro d h1 h2 v8 v9 v13 v14 v15 v16 w hK;exact⟨_,selAtW d v8 v9 v13 v14 v15 v16 w hK⟩
 |succ n ih=>
  intro d h1 h2 v8 v9 v13 v14 v15 v16 w hK
  refine⟨selAtW d v8 v9 v13 v14 v15 v16 w hK,fun w₂ h=>⟨40, ?_⟩⟩
  have hF:=hK.rs h
  have ih':=ih (d+7) (by omega) (by omega)
  have e7:IntKind.i64.wrap (d+7)=d+7:=by rw [IntKind.wrap_i64];omega
  rw [resSent]
  show Goes _ _ _ _ _ _ (Go.Conc.served (selW N x d v8 v9 v13 v14 v15 v16) _) _
  unfold selW frW at ih'⊢
  rw [served_fr,Frame.finish_at]
  simp only [opsG,aftG,nextG,loopG,bodyG,opsW,bodyW,Tryz.f114,Tryz.f112,Option.getD_some]at ih'⊢
  walk_nrm
  u_op WK.rs hF
  u_op WK.rs hF
  u_op WK.rs hF
  u_c stepG_region_end WK.rs hF
  u_c stepG_block WK.rs hF
  u_cond true WK.rs hF
  u_c stepG_skip WK.rs hF
  u_c stepG_inBlock WK.rs hF
  u_c stepG_inBlock WK.rs hF
  u_reg WK.rs hF
  u_op WK.rs hF
  u_op WK.rs hF
  try simp only [e7]
  u_op WK.rs hF
  u_c stepG_region_end WK.rs hF
  u_c stepG_inLoop WK.rs hF
  u_c stepG_seq WK.rs hF
  u_c stepG_block WK.rs hF
  u_c stepG_seq WK.rs hF
  u_c stepG_seq WK.rs hF
  u_c stepG_seq WK.rs hF
  u_reg WK.rs hF
  u_op WK.rs hF
  u_c stepG_region_end WK.rs hF
  u_reg WK.rs hF
  u_op WK.rs hF
  u_c stepG_region_end WK.rs hF
  u_reg WK.rs hF
  u_op WK.rs hF
  u_c stepG_region_end WK.rs hF
  u_c stepG_seq WK.rs hF
  u_reg WK.rs hF
  exact Goes.stop fun w₃ r=>ih' _ _ _ _ _ _ w₃ (hF.rs r)
end
noncomputable def stW(N:Nat)(v4 v5 v6 v7:Value)(l:List Nat):Goroutine:=
 G (bW.at ⟨#[.pointer (some ⟨N+5,0,none⟩),.pointer (some ⟨N,0,none⟩),.pointer (some ⟨N+2,0,none⟩),.pointer (some ⟨N+4,0,none⟩),v4,v5,v6,v7,undef],[dcall 113 #[.pointer (some ⟨N+5,0,none⟩)]]⟩ [.inRegion opsW l]) [botW]
theorem termsW(N:Nat)[Shy (N+5) N]:Terms (RS (N+5) (N+6) (N+1) (N+3)) (DCs (MineS N) (N+5) N):=⟨fun _ _ _ h k=>h.trans k,fun _=>⟨Aside.refl _ _,by simp⟩⟩
theorem WK.since{N:Nat}{x:Int}{w w':World}(h:WK N x w)(s:Since (RS (N+5) (N+6) (N+1) (N+3)) w w'):WK N x w':=s.elim (fun e=>e▸h) (fun r=>h.rs r)
abbrev PW(N:Nat)[Shy (N+5) N](x:Int)(n m:Nat)(v4 v5 v6 v7:Value)(l:List Nat):Prop:=∀w,WK N x w->WaB N x (days (firstSat x) n) m (stW N v4 v5 v6 v7 l) w
section
variable {N B':Nat} [Shy (N+5) N] [ShyS N B'] {x:Int} {n m:Nat} {v4 v5 v6 v7:Value} {l:List Nat}
include B' in
theorem op0(hB:N+5<B')(h:PW N x n m (.int .i64 x) v5 v6 v7 l):PW N x n (m+1) v4 v5 v6 v7 (0 :: l):=by
 intro w hF
 simp only [stW,opsW,bodyW,Tryz.f112,Option.getD_some]at h⊢
 u_opw WK.rs hF [WK.xb hF] (Aside.refl _ _) evQ_x
 exact h _ hF
include B' in
theorem op2(hB:N+5<B')(h:PW N x n m v4 v5 (.chan (some (N+1))) v7 l):PW N x n (m+1) v4 v5 v6 v7 (2 :: l):=by
 intro w hF
 simp only [stW,opsW,bodyW,Tryz.f112,Option.getD_some]at h⊢
 u_opw WK.rs hF [WK.dv hF] (Aside.refl _ _) (evQ_r (B':=B') _ (by simp) (by simp) (by simp;omega) (by simp))
 exact h _ hF
include B' in
theorem op3(hB:N+5<B')(h:PW N x n m v4 v5 v6 (.chan (some (N+3))) l):PW N x n (m+1) v4 v5 v6 v7 (3 :: l):=by
 intro w hF
 simp only [stW,opsW,bodyW,Tryz.f112,Option.getD_some]at h⊢
 u_opw WK.rs hF [WK.ev hF] (Aside.refl _ _) (evQ_r (B':=B') _ (by simp) (by simp) (by simp;omega) (by simp))
 exact h _ hF
theorem op1{nf:Nat}(hf:∀ (x:Int) (w:World),Day23 x->CallsC Tryz.prog false (RS (N+5) (N+6) (N+1) (N+3)) (DCs (MineS N) (N+5) N) 115 #[.int .i64 x,.int .i64 6] nf w fun v w'=>v= .int .i64 (firstSat x)/\Since (RS (N+5) (N+6) (N+1) (N+3)) w w')
  (hx:Day23 x) (h:PW N x n m (.int .i64 x) (.int .i64 (firstSat x)) v6 v7 l):PW N x n (m+nf+3) (.int .i64 x) v5 v6 v7 (1 :: l):=by
 intro w hF
 simp only [stW,opsW,bodyW,Tryz.f112,Option.getD_some]at h⊢
 co_apply Goes.call (termsW N) rfl rfl (by decide) rfl
 ·walk_nrm
  exact hf _ _ hx
 intro v w' hp
 obtain⟨rfl,hs⟩:=hp
 replace hF:=hF.since hs
 clear hs
 walk_nrm
 exact h _ hF
theorem op4(h1: -9223372036854775808<=firstSat x)(h2:firstSat x+7*n<=9223372036854775807):PW N x n 40 (.int .i64 x) (.int .i64 (firstSat x)) (.chan (some (N+1))) (.chan (some (N+3))) [4]:=by
 intro w hF
 have ih':=selB (N:=N) (x:=x) n (firstSat x) h1 h2
 simp only [stW,selW,frW,opsG,aftG,nextG,loopG,bodyG,opsW,bodyW,Tryz.f114,Tryz.f112,Option.getD_some]at ih'⊢
 u_call Tryz.func114 (by rfl) Tryz.f114 WK.rs hF
 u_c stepG_seq WK.rs hF
 u_reg WK.rs hF
 u_op WK.rs hF
 u_op WK.rs hF
 u_c stepG_region_end WK.rs hF
 u_c stepG_block WK.rs hF
 u_c stepG_loop WK.rs hF
 u_c stepG_seq WK.rs hF
 u_c stepG_block WK.rs hF
 u_c stepG_seq WK.rs hF
 u_c stepG_seq WK.rs hF
 u_c stepG_seq WK.rs hF
 u_reg WK.rs hF
 u_op WK.rs hF
 u_c stepG_region_end WK.rs hF
 u_reg WK.rs hF
 u_op WK.rs hF
 u_c stepG_region_end WK.rs hF
 u_reg WK.rs hF
 u_op WK.rs hF
 u_c stepG_region_end WK.rs hF
 u_c stepG_seq WK.rs hF
 u_reg WK.rs hF
 exact Goes.stop fun w₃ r=>ih' _ _ _ _ _ _ w₃ (hF.rs r)
theorem mixedW:Tryz.prog.follows .mixedOrders=true:=by kernel_rfl
theorem rdy000:Region.ready .any opsW #[false,false,false,false,false]= [0,2,3]:=by kernel_rfl
theorem rdy001:Region.ready .any opsW #[false,false,false,true,false]= [0,2]:=by kernel_rfl
theorem rdy010:Region.ready .any opsW #[false,false,true,false,false]= [0,3]:=by kernel_rfl
theorem rdy011:Region.ready .any opsW #[false,false,true,true,false]= [0]:=by kernel_rfl
theorem rdy100:Region.ready .any opsW #[true,false,false,false,false]= [1,2,3]:=by kernel_rfl
theorem rdy101:Region.ready .any opsW #[true,false,false,true,false]= [1,2]:=by kernel_rfl
theorem rdy110:Region.ready .any opsW #[true,false,true,false,false]= [1,3]:=by kernel_rfl
theorem rdy111:Region.ready .any opsW #[true,false,true,true,false]= [1]:=by kernel_rfl
theorem rdy200:Region.ready .any opsW #[true,true,false,false,false]= [2,3]:=by kernel_rfl
theorem rdy201:Region.ready .any opsW #[true,true,false,true,false]= [2]:=by kernel_rfl
theorem rdy210:Region.ready .any opsW #[true,true,true,false,false]= [3]:=by kernel_rfl
theorem rdy211:Region.ready .any opsW #[true,true,true,true,false]= [4]:=by kernel_rfl
theorem PW.mono{m':Nat}(h:PW N x n m v4 v5 v6 v7 l)(hm:m<=m'):PW N x n m' v4 v5 v6 v7 l:=fun w hF=>Goes.mono (h w hF) hm
theorem ord_cases{L:Array Bool}{k:Nat}{rs:List Nat}(hr:Region.ready .any opsW L=rs)(hne:rs≠ [])(h:Ord .any opsW (k+1) L l):∃i l',l=i :: l'/\i∈rs/\Ord .any opsW k (L.setIfInBounds i true) l':=by
 cases h with
 |stop h=>exact absurd (hr.symm.trans h) hne
 |cons h1 h2=>exact⟨_,_,rfl,hr▸h1,h2⟩
section
variable {nf:Nat} (hf:∀ (x:Int) (w:World),Day23 x->CallsC Tryz.prog false (RS (N+5) (N+6) (N+1) (N+3)) (DCs (MineS N) (N+5) N) 115 #[.int .i64 x,.int .i64 6] nf w fun v w'=>v= .int .i64 (firstSat x)/\Since (RS (N+5) (N+6) (N+1) (N+3)) w w')
 (hx:Day23 x) (h1: -9223372036854775808<=firstSat x) (h2:firstSat x+7*n<=9223372036854775807) (hB:N+5<B')
include hf hx h1 h2 hB
theorem s211(h:Ord .any opsW 1 #[true,true,true,true,false] l):PW N x n (40) (.int .i64 x) (.int .i64 (firstSat x)) (.chan (some (N+1))) (.chan (some (N+3))) l:=by
 obtain⟨i,l',rfl,hi,h⟩:=ord_cases rdy211 (by simp) h
 obtain rfl:i=4:=by simpa using hi
 rw [ord_end h]
 exact(op4 h1 h2).mono (by omega)
theorem s210(h:Ord .any opsW 2 #[true,true,true,false,false] l):PW N x n (40+1) (.int .i64 x) (.int .i64 (firstSat x)) (.chan (some (N+1))) undef l:=by
 obtain⟨i,l',rfl,hi,h⟩:=ord_cases rdy210 (by simp) h
 obtain rfl:i=3:=by simpa using hi
 exact(op3 (B':=B') hB (s211 hf hx h1 h2 hB h)).mono (by omega)
theorem s201(h:Ord .any opsW 2 #[true,true,false,true,false] l):PW N x n (40+1) (.int .i64 x) (.int .i64 (firstSat x)) undef (.chan (some (N+3))) l:=by
 obtain⟨i,l',rfl,hi,h⟩:=ord_cases rdy201 (by simp) h
 obtain rfl:i=2:=by simpa using hi
 exact(op2 (B':=B') hB (s211 hf hx h1 h2 hB h)).mono (by omega)
theorem s200(h:Ord .any opsW 3 #[true,true,false,false,false] l):PW N x n (40+1+1) (.int .i64 x) (.int .i64 (firstSat x)) undef undef l:=by
 obtain⟨i,l',rfl,hi,h⟩:=ord_cases rdy200 (by simp) h
 simp only [List.mem_cons,List.not_mem_nil,or_false]at hi
 rcases hi with rfl|rfl
 ·exact(op2 (B':=B') hB (s210 hf hx h1 h2 hB h)).mono (by omega)
 ·exact(op3 (B':=B') hB (s201 hf hx h1 h2 hB h)).mono (by omega)
theorem s111(h:Ord .any opsW 2 #[true,false,true,true,false] l):PW N x n (40+(nf+3)) (.int .i64 x) undef (.chan (some (N+1))) (.chan (some (N+3))) l:=by
 obtain⟨i,l',rfl,hi,h⟩:=ord_cases rdy111 (by simp) h
 obtain rfl:i=1:=by simpa using hi
 exact(op1 hf hx (s211 hf hx h1 h2 hB h)).mono (by omega)
theorem s110(h:Ord .any opsW 3 #[true,false,true,false,false] l):PW N x n (40+(nf+3)+1) (.int .i64 x) undef (.chan (some (N+1))) undef l:=by
 obtain⟨i,l',rfl,hi,h⟩:=ord_cases rdy110 (by simp) h
 simp only [List.mem_cons,List.not_mem_nil,or_false]at hi
 rcases hi with rfl|rfl
 ·exact(op1 hf hx (s210 hf hx h1 h2 hB h)).mono (by omega)
 ·exact(op3 (B':=B') hB (s111 hf hx h1 h2 hB h)).mono (by omega)
theorem s101(h:Ord .any opsW 3 #[true,false,false,true,false] l):PW N x n (40+(nf+3)+1) (.int .i64 x) undef undef (.chan (some (N+3))) l:=by
 obtain⟨i,l',rfl,hi,h⟩:=ord_cases rdy101 (by simp) h
 simp only [List.mem_cons,List.not_mem_nil,or_false]at hi
 rcases hi with rfl|rfl
 ·exact(op1 hf hx (s201 hf hx h1 h2 hB h)).mono (by omega)
 ·exact(op2 (B':=B') hB (s111 hf hx h1 h2 hB h)).mono (by omega)
theorem s100(h:Ord .any opsW 4 #[true,false,false,false,false] l):PW N x n (40+(nf+3)+1+1) (.int .i64 x) undef undef undef l:=by
 obtain⟨i,l',rfl,hi,h⟩:=ord_cases rdy100 (by simp) h
 simp only [List.mem_cons,List.not_mem_nil,or_false]at hi
 rcases hi with rfl|rfl|rfl
 ·exact(op1 hf hx (s200 hf hx h1 h2 hB h)).mono (by omega)
 ·exact(op2 (B':=B') hB (s110 hf hx h1 h2 hB h)).mono (by omega)
 ·exact(op3 (B':=B') hB (s101 hf hx h1 h2 hB h)).mono (by omega)
theorem s011(h:Ord .any opsW 3 #[false,false,true,true,false] l):PW N x n (40+(nf+3)+1) undef undef (.chan (some (N+1))) (.chan (some (N+3))) l:=by
 obtain⟨i,l',rfl,hi,h⟩:=ord_cases rdy011 (by simp) h
 obtain rfl:i=0:=by simpa using hi
 exact(op0 (B':=B') hB (s111 hf hx h1 h2 hB h)).mono (by omega)
theorem s010(h:Ord .any opsW 4 #[false,false,true,false,false] l):PW N x n (40+(nf+3)+1+1) undef undef (.chan (some (N+1))) undef l:=by
 obtain⟨i,l',rfl,hi,h⟩:=ord_cases rdy010 (by simp) h
 simp only [List.mem_cons,List.not_mem_nil,or_false]at hi
 rcases hi with rfl|rfl
 ·exact(op0 (B':=B') hB (s110 hf hx h1 h2 hB h)).mono (by omega)
 ·exact(op3 (B':=B') hB (s011 hf hx h1 h2 hB h)).mono (by omega)
theorem s001(h:Ord .any opsW 4 #[false,false,false,true,false] l):PW N x n (40+(nf+3)+1+1) undef undef undef (.chan (some (N+3))) l:=by
 obtain⟨i,l',rfl,hi,h⟩:=ord_cases rdy001 (by simp) h
 simp only [List.mem_cons,List.not_mem_nil,or_false]at hi
 rcases hi with rfl|rfl
 ·exact(op0 (B':=B') hB (s101 hf hx h1 h2 hB h)).mono (by omega)
 ·exact(op2 (B':=B') hB (s011 hf hx h1 h2 hB h)).mono (by omega)
theorem s000(h:Ord .any opsW 5 #[false,false,false,false,false] l):PW N x n (40+(nf+3)+1+1+1) undef undef undef undef l:=by
 obtain⟨i,l',rfl,hi,h⟩:=ord_cases rdy000 (by simp) h
 simp only [List.mem_cons,List.not_mem_nil,or_false]at hi
 rcases hi with rfl|rfl|rfl
 ·exact(op0 (B':=B') hB (s100 hf hx h1 h2 hB h)).mono (by omega)
 ·exact(op2 (B':=B') hB (s010 hf hx h1 h2 hB h)).mono (by omega)
 ·exact(op3 (B':=B') hB (s001 hf hx h1 h2 hB h)).mono (by omega)
end
theorem born_w(N:Nat)(w:World):stepG Tryz.prog false (born Tryz.prog (callW N)) w=
  .go (G (bW.at ⟨#[.pointer (some ⟨N+5,0,none⟩),.pointer (some ⟨N,0,none⟩),.pointer (some ⟨N+2,0,none⟩),.pointer (some ⟨N+4,0,none⟩),undef,undef,undef,undef,undef],[]⟩ [.code bodyW]) [botW]) w #[]:=by
 simp [born,callW,stepG,unwind,callDeferred,invoke,callFunc,Tryz.func112,Tryz.f112,seen,GStep.after,G,Frame.enter,Frame.at,bW,baseD,botW,bodyW]
include B' in
theorem workW(hx:Day23 x)(h1: -9223372036854775808<=firstSat x)(h2:firstSat x+7*n<=9223372036854775807)(hB:N+5<B')(w:World)(hF:WK N x w):∃m,WaB N x (days (firstSat x) n) m (born Tryz.prog (callW N)) w:=by
 obtain⟨nf,hf⟩:=from_c (main:=false) (termsW N)
 refine⟨(40+(nf+3)+1+1+1)+6,Goes.step rfl fun w₁ r₁=> ?_⟩
 rw [born_w]
 refine⟨⟨Aside.refl _ _,by simp⟩, ?_⟩
 replace hF:=hF.rs r₁
 clear r₁
 have key:=fun l h=>s000 (l:=l) hf hx h1 h2 hB h
 simp only [stW,bodyW,opsW,Tryz.f112,Option.getD_some]at key⊢
 u_c stepG_seq WK.rs hF
 u_reg WK.rs hF
 u_defer WK.rs hF
 u_c stepG_region_end WK.rs hF
 u_in WK.rs hF
 rw [stepG_region_draw]
 refine⟨⟨⟨rfl,rfl,rfl,rfl,fun _ _=>rfl⟩,by simp⟩, ?_⟩
 exact key _ (ord_schedule mixedW _) _ ⟨hF.blk,hF.dv,hF.ev⟩
end
end Go.Proofs.YthpipedifekmpaaGreatDoor.Sat
end
section
namespace Go.Proofs.YthpipedifekmpaaGreatDoor.Sat
open Go.Conc Go.ConcX Go.RowKit Go.Conc.Lib Go.ConcX.Gen Go.Sq
structure Hid(N:Nat)(w w₁:World):Prop where
 tape:w₁.tape=w.tape
 os:w₁.os=w.os
 output:w₁.output=w.output
 size:w₁.heap.size=w.heap.size
 block:∀k,k≠N->k≠N+1->k≠N+3->k≠N+5->w₁.heap[k]? =w.heap[k]?
theorem Hid.refl(N:Nat)(w:World):Hid N w w:=⟨rfl,rfl,rfl,rfl,fun _ _ _ _ _=>rfl⟩
theorem Hid.trans{N:Nat}{a b c:World}(h:Hid N a b)(h':Hid N b c):Hid N a c:=⟨h'.tape.trans h.tape,h'.os.trans h.os,h'.output.trans h.output,h'.size.trans h.size,fun k a b c d=>(h'.block k a b c d).trans (h.block k a b c d)⟩
theorem Hid.of1{N:Nat}{w w₁:World}(h:Aside N w w₁):Hid N w w₁:=⟨h.tape,h.os,h.output,h.size,fun k a _ _ _=>h.block k a⟩
theorem Hid.ofD{N:Nat}{w w₁:World}(h:Aside2 N (N+1) w w₁):Hid N w w₁:=⟨h.tape,h.os,h.output,h.size,fun k a b _ _=>h.block k a b⟩
theorem Hid.ofW{N:Nat}{w w₁:World}(h:Aside2 N (N+5) w w₁):Hid N w w₁:=⟨h.tape,h.os,h.output,h.size,fun k a _ _ b=>h.block k a b⟩
theorem Hid.ofE{N:Nat}{w:World}{cap s r:Nat}{buf:Array Value}{cl tm:Bool}:Hid N w (w.setChan (N+3) cap buf cl s r tm):=⟨rfl,rfl,rfl,by simp [World.setChan],fun k _ _ a _=>setChan_block a⟩
theorem Hid.ofA{N:Nat}{w w₁:World}(h:AtRel w w₁):Hid N w w₁:= .of1 (Sq.Aside.of_at h)
structure KOk(N:Nat)(x to:Int)(KP:List Value->Value->World->Prop):Prop where
 hid:∀{xs:List Value} {out:Value} {w w₁:World},KP xs out w->Hid N w w₁->KP xs out w₁
 app:∀{xs:List Value} {out out':Value} {w w₂ w₃:World},KP xs out w->firstSat x+7*xs.length<=to->Hid N (w.alloc (.cells #[.int .i64 (firstSat x+7*xs.length)] 3)) w₂->
  (Builtin.append_ #[98,98] 98 #[out,.slice (some ⟨w.heap.size,0,none⟩) 1 1]).run Tryz.prog w₂= .ok out' w₃->KP (xs++ [.int .i64 (firstSat x+7*xs.length)]) out' w₃
structure AF(N:Nat)(KP:List Value->Value->World->Prop)(out:Value)(xs:List Value)(w:World):Prop where
 own:w.ownsRow (N+6) 3 1 out xs.length xs
 size:N+6<=w.heap.size
 top:w.heap.size<=N+6+2*xs.length
 dv:w.cell? ⟨N+2,0,none⟩=some (.chan (some (N+1)))
 ev:w.cell? ⟨N+4,0,none⟩=some (.chan (some (N+3)))
 kp:KP xs out w
section
variable {N:Nat} {x to:Int} {v3:Value} {KP:List Value->Value->World->Prop} (hK:KOk N x to KP)
include hK
theorem AF.hid{out:Value}{xs:List Value}{w w₁:World}(h:AF N KP out xs w)(r:Hid N w w₁):AF N KP out xs w₁:=by
 refine⟨⟨h.own.1, ?_⟩,by rw [r.size];exact h.size,by rw [r.size];exact h.top,(World.cell?_of_block (r.block (N+2) (by omega) (by omega) (by omega) (by omega))).trans h.dv,
  (World.cell?_of_block (r.block (N+4) (by omega) (by omega) (by omega) (by omega))).trans h.ev,hK.hid h.kp r⟩
 rcases h.own.2 with h0|⟨g,cp,cur,e,hg,hh,r2⟩
 ·exact .inl h0
 ·exact .inr ⟨g,cp,cur,e,hg,(r.block g (by omega) (by omega) (by omega) (by omega)).trans hh,r2⟩
theorem AF.rs{out:Value}{xs:List Value}{w w₁:World}(h:AF N KP out xs w)(r:Aside N w w₁):AF N KP out xs w₁:=h.hid hK (.of1 r)
end
theorem evQ0_cell{N B':Nat}[Shy (N+5) N][ShyS N B'](a:Addr)(wr s:Bool)(h0:N<=a.block)(h:a.block≠N+5)(hB:a.block<B')(hC:a.block≠N)(hw:wr=true->N+6<=a.block)(hs:s=true->N+6<=a.block):EvQ (MineS N) (N+5) N 0 ⟨.cell a,wr,s⟩:=by
 refine⟨fun fn pos=>⟨rfl,fun y hy=> ?_,by rw [ofEvent_cell];simp,by rw [ofEvent_cell];exact ShyS.own (B':=B') a wr s h0 h hB hs⟩,by simp,by simp,by simp⟩
 simp only [ofEvent_cell,MemAct.touch?,Option.some.injEq]at hy
 subst hy
 refine⟨.inr (.inl ⟨rfl,fun e=>⟨a,rfl,hw e⟩⟩),fun hs=> ?_,fun⟨y,hy,hyb,_⟩=> ?_⟩
 ·rcases hs with ⟨y,hy,hyb⟩|hs
  ·cases hy;exact absurd hyb h
  ·cases hs
 ·cases hy;exact absurd hyb hC
theorem evQ0_room{N B':Nat}[Shy (N+5) N][ShyS N B']{m:Mark}(h:Neutral m):EvQ (MineS N) (N+5) N 0 ⟨.mark m,false,true⟩:=by
 unfold Neutral at h
 subst h
 exact⟨fun fn pos=>⟨rfl,fun y hy=>(by simp [MemAct.ofEvent,MemAct.touch?]at hy),by simp [MemAct.ofEvent],by simpa [MemAct.ofEvent]using ShyS.room (N:=N) (B':=B')⟩,by simp,by simp,by simp⟩
theorem uponK_append{P:Program}{o:Oper}{a:Act}{K:Act->World->Prop}{w w':World}{v xv v':Value}(s y:Operand)(t:TypeId)
  (ho:o.op= .call {callee:= .builtin .append,args:= #[s,y],argTypes:= #[t,t]}) (hs:a.eval s=v) (hx:a.eval y=xv)
  (hr:(Builtin.append_ #[t,t] o.type #[v,xv]).run P w= .ok v' w') (h:K (a.put o.dst v') w'):uponK o a K ((execOp a.eval o).run P w):=by
 have e:(execOp a.eval o).run P w= .ok (.value v') w':=by
  unfold execOp
  simp [ho,resolve,invoke,builtin,hs,hx,hr]
 rw [e]
 exact h
theorem events_append_op{P:Program}{o:Oper}{a:Act}{w:World}{v xv:Value}(s y:Operand)(t:TypeId)
  (ho:o.op= .call {callee:= .builtin .append,args:= #[s,y],argTypes:= #[t,t]}) (hs:a.eval s=v) (hx:a.eval y=xv) (es:Array Event):
  (execOp a.eval o).events P w es=(Builtin.append_ #[t,t] o.type #[v,xv]).events P w es:=by
 unfold execOp
 simp only [ho,resolve,invoke,builtin,Sem.events_bind,Sem.run_pure,Sem.events_pure,Result.evThen_ok,List.map_toArray,List.map_cons,List.map_nil,hs,hx]
 cases (Builtin.append_ #[t,t] o.type #[v,xv]).run P w <;> rfl
noncomputable def bodyS:Code:=Tryz.f85.body.getD .skip
noncomputable def tl4:Code:=match bodyS with| .seq _ (.seq _ (.seq _ (.seq _ c)))=>c|_=> .skip
noncomputable def tl5:Code:=match tl4 with| .seq _ c=>c|_=> .skip
noncomputable def ops5S:Array Oper:=match tl5 with| .seq (.region _ ops _) _=>ops|_=> #[]
noncomputable def tl6:Code:=match tl5 with| .seq _ c=>c|_=> .skip
noncomputable def ops7S:Array Oper:=match tl6 with| .seq _ (.seq (.seq (.region _ ops _) _) _)=>ops|_=> #[]
noncomputable def blkS:Code:=match tl6 with| .seq _ (.seq (.seq _ c) _)=>c|_=> .skip
noncomputable def LB:Code:=match blkS with| .block _ (.loop c)=>c|_=> .skip
noncomputable def ops9S:Array Oper:=match LB with| .seq _ (.seq _ (.region _ ops _))=>ops|_=> #[]
noncomputable def rest11:Code:=match tl6 with| .seq _ (.seq _ c)=>c|_=> .skip
noncomputable def ops11S:Array Oper:=match rest11 with| .seq (.region _ ops _) _=>ops|_=> #[]
noncomputable def tl12:Code:=match rest11 with| .seq _ c=>c|_=> .skip
noncomputable def ops12S:Array Oper:=match tl12 with| .seq (.region _ ops _) _=>ops|_=> #[]
noncomputable def tl13:Code:=match tl12 with| .seq _ c=>c|_=> .skip
def TS(N:Nat)(x to:Int)(v3 out day v12 v13 v14 v15 v16 v17 v18 v19 v20 v21 v22 v23 v24 v25 v26 v27:Value):Array Value:= #[.int .i64 x,.int .i64 to,.pointer (some ⟨N,0,none⟩),v3,.slice none 0 0,.pointer (some ⟨N+2,0,none⟩),.pointer (some ⟨N+4,0,none⟩),.pointer (some ⟨N+5,0,none⟩),out,day,.chan (some (N+1)),.chan (some (N+3)),v12,v13,v14,v15,v16,v17,v18,v19,v20,v21,v22,v23,v24,v25,v26,v27]
section
variable {N B':Nat} [Shy (N+5) N] [ShyS N B'] {x to:Int} {v3:Value} {KP:List Value->Value->World->Prop} {cs:List Frame}
variable (N x to v3 KP cs) in
def AnS(g:Goroutine)(w:World):Prop:=∃ (out:Value) (xs:List Value) (day v12 v13 v14 v15 v16 v17 v18 v19 v20 v21 v22 v23 v24 v25 v26 v27:Value),AnchW7 Tryz.link (fun w=>AF N KP out xs w/\to<firstSat x+7*xs.length) (N+5) N [.int .i64 x]
 ((base 85).at ⟨TS N x to v3 out day v12 v13 v14 v15 v16 v17 v18 v19 v20 v21 v22 v23 v24 v25 v26 v27,[]⟩ (.inRegion ops12S (0 :: []) :: [.code tl13])) cs g w
abbrev WaA(N:Nat)[Shy (N+5) N](x to:Int)(v3:Value)(KP:List Value->Value->World->Prop)(cs:List Frame)(vs:List Value)(m:Nat)(g:Goroutine)(w:World):Prop:=WalkA Tryz.prog 171 (N+5) N (N+6) (N+1) (N+3) [.int .i64 x] (MineS N) (AnS N x to v3 KP cs) (.int .i64 0) vs m g w
variable (hK:KOk N x to KP)
include hK
theorem fj2(out:Value)(xs:List Value):∀w w',Aside2 N (N+5) w w'->(AF N KP out xs w/\to<firstSat x+7*xs.length)->(AF N KP out xs w'/\to<firstSat x+7*xs.length):=fun _ _ h1 h2=>⟨h2.1.hid hK (.ofW h1),h2.2⟩
theorem startW(out:Value)(xs:List Value)(day v12 v13 v14 v15 v16 v17 v18 v19 v20 v21 v22 v23 v24 v25 v26 v27:Value)(w:World)(hF:(AF N KP out xs w/\to<firstSat x+7*xs.length)/\KPa 171 (N+5) N [.int .i64 x] w):
  Goes Tryz.prog true (RPa 171 (N+5) N [.int .i64 x]) (DPi (MineS N) (N+5) N (N+6)) (AtKd Tryz.prog 171 (N+5) N (N+6) [.int .i64 x] (MineS N) (AnS N x to v3 KP cs)) 7
   (G ((base 85).at ⟨TS N x to v3 out day v12 v13 v14 v15 v16 v17 v18 v19 v20 v21 v22 v23 v24 v25 v26 v27,[]⟩ [.inRegion ops11S [],.code tl12]) cs) w:=by
 have hA:=waitStart (L:=Tryz.link) (P:=Tryz.prog) Tryz.wgLib (Mine:=MineS N) (Wg:=N+5) (C:=N) (Low:=N+6) (vals:= [.int .i64 x]) (F:=fun w=>AF N KP out xs w/\to<firstSat x+7*xs.length) (b₀:=base 85) (a₀:=⟨TS N x to v3 out day v12 v13 v14 v15 v16 v17 v18 v19 v20 v21 v22 v23 v24 v25 v26 v27,[]⟩) (ops₀:=ops12S) (i₀:=0) (rest₀:= []) (k₀:= [.code tl13]) (cs:=cs) (fj2 hK out xs)
 have hB:∀g w,AtKd Tryz.prog 171 (N+5) N (N+6) [.int .i64 x] (MineS N) (AnchW7 Tryz.link (fun w=>AF N KP out xs w/\to<firstSat x+7*xs.length) (N+5) N [.int .i64 x] ((base 85).at ⟨TS N x to v3 out day v12 v13 v14 v15 v16 v17 v18 v19 v20 v21 v22 v23 v24 v25 v26 v27,[]⟩ (.inRegion ops12S (0 :: []) :: [.code tl13])) cs) g w->
   AtKd Tryz.prog 171 (N+5) N (N+6) [.int .i64 x] (MineS N) (AnS N x to v3 KP cs) g w:=fun g w=>atKd_mono fun g w h=>⟨out,xs,day,v12,v13,v14,v15,v16,v17,v18,v19,v20,v21,v22,v23,v24,v25,v26,v27,h⟩
 refine goes_stop_mono hB _ ?_
 clear hB
 simp only [TS,ops11S,ops12S,tl13,tl12,rest11,tl6,tl5,tl4,bodyS,body_wait,Tryz.f85,waitFn,Option.getD_some]at hA⊢
 u_c stepG_region_end (fa_rely (L:=Tryz.link) (fj2 hK out xs)) hF
 u_c stepG_seq (fa_rely (L:=Tryz.link) (fj2 hK out xs)) hF
 u_reg (fa_rely (L:=Tryz.link) (fj2 hK out xs)) hF
 u_in (fa_rely (L:=Tryz.link) (fj2 hK out xs)) hF
 refine goes_call rfl rfl (by decide) rfl Tryz.func116 (nm_wait Tryz.link) rfl ⟨by u_nil, ?_⟩
 walk_nrmf Tryz.f116
 exact hA _ hF
end
end Go.Proofs.YthpipedifekmpaaGreatDoor.Sat
end
section
namespace Go.Proofs.YthpipedifekmpaaGreatDoor.Sat
open Go.Conc Go.ConcX Go.RowKit Go.Conc.Lib Go.ConcX.Gen Go.Sq
theorem core_G(fr:Frame)(cs:List Frame):core (G fr cs)=G fr cs:=rfl
theorem loudS:(Tryz.prog.funcs[85]?).any (·.norace)=false:=by kernel_rfl
theorem info3S:(Tryz.prog.info? 3).map (fun i=>(i.zero,i.size,i.bytes))=some (some (.int .i64 0),1,8):=by kernel_rfl
section
variable {N B':Nat} [Shy (N+5) N] [ShyS N B'] {x to:Int} {v3:Value} {KP:List Value->Value->World->Prop} {cs:List Frame} (hK:KOk N x to KP)
include hK
structure AG(N:Nat)(KP:List Value->Value->World->Prop)(out:Value)(xs:List Value)(w:World):Prop where
 af:AF N KP out xs w
 eo:w.heap[N+3]? =some (.chan 0 #[] false 0 0 false)
 wg:w.heap[N+5]? =some (wgBlock 171 KK 0)
theorem AG.rs{out:Value}{xs:List Value}{w w₁:World}(h:AG N KP out xs w)(r:Aside N w w₁):AG N KP out xs w₁:=⟨h.af.rs hK r,(r.block _ (by omega)).trans h.eo,(r.block _ (by omega)).trans h.wg⟩
noncomputable def frR(N:Nat)(x to:Int)(v3 out day v12 v13 v14 v15 v16 v17 v18 v19 v20 v21 v22 v23 v24 v25 v26 v27:Value)(k:List Item)(cs:List Frame):Goroutine:=G ((base 85).at ⟨TS N x to v3 out day v12 v13 v14 v15 v16 v17 v18 v19 v20 v21 v22 v23 v24 v25 v26 v27,[]⟩ k) cs
include B' in
theorem finW(hB:N+5<B')(out:Value)(xs:List Value)(day v12 v13 v14 v15 v16 v17 v18 v19 v20 v21 v22 v23 v24 v25 v26 v27:Value)(w:World)(hF:AG N KP out xs w)(hto:to<firstSat x+7*xs.length):
  WaA N x to v3 KP cs [] 8 (frR N x to v3 out day v12 v13 v14 v15 v16 v17 v18 v19 v20 v21 v22 v23 v24 v25 v26 v27 [.code rest11] cs) w:=by
 have hs:=fun w hw=>startW (v3:=v3) (cs:=cs) hK out xs day v12 v13 v14 v15 v16 v17 v18 v19 v20 v21 v22 v23 v24 (.chan (some (N+3))) v26 v27 w hw
 simp only [frR,TS,ops11S,tl12,rest11,tl6,tl5,tl4,bodyS,Tryz.f85,Option.getD_some]at hs⊢
 u_c stepG_seq (AG.rs hK) hF
 u_reg (AG.rs hK) hF
 u_opw (AG.rs hK) hF [AF.ev (AG.af hF)] (fun _ _=>rfl) (evQ0_cell (B':=B') _ _ _ (by simp) (by simp) (by simp;omega) (by simp) (by simp) (by simp))
 refine Goes.stop fun w₂ r=> ?_
 replace hF:=hF.rs hK r
 refine⟨rfl,rfl,_,rfl,stepG_close rfl rfl (by decide) rfl rfl hF.eo loudS,7, ?_⟩
 walk_nrm
 refine hs _ ⟨⟨hF.af.hid hK .ofE,hto⟩,.inl ?_⟩
 show _=_
 rw [setChan_block (by omega)]
 exact hF.wg
omit hK in
theorem ownsRow_hid{out:Value}{n:Nat}{xs:List Value}{w w₁:World}(h:w.ownsRow (N+6) 3 1 out n xs)(r:Hid N w w₁):w₁.ownsRow (N+6) 3 1 out n xs:=by
 refine⟨h.1, ?_⟩
 rcases h.2 with h0|⟨g,cp,cur,e,hg,hh,r2⟩
 ·exact .inl h0
 ·exact .inr ⟨g,cp,cur,e,hg,(r.block g (by omega) (by omega) (by omega) (by omega)).trans hh,r2⟩
include B' in
theorem headW:∀ (k:Nat) (xs:List Value) (d:Int) (out:Value) (v12 v13 v14 v15 v16 v17 v18 v19 v20 v21 v22 v23 v24 v25 v26 v27:Value) (w:World),d=firstSat x+7*xs.length->(∀j:Nat,j<k->d+7*j<=to)->to<d+7*k->(xs.length+k+1)*8<=140737488355328->N+6+2*(xs.length+k)+2<B'->
  AG N KP out xs w->WaA N x to v3 KP cs (days (d+7) k) 60 (frR N x to v3 out (.int .i64 d) v12 v13 v14 v15 v16 v17 v18 v19 v20 v21 v22 v23 v24 v25 v26 v27 [.code LB,.inLoop LB,.inBlock 0,.code rest11] cs) w:=by
 intro k
 induction k with
 |zero=>
  intro xs d out v12 v13 v14 v15 v16 v17 v18 v19 v20 v21 v22 v23 v24 v25 v26 v27 w hd _ hto hlen hB hF
  subst hd
  have hnl:¬ ((firstSat x+7*(xs.length:Int))<=to):=by omega
  have hfin:=fun v16 v17 v18 w hw=>finW (v3:=v3) (cs:=cs) (B':=B') hK (by omega) out xs (.int .i64 (firstSat x+7*(xs.length:Int))) v12 v13 v14 v15 v16 v17 v18 v19 v20 v21 v22 v23 v24 v25 v26 v27 w hw (by omega)
  simp only [days]
  simp only [frR,TS,LB,blkS,rest11,tl6,tl5,tl4,bodyS,Tryz.f85,Option.getD_some]at hfin⊢
  u_c stepG_seq (AG.rs hK) hF
  u_c stepG_seq (AG.rs hK) hF
  u_reg (AG.rs hK) hF
  u_op (AG.rs hK) hF
  u_op (AG.rs hK) hF
  u_op (AG.rs hK) hF
  u_c stepG_region_end (AG.rs hK) hF
  try simp only [hnl,decide_false]
  u_cond false (AG.rs hK) hF
  u_exit (AG.rs hK) hF
  exact Goes.mono (hfin _ _ _ _ hF) (by omega)
 | succ k ih=>
  intro xs d out v12 v13 v14 v15 v16 v17 v18 v19 v20 v21 v22 v23 v24 v25 v26 v27 w hd hle hto hlen hB hF
  subst hd
  have hdt:(firstSat x+7*(xs.length:Int))<=to:=by have:=hle 0 (by omega);omega
  simp only [days]
  simp only [frR,TS,LB,ops9S,blkS,rest11,tl6,tl5,tl4,bodyS,Tryz.f85,Option.getD_some]at ih⊢
  u_c stepG_seq (AG.rs hK) hF
  u_c stepG_seq (AG.rs hK) hF
  u_reg (AG.rs hK) hF
  u_op (AG.rs hK) hF
  u_op (AG.rs hK) hF
  u_op (AG.rs hK) hF
  u_c stepG_region_end (AG.rs hK) hF
  try simp only [hdt,decide_true]
  u_cond true (AG.rs hK) hF
  u_c stepG_skip (AG.rs hK) hF
  u_c stepG_seq (AG.rs hK) hF
  u_c stepG_block (AG.rs hK) hF
  u_reg (AG.rs hK) hF
  u_op (AG.rs hK) hF
  u_op (AG.rs hK) hF
  -- a new block of one cell
  refine Goes.step rfl (fun w₁ h₁=> ?_)
  replace hF:=hF.rs hK h₁
  clear h₁
  refine goes_oper_k rfl rfl (by decide) (fun K hKK=> ?_)
  go_simp
  refine hKK _ _ ⟨⟨fun b hb=>Below.heap_alloc _ _ _ (by have:=hF.af.size;omega),fun e he=> ?_⟩, ?_⟩
  ·have hm:=mem_listed he
   simp [go_sem]at hm
  clear hKK K
  have hsz:=hF.af.size
  have htop:=hF.af.top
  have hnew:(w₁.alloc (.cells #[.int .i64 (firstSat x+7*(xs.length:Int))] 3)).cell? ⟨w₁.heap.size,0,none⟩=some (.int .i64 (firstSat x+7*(xs.length:Int))):=by
   rw [World.cell?_alloc_at _ _ _ _ rfl];rfl
  -- append
  refine Goes.step rfl (fun w₂ h₂=> ?_)
  have hh2:Hid N (w₁.alloc (.cells #[.int .i64 (firstSat x+7*(xs.length:Int))] 3)) w₂:= .of1 h₂
  have hs2:w₂.heap.size=w₁.heap.size+1:=by rw [h₂.size];simp
  have hown2:=ownsRow_hid (hF.af.own.alloc (.cells #[.int .i64 (firstSat x+7*(xs.length:Int))] 3)) hh2
  replace hnew:w₂.cell? ⟨w₁.heap.size,0,none⟩=some (.int .i64 (firstSat x+7*(xs.length:Int))):=(World.cell?_of_block (h₂.block _ (by simp;omega))).trans hnew
  have lowb:∀b,b<w₁.heap.size->b≠N->w₂.heap[b]? =w₁.heap[b]? :=fun b hb hN=>(h₂.block b hN).trans (Below.heap_alloc _ _ _ hb)
  obtain⟨i0,hi,hz0,hz1,hz2⟩:=info_parts info3S
  have hnews:∀j u,[Value.int .i64 (firstSat x+7*(xs.length:Int))][j]? =some u->w₂.cell? ((⟨w₁.heap.size,0,none⟩:Addr).add j)=some u:=by
   intro j u hj
   match j,hj with
   |0,hj=>simp at hj;subst hj;simpa [Addr.add]using hnew
  have h1c:∀u∈ [Value.int .i64 (firstSat x+7*(xs.length:Int))],u.oneCell'=true:=by intro u hu;simp at hu;subst hu;rfl
  have h63:xs.length+1<=maxLen:=by simp only [maxLen];omega
  obtain⟨out',w₃,hr,hown',hgrow,_⟩:=run_append_own (P:=Tryz.prog) w₂ (N+6) 98 98 3 i0 (.int .i64 0) 1 8 Tryz.underlying98 hi hz0 hz1 hz2 rfl (by decide) out xs.length xs hown2 ⟨w₁.heap.size,0,none⟩ 1 1 [.int .i64 (firstSat x+7*(xs.length:Int))] rfl hnews h1c h63 (by omega) (by omega)
  have hsz3:=append_size (P:=Tryz.prog) w₂ (N+6) 98 98 3 i0 (.int .i64 0) 8 Tryz.underlying98 hi hz0 hz1 hz2 out xs.length xs hown2 ⟨w₁.heap.size,0,none⟩ 1 (.int .i64 (firstSat x+7*(xs.length:Int))) hnews rfl h63 (by omega) out' w₃ hr
  have hevs:=events_append_where (P:=Tryz.prog) w₂ (N+6) 98 98 3 i0 (.int .i64 0) 1 8 Tryz.underlying98 hi hz0 hz1 hz2 out xs.length xs hown2 ⟨w₁.heap.size,0,none⟩ 1 1 [.int .i64 (firstSat x+7*(xs.length:Int))] rfl hnews h1c h63 (by omega)
  refine goes_oper_k rfl rfl (by decide) (fun K hKK=> ?_)
  refine uponK_append (.tmp 21) (.tmp 23) 98 rfl rfl rfl hr (hKK _ _ ⟨⟨fun b hb=> ?_,fun e he=> ?_⟩, ?_⟩)
  ·exact hgrow.block b (by omega) (fun e=>by have:=(hown2.lt b e.symm).1;omega)
  ·have hm:=mem_listed he
   rw [events_append_op (.tmp 21) (.tmp 23) 98 rfl rfl rfl]at hm
   rcases hevs e hm with ⟨ad,h2,h3⟩|⟨m,rfl,hn⟩
   ·obtain⟨l,wr,sy⟩:=e
    try simp only at h2 h3
    subst h2
    rcases h3 with ⟨h3,h4⟩|h3
    ·exact evQ0_cell (B':=B') ad wr sy (by omega) (by omega) (by omega) (by omega) (by rw [h3];simp) (fun _=>by omega)
    ·have h4:=hown2.lt _ h3.symm
     exact evQ0_cell (B':=B') ad wr sy (by omega) (by omega) (by omega) (by omega) (fun _=>h4.1) (fun _=>h4.1)
   ·exact evQ0_room (B':=B') hn
  clear hKK K
  have low3:∀b,b<N+6->b≠N->w₃.heap[b]? =w₁.heap[b]? :=fun b hb hN=>(hgrow.block b (by omega) (fun e=>by have:=(hown2.lt b e.symm).1;omega)).trans (lowb b (by omega) hN)
  have hlen1:(xs++ [Value.int .i64 (firstSat x+7*(xs.length:Int))]).length=xs.length+1:=by simp
  replace hF:AG N KP out' (xs++ [.int .i64 (firstSat x+7*(xs.length:Int))]) w₃:=by
   refine⟨⟨by rw [hlen1];exact hown',by have:=hgrow.size;omega,by rw [hlen1];omega,(World.cell?_of_block (low3 (N+2) (by omega) (by omega))).trans hF.af.dv,
    (World.cell?_of_block (low3 (N+4) (by omega) (by omega))).trans hF.af.ev, ?_⟩,(low3 _ (by omega) (by omega)).trans hF.eo,(low3 _ (by omega) (by omega)).trans hF.wg⟩
   exact hK.app hF.af.kp hdt hh2 hr
  clear hr hown' hgrow hevs hnews hnew low3 lowb hsz3 hown2 hh2 hs2 h₂
  walk_nrm
  u_op (AG.rs hK) hF
  u_c stepG_region_end (AG.rs hK) hF
  u_c stepG_inBlock (AG.rs hK) hF
  u_reg (AG.rs hK) hF
  u_opw (AG.rs hK) hF [AF.dv (AG.af hF)] (fun _ _=>rfl) (evQ0_cell (B':=B') _ _ _ (by simp) (by simp) (by simp;omega) (by simp) (by simp) (by simp))
  refine Goes.stop fun w₄ r=> ?_
  replace hF:=hF.rs hK r
  refine⟨rfl, ?_,fun w₅ h₅=> ?_⟩
  ·rw [stepG_comm rfl rfl (by decide) (cases:= #[rcase (N+1) (.int .i64 0)]) (blocking:=true) (shape:= .recv false) (w':=w₄) (by simp [go_sem,execOp,rcase,Act.eval]),listed_none (by simp [go_sem,execOp,Act.eval])]
   rfl
  ·have hF5:AG N KP out' (xs++ [.int .i64 (firstSat x+7*(xs.length:Int))]) w₅:=⟨hF.af.hid hK (.ofD h₅),(h₅.block _ (by omega) (by omega)).trans hF.eo,(h₅.block _ (by omega) (by omega)).trans hF.wg⟩
   clear hF h₅
   refine⟨60+3, ?_⟩
   rw [core_G,served_fr,Frame.finish_at]
   walk_nrm
   u_op (AG.rs hK) hF5
   u_c stepG_region_end (AG.rs hK) hF5
   u_c stepG_inLoop (AG.rs hK) hF5
   exact ih _ _ _ _ _ _ _ _ _ _ _ _ _ _ _ _ _ _ _ _ (by rw [hlen1];push_cast;omega) (fun j hj=>by have:=hle (j+1) (by omega);push_cast at this;omega) (by push_cast at hto;omega) (by rw [hlen1];omega) (by rw [hlen1];omega) hF5
end
end Go.Proofs.YthpipedifekmpaaGreatDoor.Sat
end
section
namespace Go.Proofs.YthpipedifekmpaaGreatDoor.Sat
open Go.Conc Go.ConcX Go.RowKit Go.Conc.Lib Go.ConcX.Gen Go.Sq
noncomputable def gRet(N:Nat)(x to:Int)(v3 out day v12 v13 v14 v15 v16 v17 v18 v19 v20 v21 v22 v23 v24 v25 v26 v27:Value)(cs:List Frame):Goroutine:=
 G {(base 85).at ⟨#[.int .i64 x,.int .i64 to,.pointer (some ⟨N,0,none⟩),v3,out,.pointer (some ⟨N+2,0,none⟩),.pointer (some ⟨N+4,0,none⟩),.pointer (some ⟨N+5,0,none⟩),out,day,.chan (some (N+1)),.chan (some (N+3)),v12,v13,v14,v15,v16,v17,v18,v19,v20,v21,v22,v23,v24,v25,v26,v27],[]⟩ [.code .ret]with mode:= .returning} cs
section
variable {N B':Nat} [Shy (N+5) N] [ShyS N B'] {x to:Int} {v3:Value} {KP:List Value->Value->World->Prop} {cs:List Frame} (hK:KOk N x to KP)
include hK
theorem aft_rs{out:Value}{xs:List Value}{w w₁:World}(h:AF N KP out xs w/\to<firstSat x+7*xs.length)(r:AtRel w w₁):AF N KP out xs w₁/\to<firstSat x+7*xs.length:=⟨h.1.hid hK (.ofA r),h.2⟩
theorem afterW(hstop:∀ (out:Value) (xs:List Value) (day v12 v13 v14 v15 v16 v17 v18 v19 v20 v21 v22 v23 v24 v25 v26 v27:Value) (w:World),AF N KP out xs w->to<firstSat x+7*xs.length->Shy.stop (N+5) N (gRet N x to v3 out day v12 v13 v14 v15 v16 v17 v18 v19 v20 v21 v22 v23 v24 v25 v26 v27 cs) w)
  (out:Value) (xs:List Value) (day v12 v13 v14 v15 v16 v17 v18 v19 v20 v21 v22 v23 v24 v25 v26 v27:Value) (w:World) (hF:AF N KP out xs w/\to<firstSat x+7*xs.length):
  Goes Tryz.prog true AtRel (DPj (MineS N) (N+5) N (N+6)) (AtRetJ Tryz.prog (N+5) N (MineS N) (fun _ _=>True)) 8
   (G ((base 85).at ((⟨TS N x to v3 out day v12 v13 v14 v15 v16 v17 v18 v19 v20 v21 v22 v23 v24 v25 v26 v27,[]⟩:Act).put ((ops12S[0]?).bind (·.dst)) (.tuple #[])) (.inRegion ops12S [] :: [.code tl13])) cs) w:=by
 simp only [gRet]at hstop
 simp only [TS,ops12S,tl13,tl12,rest11,tl6,tl5,tl4,bodyS,Tryz.f85,Option.getD_some]
 walk_nrm
 u_c stepG_region_end (aft_rs hK) hF
 u_c stepG_seq (aft_rs hK) hF
 u_reg (aft_rs hK) hF
 u_op (aft_rs hK) hF
 u_op (aft_rs hK) hF
 u_c stepG_region_end (aft_rs hK) hF
 u_c stepG_ret' (aft_rs hK) hF
 exact Goes.stop (fun w₂ r₂=>⟨rfl,hstop _ _ _ _ _ _ _ _ _ _ _ _ _ _ _ _ _ _ _ _ (aft_rs hK hF r₂).1 (aft_rs hK hF r₂).2⟩)
theorem anS_go(hstop:∀ (out:Value) (xs:List Value) (day v12 v13 v14 v15 v16 v17 v18 v19 v20 v21 v22 v23 v24 v25 v26 v27:Value) (w:World),AF N KP out xs w->to<firstSat x+7*xs.length->Shy.stop (N+5) N (gRet N x to v3 out day v12 v13 v14 v15 v16 v17 v18 v19 v20 v21 v22 v23 v24 v25 v26 v27 cs) w)
  (g:Goroutine) (w:World) (h:AnS N x to v3 KP cs g w):
  ∃m,Goes Tryz.prog true (RPa 171 (N+5) N [.int .i64 x]) (DPi (MineS N) (N+5) N (N+6)) (AtW1 Tryz.prog 171 (N+5) N (N+6) [.int .i64 x] (MineS N) (AnS N x to v3 KP cs) (fun _ _=>True)) m g w:=by
 obtain⟨out,xs,day,v12,v13,v14,v15,v16,v17,v18,v19,v20,v21,v22,v23,v24,v25,v26,v27,h⟩:=h
 obtain⟨m,hm⟩:=waitRound (L:=Tryz.link) (Mine:=MineS N) (Low:=N+6) (Post:=fun _ _=>True) Tryz.wgLib (by omega) (fj2 hK out xs) (fun w hF _ _=>afterW hK hstop out xs day v12 v13 v14 v15 v16 v17 v18 v19 v20 v21 v22 v23 v24 v25 v26 v27 w hF) g w h
 exact⟨m,goes_stop_mono (fun g w=>atW1_mono fun g w h=>⟨out,xs,day,v12,v13,v14,v15,v16,v17,v18,v19,v20,v21,v22,v23,v24,v25,v26,v27,h⟩) m hm⟩
theorem anS_running(g:Goroutine)(w:World)(h:AnS N x to v3 KP cs g w):g.status= .running:=by
 obtain⟨out,xs,day,v12,v13,v14,v15,v16,v17,v18,v19,v20,v21,v22,v23,v24,v25,v26,v27,T,hg,_⟩:=h
 rw [hg];rfl
end
noncomputable def frGo(N:Nat)(x to:Int)(v3 v8 v9 v14 v15 v16 v17 v18 v19 v20 v21 v22 v23 v24 v25 v26 v27:Value)(cs:List Frame):Goroutine:=
 G ((base 85).at ⟨#[.int .i64 x,.int .i64 to,.pointer (some ⟨N,0,none⟩),v3,.slice none 0 0,.pointer (some ⟨N+2,0,none⟩),.pointer (some ⟨N+4,0,none⟩),.pointer (some ⟨N+5,0,none⟩),v8,v9,.chan (some (N+1)),.chan (some (N+3)),.tuple #[],
  .func (.func 112) #[] #[.pointer (some ⟨N+5,0,none⟩),.pointer (some ⟨N,0,none⟩),.pointer (some ⟨N+2,0,none⟩),.pointer (some ⟨N+4,0,none⟩)],v14,v15,v16,v17,v18,v19,v20,v21,v22,v23,v24,v25,v26,v27],[]⟩ [.inRegion ops5S [],.code tl6]) cs
section
variable {N B':Nat} [Shy (N+5) N] [ShyS N B'] {x to:Int} {v3 v8 v9 v14 v15 v16 v17 v18 v19 v20 v21 v22 v23 v24 v25 v26 v27:Value} {KP:List Value->Value->World->Prop} {cs:List Frame} (hK:KOk N x to KP)
include hK
include B' in
theorem firstW(k:Nat)(hle:∀j:Nat,j<k->firstSat x+7*j<=to)(hto:to<firstSat x+7*k)(hlen:(k+1)*8<=140737488355328)(hB:N+6+2*k+2<B')(w:World)(hF:AG N KP (.slice none 0 0) [] w):
  WaA N x to v3 KP cs (days (firstSat x) (k+1)) 20 (frGo N x to v3 v8 v9 v14 v15 v16 v17 v18 v19 v20 v21 v22 v23 v24 v25 v26 v27 cs) w:=by
 have hh:=fun v12 v13 v14 v15 v16 v17 v18 v19 v20 v21 v22 v23 v24 v25 v26 v27 w hw=>headW (v3:=v3) (cs:=cs) (B':=B') hK k [] (firstSat x) (.slice none 0 0) v12 v13 v14 v15 v16 v17 v18 v19 v20 v21 v22 v23 v24 v25 v26 v27 w (by simp) hle hto (by simpa using hlen) (by simpa using hB) hw
 simp only [days]
 simp only [frGo,frR,TS,LB,ops5S,ops7S,blkS,rest11,tl6,tl5,tl4,bodyS,Tryz.f85,Option.getD_some]at hh⊢
 u_c stepG_region_end (AG.rs hK) hF
 u_c stepG_seq (AG.rs hK) hF
 u_reg (AG.rs hK) hF
 u_op (AG.rs hK) hF
 u_c stepG_region_end (AG.rs hK) hF
 u_c stepG_seq (AG.rs hK) hF
 u_c stepG_seq (AG.rs hK) hF
 u_reg (AG.rs hK) hF
 u_opw (AG.rs hK) hF [AF.dv (AG.af hF)] (fun _ _=>rfl) (evQ0_cell (B':=B') _ _ _ (by simp) (by simp) (by simp;omega) (by simp) (by simp) (by simp))
 refine Goes.stop fun w₄ r=> ?_
 replace hF:=hF.rs hK r
 refine⟨rfl, ?_,fun w₅ h₅=> ?_⟩
 ·rw [stepG_comm rfl rfl (by decide) (cases:= #[rcase (N+1) (.int .i64 0)]) (blocking:=true) (shape:= .recv false) (w':=w₄) (by simp [go_sem,execOp,rcase,Act.eval]),listed_none (by simp [go_sem,execOp,Act.eval])]
  rfl
 ·have hF5:AG N KP (.slice none 0 0) [] w₅:=⟨hF.af.hid hK (.ofD h₅),(h₅.block _ (by omega) (by omega)).trans hF.eo,(h₅.block _ (by omega) (by omega)).trans hF.wg⟩
  clear hF h₅
  refine⟨60+4, ?_⟩
  rw [core_G,served_fr,Frame.finish_at]
  walk_nrm
  u_op (AG.rs hK) hF5
  u_c stepG_region_end (AG.rs hK) hF5
  u_c stepG_block (AG.rs hK) hF5
  u_c stepG_loop (AG.rs hK) hF5
  exact hh _ _ _ _ _ _ _ _ _ _ _ _ _ _ _ _ _ hF5
end
theorem mkD(w:World):(Instr.makeChan 162 (.int .i64 0)).run Tryz.prog w= .ok (.chan (some w.heap.size)) (w.alloc (.chan 0 #[] false 0 0 false)):=by
 have h:(Tryz.prog.info? 3).map (·.bytes)=some 8:=by kernel_rfl
 obtain⟨i,hi,hb⟩:=Option.map_eq_some_iff.1 h
 simpa using run_makeChan (P:=Tryz.prog) (w:=w) Tryz.underlying162 hi .i64 0 (by omega) (by rw [hb];omega)
theorem mkE(w:World):(Instr.makeChan 163 (.int .i64 0)).run Tryz.prog w= .ok (.chan (some w.heap.size)) (w.alloc (.chan 0 #[] false 0 0 false)):=by
 have h:(Tryz.prog.info? 164).map (·.bytes)=some 0:=by kernel_rfl
 obtain⟨i,hi,hb⟩:=Option.map_eq_some_iff.1 h
 simpa using run_makeChan (P:=Tryz.prog) (w:=w) Tryz.underlying163 hi .i64 0 (by omega) (by rw [hb];omega)
theorem evD(w:World)(es:Array Event):(Instr.makeChan 162 (.int .i64 0)).events Tryz.prog w es=es:=by
 have h:(Tryz.prog.info? 3).map (·.bytes)=some 8:=by kernel_rfl
 obtain⟨i,hi,hb⟩:=Option.map_eq_some_iff.1 h
 simpa using events_makeChan (P:=Tryz.prog) (w:=w) Tryz.underlying162 hi .i64 0 (by omega) (by rw [hb];omega) es
theorem evE(w:World)(es:Array Event):(Instr.makeChan 163 (.int .i64 0)).events Tryz.prog w es=es:=by
 have h:(Tryz.prog.info? 164).map (·.bytes)=some 0:=by kernel_rfl
 obtain⟨i,hi,hb⟩:=Option.map_eq_some_iff.1 h
 simpa using events_makeChan (P:=Tryz.prog) (w:=w) Tryz.underlying163 hi .i64 0 (by omega) (by rw [hb];omega) es
noncomputable def gSat(x to:Int)(v2 v3 v4 v5 v6 v7 v8 v9 v10 v11 v12 v13 v14 v15 v16 v17 v18 v19 v20 v21 v22 v23 v24 v25 v26 v27:Value)(cs:List Frame):Goroutine:=G ((base 85).at ⟨#[.int .i64 x,.int .i64 to,v2,v3,v4,v5,v6,v7,v8,v9,v10,v11,v12,v13,v14,v15,v16,v17,v18,v19,v20,v21,v22,v23,v24,v25,v26,v27],[]⟩ [.code bodyS]) cs
def wS(W:World)(x:Int):World:=
 (((((W.alloc (.cells #[.int .i64 x] 3)).alloc (.chan 0 #[] false 0 0 false)).alloc (.cells #[.chan (some (W.heap.size+1))] 162)).alloc (.chan 0 #[] false 0 0 false)).alloc (.cells #[.chan (some (W.heap.size+3))] 163)).alloc (.cells #[.int .u64 0,.int .u32 0] 171)
theorem new1(w:World)(o:Obj){k:Nat}(hk:k=w.heap.size):(w.alloc o).heap[k]? =some o:=by subst hk;exact heap_alloc_new w o
theorem wS_size(W:World)(x:Int):(wS W x).heap.size=W.heap.size+6:=by simp [wS]
theorem wS_b0(W:World)(x:Int):(wS W x).heap[W.heap.size]? =some (.cells #[.int .i64 x] 3):=by
 unfold wS
 iterate 5 rw [Below.heap_alloc _ _ _ (by simp <;> omega)]
 exact new1 _ _ (by simp)
theorem wS_b1(W:World)(x:Int):(wS W x).heap[W.heap.size+1]? =some (.chan 0 #[] false 0 0 false):=by
 unfold wS
 iterate 4 rw [Below.heap_alloc _ _ _ (by simp <;> omega)]
 exact new1 _ _ (by simp)
theorem wS_b2(W:World)(x:Int):(wS W x).heap[W.heap.size+2]? =some (.cells #[.chan (some (W.heap.size+1))] 162):=by
 unfold wS
 iterate 3 rw [Below.heap_alloc _ _ _ (by simp <;> omega)]
 exact new1 _ _ (by simp)
theorem wS_b3(W:World)(x:Int):(wS W x).heap[W.heap.size+3]? =some (.chan 0 #[] false 0 0 false):=by
 unfold wS
 iterate 2 rw [Below.heap_alloc _ _ _ (by simp <;> omega)]
 exact new1 _ _ (by simp)
theorem wS_b4(W:World)(x:Int):(wS W x).heap[W.heap.size+4]? =some (.cells #[.chan (some (W.heap.size+3))] 163):=by
 unfold wS
 iterate 1 rw [Below.heap_alloc _ _ _ (by simp <;> omega)]
 exact new1 _ _ (by simp)
theorem wS_wg(W:World)(x:Int):(wS W x).heap[W.heap.size+5]? =some (wgBlock 171 0 0):=by
 unfold wS
 exact new1 _ _ (by simp)
theorem wS_old(W:World)(x:Int){b:Nat}(h:b<W.heap.size):(wS W x).heap[b]? =W.heap[b]? :=by
 unfold wS
 iterate 6 rw [Below.heap_alloc _ _ _ (by first|omega|(simp <;> omega))]
theorem cell1{w:World}{b:Nat}{v:Value}{t:TypeId}(h:w.heap[b]? =some (.cells #[v] t)):w.cell? ⟨b,0,none⟩=some v:=by simp [World.cell?,h]
section
variable {W:World} {B':Nat} [Shy (W.heap.size+5) W.heap.size] [ShyS W.heap.size B'] {x to:Int} {v3:Value} {KP:List Value->Value->World->Prop} {cs:List Frame} (hK:KOk W.heap.size x to KP)
include hK
theorem wS_ag(hkp:∀w,Hid W.heap.size ((wS W x).setCell (stA (W.heap.size+5)) (.int .u64 KK)) w->KP [] (.slice none 0 0) w)(d:Nat):AG W.heap.size KP (.slice none 0 0) [] (((wS W x).setCell (stA (W.heap.size+5)) (.int .u64 KK)).at d):=by
 have other:∀b,b≠W.heap.size+5->(((wS W x).setCell (stA (W.heap.size+5)) (.int .u64 KK)).at d).heap[b]? =(wS W x).heap[b]? :=fun b hb=>Below.heap_setCell _ _ _ _ hb
 have hwg:WgAt 171 (W.heap.size+5) (wS W x) 0 0:=wS_wg W x
 refine⟨⟨⟨rfl,.inl ⟨rfl,rfl⟩⟩, ?_, ?_,cell1 ((other _ (by omega)).trans (wS_b2 W x)),cell1 ((other _ (by omega)).trans (wS_b4 W x)),hkp _ (.ofA ⟨d,rfl⟩)⟩,(other _ (by omega)).trans (wS_b3 W x),hwg.setSt KK⟩
 ·have:(((wS W x).setCell (stA (W.heap.size+5)) (.int .u64 KK)).at d).heap.size=(wS W x).heap.size:=by
   show((wS W x).setCell _ _).heap.size=_
   simp
  rw [this,wS_size]
  omega
 ·have:(((wS W x).setCell (stA (W.heap.size+5)) (.int .u64 KK)).at d).heap.size=(wS W x).heap.size:=by
   show((wS W x).setCell _ _).heap.size=_
   simp
  rw [this,wS_size]
  simp
omit hK in
theorem wS_wk(W:World)(x:Int)(d:Nat):WK W.heap.size x (((wS W x).setCell (stA (W.heap.size+5)) (.int .u64 KK)).at d):=by
 have other:∀b,b≠W.heap.size+5->(((wS W x).setCell (stA (W.heap.size+5)) (.int .u64 KK)).at d).heap[b]? =(wS W x).heap[b]? :=fun b hb=>Below.heap_setCell _ _ _ _ hb
 exact⟨(other _ (by omega)).trans (wS_b0 W x),cell1 ((other _ (by omega)).trans (wS_b2 W x)),cell1 ((other _ (by omega)).trans (wS_b4 W x))⟩
end
end Go.Proofs.YthpipedifekmpaaGreatDoor.Sat
end
section
namespace Go.Proofs.YthpipedifekmpaaGreatDoor.Sat
open Go.Conc Go.ConcX Go.RowKit Go.Conc.Lib Go.ConcX.Gen Go.Sq
section
variable {W:World} {B':Nat} [Shy (W.heap.size+5) W.heap.size] [ShyS W.heap.size B'] {x to:Int} {v3 v2 v4 v5 v6 v7 v8 v9 v10 v11 v12 v13 v14 v15 v16 v17 v18 v19 v20 v21 v22 v23 v24 v25 v26 v27:Value} {KP:List Value->Value->World->Prop} {cs:List Frame} (hK:KOk W.heap.size x to KP)
include hK
theorem loneS(k:Nat)(hx:Day23 x)(h1: -9223372036854775808<=firstSat x)(h2:firstSat x+7*(k+1:Nat)<=9223372036854775807)(hle:∀j:Nat,j<k->firstSat x+7*j<=to)(hto:to<firstSat x+7*k)
  (hlen:(k+1)*8<=140737488355328) (hB:W.heap.size+6+2*k+2<B') (hkp:∀w,Hid W.heap.size ((wS W x).setCell (stA (W.heap.size+5)) (.int .u64 KK)) w->KP [] (.slice none 0 0) w):
  LoneS Tryz.prog 171 (W.heap.size+5) W.heap.size (W.heap.size+6) (W.heap.size+1) (W.heap.size+3) [.int .i64 x] (MineS W.heap.size) (AnS W.heap.size x to v3 KP cs) (.int .i64 0) (.int .i64 0) (.agg #[]) (days (firstSat x) (k+1)) (gSat x to v2 v3 v4 v5 v6 v7 v8 v9 v10 v11 v12 v13 v14 v15 v16 v17 v18 v19 v20 v21 v22 v23 v24 v25 v26 v27 cs) W:=by
 refine⟨24+12, ?_⟩
 have hmD:=fun w=>mkD w
 have hmE:=fun w=>mkE w
 have heD:=fun w es=>evD w es
 have heE:=fun w es=>evE w es
 have hA:= @addPos Tryz.link (W.heap.size+5) W.heap.size
 simp only [gSat,bodyS,body_add,Tryz.f85,addFn,Option.getD_some]at hA⊢
 l_c stepG_seq
 l_reg
 l_opw (‹ShyS _ B'›.own _ _ _ (by simp <;> omega) (by simp <;> omega) (by simp <;> omega) (by simp))
 l_opw (‹ShyS _ B'›.own _ _ _ (by simp <;> omega) (by simp <;> omega) (by simp <;> omega) (by simp))
 l_c stepG_region_end
 l_c stepG_seq
 l_reg
 l_opw (‹ShyS _ B'›.own _ _ _ (by simp <;> omega) (by simp <;> omega) (by simp <;> omega) (by simp))
 l_opw (‹ShyS _ B'›.own _ _ _ (by simp <;> omega) (by simp <;> omega) (by simp <;> omega) (by simp))
 l_opw (‹ShyS _ B'›.own _ _ _ (by simp <;> omega) (by simp <;> omega) (by simp <;> omega) (by simp))
 l_c stepG_region_end
 l_c stepG_seq
 l_reg
 l_opw (‹ShyS _ B'›.own _ _ _ (by simp <;> omega) (by simp <;> omega) (by simp <;> omega) (by simp))
 l_opw (‹ShyS _ B'›.own _ _ _ (by simp <;> omega) (by simp <;> omega) (by simp <;> omega) (by simp))
 l_opw (‹ShyS _ B'›.own _ _ _ (by simp <;> omega) (by simp <;> omega) (by simp <;> omega) (by simp))
 l_c stepG_region_end
 l_c stepG_seq
 l_reg
 l_opw (‹ShyS _ B'›.own _ _ _ (by simp <;> omega) (by simp <;> omega) (by simp <;> omega) (by simp))
 l_c stepG_region_end
 l_c stepG_seq
 l_reg
 l_in
 refine goes_call rfl rfl (by decide) rfl Tryz.func111 (nm_add Tryz.link) rfl ⟨by u_nil, ?_⟩
 walk_nrmf Tryz.f111
 refine hA (mT:=4) Tryz.wgLib _ (show WgAt 171 (W.heap.size+5) (World.at (wS W x) _) 0 0 from wS_wg W x) ?_
 clear hA hmD hmE heD heE
 walk_nrm
 l_c stepG_region_end
 l_c stepG_seq
 l_reg
 l_opw (‹ShyS _ B'›.own _ _ _ (by simp <;> omega) (by simp <;> omega) (by simp <;> omega) (by simp))
 refine Goes.stop (fun w₁ h₁=> ?_)
 obtain⟨d,hd⟩:=h₁
 subst hd
 simp only [alloc_at,setCell_at,at_at]
 have hG:=wS_ag hK hkp d
 have hW:=wS_wk W x d
 have hb1:(((wS W x).setCell (stA (W.heap.size+5)) (.int .u64 KK)).at d).heap[W.heap.size+1]? =some (.chan 0 #[] false 0 0 false):=(Below.heap_setCell _ _ _ _ (show W.heap.size+1≠W.heap.size+5 by omega)).trans (wS_b1 W x)
 have hA:=firstW (v3:=v3) (cs:=cs) (B':=B') (v8:=v8) (v9:=v9) (v14:=v14) (v15:=v15) (v16:=v16) (v17:=v17) (v18:=v18) (v19:=v19) (v20:=v20) (v21:=v21) (v22:=v22) (v23:=v23) (v24:=v24) (v25:=v25) (v26:=v26) (v27:=v27) hK k hle hto hlen hB _ hG
 refine⟨rfl,_,born Tryz.prog (callW W.heap.size),((wS W x).setCell (stA (W.heap.size+5)) (.int .u64 KK)).at d,#[], ?_,by simp,hG.wg,⟨⟨0,0,hb1⟩,hG.eo⟩,⟨_,hA⟩,workW (B':=B') hx h1 h2 (by omega) _ hW⟩
 simp only [frGo,tl6,tl5,tl4,bodyS,Tryz.f85,Option.getD_some]
 rw [stepG_spawn (d:=callW W.heap.size) (w':=((wS W x).setCell (stA (W.heap.size+5)) (.int .u64 KK)).at d) (f:= .func 112) (c:= #[.pointer (some ⟨W.heap.size+5,0,none⟩),.pointer (some ⟨W.heap.size,0,none⟩),.pointer (some ⟨W.heap.size+2,0,none⟩),.pointer (some ⟨W.heap.size+4,0,none⟩)]) rfl rfl (by decide) (by simp [go_sem,callW,Deferred.ofValue,wS,alloc_at,setCell_at]) rfl,listed_none (by simp [go_sem,execOp,Act.eval,Deferred.ofValue])]
 rfl
end
end Go.Proofs.YthpipedifekmpaaGreatDoor.Sat
end
section
namespace Go.Proofs.YthpipedifekmpaaGreatDoor.Sat
open Go.Conc Go.ConcX Go.RowKit Go.Conc.Lib Go.ConcX.Gen Go.Sq
def SatEnd(N:Nat)(x to:Int)(v3:Value)(KP:List Value->Value->World->Prop)(cs:List Frame)(g:Goroutine)(w:World):Prop:=
 ∃ (out:Value) (xs:List Value) (day v12 v13 v14 v15 v16 v17 v18 v19 v20 v21 v22 v23 v24 v25 v26 v27:Value),g=gRet N x to v3 out day v12 v13 v14 v15 v16 v17 v18 v19 v20 v21 v22 v23 v24 v25 v26 v27 cs/\AF N KP out xs w/\to<firstSat x+7*xs.length
theorem sat_phase{W:World}{x to:Int}{v3 v2 v4 v5 v6 v7 v8 v9 v10 v11 v12 v13 v14 v15 v16 v17 v18 v19 v20 v21 v22 v23 v24 v25 v26 v27:Value}{KP:List Value->Value->World->Prop}{cs:List Frame}(hK:KOk W.heap.size x to KP)(k:Nat)(hx:Day23 x)(h1: -9223372036854775808<=firstSat x)(h2:firstSat x+7*(k+1:Nat)<=9223372036854775807)
  (hle:∀j:Nat,j<k->firstSat x+7*j<=to) (hto:to<firstSat x+7*k) (hlen:(k+1)*8<=140737488355328)
  (hkp:∀w,Hid W.heap.size ((wS W x).setCell (stA (W.heap.size+5)) (.int .u64 KK)) w->KP [] (.slice none 0 0) w)
  {Shun:Loc->Prop} {B:Nat} {t₀:Trace} (hS:∀a:Addr,W.heap.size<=a.block->¬ Shun (.cell a))
  {gs:Array Goroutine} {sl:Option (Nat×Nat)} {q:Nat->Nat} (h0:gs[0]? =some (gSat x to v2 v3 v4 v5 v6 v7 v8 v9 v10 v11 v12 v13 v14 v15 v16 v17 v18 v19 v20 v21 v22 v23 v24 v25 v26 v27 cs)) (hL:Leavers Tryz.prog t₀ gs q) (hP:Past Shun B t₀):
  ∃ (B' n:Nat) (gs':Array Goroutine) (a':Goroutine) (w':World) (sl':Option (Nat×Nat)) (T':Trace) (q':Nat->Nat),runNT Tryz.prog n (crowd gs W sl) t₀=(.next (crowd gs' w' sl'),T')/\gs'.size=gs.size+1/\gs'[0]? =some a'/\
   SatEnd W.heap.size x to v3 KP cs a' w'/\Leavers Tryz.prog T' gs' q'/\Past (fun l=>Shun l∨OfS (W.heap.size+5) (W.heap.size+3) l) B' T':=by
 let B':=W.heap.size+6+2*k+3+B
 letI I:Shy (W.heap.size+5) W.heap.size:=shyS Shun (MineS W.heap.size) B' (W.heap.size+5) W.heap.size (W.heap.size+3) (SatEnd W.heap.size x to v3 KP cs) (by show _<W.heap.size+6+2*k+3+B;omega) (by show _<W.heap.size+6+2*k+3+B;omega) (fun a ha=>hS a (by omega))
 haveI J:ShyS W.heap.size B':=by
  refine⟨fun a wr s h0 h hB hs=> ?_,okS_none rfl trivial (fun k e=>by cases e)⟩
  refine⟨fun y hy=> ?_,hB,fun k e=>by cases e⟩
  simp only [MemAct.touch?,Option.some.injEq]at hy
  subst hy
  refine⟨fun h=>absurd h (hS a h0),fun e=> ?_,fun e=>by cases e⟩
  cases s with
  |true=>exact .inr ⟨a,rfl,hs rfl⟩
  |false=>simp at e
 have hG:Geo (W.heap.size+5) W.heap.size (W.heap.size+6) (W.heap.size+1) (W.heap.size+3):=⟨by omega,by omega,by omega,by omega,by omega,by omega,by omega,by omega,by omega,by omega⟩
 have hB1:W.heap.size+1<B':=by show _<W.heap.size+6+2*k+3+B;omega
 have hB3:W.heap.size+3<B':=by show _<W.heap.size+6+2*k+3+B;omega
 have hOk:ChOk (W.heap.size+5) W.heap.size (W.heap.size+1) (W.heap.size+3):=by
  refine⟨fun n=>okS_none rfl hB1 (fun k e=>by cases e),fun n m=>okS_none rfl hB1 (fun k e=>by cases e),fun n=>okS_none rfl hB1 (fun k e=>by cases e),fun n=>okS_none rfl hB1 (fun k e=>by cases e),okS_none rfl hB3 (fun k e=>by cases e), ?_,okS_none rfl hB3 (fun k e=>by cases e)⟩
  refine⟨fun y hy=> ?_,hB3,fun k e=>by cases e⟩
  simp only [MemAct.touch?,Option.some.injEq]at hy
  subst hy
  exact⟨fun _=>by simp,(fun _=> .inl (.inr rfl)),fun _=>by simp⟩
 have hMS:∀l,MineS W.heap.size l->¬ ShT (W.heap.size+5) W.heap.size l:=by
  rintro l ⟨a,rfl,ha⟩ hs
  rcases hs with (⟨y,hy,hyb⟩|hs)|⟨y,hy,hyb,_⟩
  ·cases hy;omega
  ·cases hs
  ·cases hy;omega
 have hstop:∀ (out:Value) (xs:List Value) (day v12 v13 v14 v15 v16 v17 v18 v19 v20 v21 v22 v23 v24 v25 v26 v27:Value) (w:World),AF W.heap.size KP out xs w->to<firstSat x+7*xs.length->Shy.stop (W.heap.size+5) W.heap.size (gRet W.heap.size x to v3 out day v12 v13 v14 v15 v16 v17 v18 v19 v20 v21 v22 v23 v24 v25 v26 v27 cs) w:=
  fun out xs day v12 v13 v14 v15 v16 v17 v18 v19 v20 v21 v22 v23 v24 v25 v26 v27 w hA ht=>⟨out,xs,day,v12,v13,v14,v15,v16,v17,v18,v19,v20,v21,v22,v23,v24,v25,v26,v27,rfl,hA,ht⟩
 obtain⟨n,gs',a',w',sl',T',q',r,hs,h0',_,hst,hL',hP'⟩:=Sq.stream_phase (Shun:=Shun) (B:=B) (B':=B') (Post:=fun _ _=>True) hG hOk (fun g w h=>anS_running hK g w h) (fun g w h=>anS_go hK hstop g w h) hMS (fun act h=>h) (by show B<=W.heap.size+6+2*k+3+B;omega) h0 hL hP
  (loneS (B':=B') hK k hx h1 h2 hle hto hlen (by show _<W.heap.size+6+2*k+3+B;omega) hkp)
 exact⟨B',n,gs',a',w',sl',T',q',r,hs,h0',hst,hL',hP'⟩
#print axioms sat_phase
end Go.Proofs.YthpipedifekmpaaGreatDoor.Sat
end
section
namespace Go.Proofs.YthpipedifekmpaaGreatDoor.Sat
open Go.Conc Go.RowKit Go.Sq
def opO(dst:Nat)(o:Op):Oper:={dst:=some dst,op:=o,type:=3,pos:= "",after:= #[],guard:=none}
noncomputable def LBo:Code:=match LB with
 | .seq a (.seq b _)=> .seq a (.seq b (.region 209 #[opO 19 (.move (.tmp 9)),opO 20 (.binOp .add 3 (.tmp 19) (.const (.int .i64 7)) 3),opO 9 (.assign (.tmp 20))] false))
 |_=> .skip
def stuckO:Op:= .binOp .add 3 (.const (.bool true)) (.const (.bool true)) 3
def opG(o:Op)(g:Nat×Bool):Oper:={dst:=some 15,op:=o,type:=3,pos:= "",after:= #[],guard:=some g}
def opsE:Array Oper:= #[opO 28 (.assign (.const (.bool true))),opG stuckO (0,true),opO 14 (.binOp .leq 3 (.tmp 0) (.const (.int .i64 1099511627776)) 3),opG stuckO (2,false),
 opO 16 (.binOp .leq 3 (.const (.int .i64 (-1099511627776))) (.tmp 0) 3),opG stuckO (4,false),opO 17 (.binOp .leq 3 (.tmp 1) (.const (.int .i64 1099511627776)) 3),opG stuckO (6,false)]
def opsF:Array Oper:= #[opO 2 (.box 3 (.const (.int .i64 0))),opO 5 (.box 3 (.const (.int .i64 0))),opO 6 (.box 3 (.const (.int .i64 0))),opO 7 (.box 3 (.const (.int .i64 0))),opO 12 (.box 3 (.const (.int .i64 0))),opO 13 (.box 3 (.const (.int .i64 0))),opO 8 (.assign (.const (.slice none 0 0)))]
def opsH:Array Oper:= #[opO 14 (.binOp .rem 3 (.tmp 0) (.const (.int .i64 7)) 3),opO 15 (.binOp .add 3 (.tmp 14) (.const (.int .i64 7)) 3),opO 19 (.binOp .rem 3 (.tmp 15) (.const (.int .i64 7)) 3),opO 20 (.binOp .sub 3 (.const (.int .i64 6)) (.tmp 19) 3),opO 21 (.binOp .add 3 (.tmp 0) (.tmp 20) 3),opO 9 (.assign (.tmp 21))]
noncomputable def bodyO:Code:= .seq (.region 199 opsE false) (.seq (.region 200 opsF false) (.seq (.region 201 opsH false) (.seq (.block 0 (.loop LBo)) tl13)))
noncomputable def satO:Func:={Tryz.f85 with body:=some bodyO}
noncomputable def FO:Array Func:=Tryz.prog.funcs.setIfInBounds 85 satO
theorem FO_ne{f:Nat}(h:f≠85):FO[f]? =Tryz.prog.funcs[f]? :=by
 unfold FO
 exact Array.getElem?_setIfInBounds_ne (Ne.symm h)
theorem sat_lt:85<Tryz.prog.funcs.size:=(Array.getElem?_eq_some_iff.1 Tryz.func85).1
theorem FO_sat:FO[85]? =some satO:=by
 unfold FO
 exact Array.getElem?_setIfInBounds_self_of_lt sat_lt
end Go.Proofs.YthpipedifekmpaaGreatDoor.Sat
end
