import Derived.Test.YtljbnicolhhicaaGreatDoorZHR
import Derived.Lib.ItoaLen
import Derived.Lib.AppendIntMem
import Derived.Test.YtljbnicolhhicaaGreatDoorZTY
set_option linter.defProp false
set_option maxHeartbeats 8000000
set_option maxRecDepth 100000
set_option linter.unusedVariables false
namespace Go.Proofs.YtljbnicolhhicaaGreatDoor
section
open Go.ChangeShapes Go.WideShapes Go.ChangeAt Go.RowKit
open Go.ChangeMaps (setBlock heap_setBlock_same heap_setBlock_other)
theorem FB{P:Program}{w:World}(t kt et:TypeId)(b clock:Nat)(es:Array MapEntry)(s:ByteArray)(v:Value)(ht:P.underlying t=some (.map kt et))(hk:P.underlying kt=some .string)
  (hb:w.1[b]? =some (.map es clock)) (hf:Instr.findNow .string (.string s) es.toList 0=some none):
  (Instr.mapUpdate t (.map (some b)) (.string s) v).run P w= .ok () (setBlock w b (.map (es.push {key:= .string s,val:=v,born:=clock}) (clock+1))):=by
 have hc:(Instr.checkKey false 10000 kt (.string s)).run P w= .ok () w:=MapKept.run_checkKey (k:= .string s) hk (by simp [MapKept.IsKey]) false 9999
 simp [Instr.mapUpdate,run_underlying ht,MapKept.run_getObj_map hb,hc,MapKept.run_findKey hk hf,MapKept.run_setObj_map _ hb,Result.andThen,setBlock]
theorem But.map{w:World}{b clock:Nat}{es:Array MapEntry}(hb:w.1[b]? =some (.map es clock))(o:Obj):But b w (setBlock w b o):=
 ⟨rfl,rfl,rfl,by simp [setBlock],fun k _ hk=>heap_setBlock_other hb o hk⟩
theorem bQ{P:Program}(w:World){ops:Array Oper}{rest:List Oper}{o:Oper}{a:Act}{Q:Exit->Act->World->Prop}
  (hg:o.guard=none) (m x v:Operand) (t:TypeId) (hop:o.op=Op.mapUpdate t m x v) (kt et:TypeId) (ht:P.underlying t=some (.map kt et)) (hk:P.underlying kt=some .string) (b clock:Nat) (es:Array MapEntry)
  (hm:a.eval m= .map (some b)) (hb:w.1[b]? =some (.map es clock)) (s:ByteArray) (val:Value) (hx:a.eval x= .string s) (hv:a.eval v=val) (hf:Instr.findNow .string (.string s) es.toList 0=some none)
  (hK:∀w',w'.1[b]? =some (.map (es.push {key:= .string s,val:=val,born:=clock}) (clock+1))->But b w w'->wpList P ops Q rest (a.put o.dst undef) w'):
  wpList P ops Q (o :: rest) a w:=by
 refine wpList_plain hg fun K' hK'=> ?_
 unfold Oper.wp
 simp [execOp,hop,hm,hx,hv,FB t kt et b clock es s val ht hk hb hf,Result.andThen]
 exact hK' _ _ (hK _ (heap_setBlock_same hb _) (But.map hb _))
theorem zG{P:Program}(w:World){ops:Array Oper}{rest:List Oper}{o:Oper}{a:Act}{Q:Exit->Act->World->Prop}
  (hg:o.guard=none) (m x v:Operand) (t:TypeId) (hop:o.op=Op.insert t m x v) (kt et:TypeId) (ht:P.underlying t=some (.map kt et)) (hk:P.underlying kt=some .string) (b clock:Nat) (es:Array MapEntry)
  (hm:a.eval m= .map (some b)) (hb:w.1[b]? =some (.map es clock)) (s:ByteArray) (val:Value) (hx:a.eval x= .string s) (hv:a.eval v=val) (hf:Instr.findNow .string (.string s) es.toList 0=some none)
  (hK:∀w',w'.1[b]? =some (.map (es.push {key:= .string s,val:=val,born:=clock}) (clock+1))->But b w w'->wpList P ops Q rest (a.put o.dst undef) w'):
  wpList P ops Q (o :: rest) a w:=by
 refine wpList_plain hg fun K' hK'=> ?_
 unfold Oper.wp
 simp [execOp,hop,hm,hx,hv,FB t kt et b clock es s val ht hk hb hf,Result.andThen]
 exact hK' _ _ (hK _ (heap_setBlock_same hb _) (But.map hb _))
def nameCells:List Value:= [.string ⟨#[84,105,115,104,114,105]⟩,.string ⟨#[72,101,115,104,118,97,110]⟩,.string ⟨#[75,105,115,108,101,118]⟩,.string ⟨#[84,101,118,101,116]⟩,.string ⟨#[83,104,101,118,97,116]⟩,.string ⟨#[65,100,97,114]⟩,.string ⟨#[78,105,115,97,110]⟩,.string ⟨#[73,121,97,114]⟩,.string ⟨#[83,105,118,97,110]⟩,.string ⟨#[84,97,109,109,117,122]⟩,.string ⟨#[65,118]⟩,.string ⟨#[69,108,117,108]⟩]
def bU(i:Nat)(s:ByteArray)(n:Int)(l:Bool):MapEntry:={key:= .string s,val:= .agg #[n,l],born:=i}
def aO(k:Nat):Array MapEntry:=([bU 0 ⟨#[65,100,97,114,32,73]⟩ 5 true,bU 1 ⟨#[65,100,97,114,32,73,73]⟩ 6 false]++ [bU 2 ⟨#[84,105,115,104,114,105]⟩ 1 false,bU 3 ⟨#[72,101,115,104,118,97,110]⟩ 2 false,bU 4 ⟨#[75,105,115,108,101,118]⟩ 3 false,bU 5 ⟨#[84,101,118,101,116]⟩ 4 false,bU 6 ⟨#[83,104,101,118,97,116]⟩ 5 false,bU 7 ⟨#[65,100,97,114]⟩ 6 false,bU 8 ⟨#[78,105,115,97,110]⟩ 7 false,bU 9 ⟨#[73,121,97,114]⟩ 8 false,bU 10 ⟨#[83,105,118,97,110]⟩ 9 false,bU 11 ⟨#[84,97,109,109,117,122]⟩ 10 false,bU 12 ⟨#[65,118]⟩ 11 false,bU 13 ⟨#[69,108,117,108]⟩ 12 false].take k).toArray
theorem Tw(w:World)(hT:Tab w 2 nameCells):
  Calls Tryo.prog 68 #[] w fun e w'=>e= .returned (.map (some w.1.size))/\w'.1[w.1.size]? =some (.map (aO 12) 14)/\Below w.1.size w w':=by
 have hlt0:=hT.lt
 obtain⟨t,hT⟩:=hT
 have hT2:w.1[2]? =some (.cells #[.string ⟨#[84,105,115,104,114,105]⟩,.string ⟨#[72,101,115,104,118,97,110]⟩,.string ⟨#[75,105,115,108,101,118]⟩,.string ⟨#[84,101,118,101,116]⟩,.string ⟨#[83,104,101,118,97,116]⟩,.string ⟨#[65,100,97,114]⟩,.string ⟨#[78,105,115,97,110]⟩,.string ⟨#[73,121,97,114]⟩,.string ⟨#[83,105,118,97,110]⟩,.string ⟨#[84,97,109,109,117,122]⟩,.string ⟨#[65,118]⟩,.string ⟨#[69,108,117,108]⟩] t (0,0)):=hT
 have HT:=Lib.hid hT2
 clear hT hT2
 have hmm:= @run_makeMap Tryo.prog
 have h0:(w.alloc (.map #[] 0)).1[w.1.size]? =some (.map #[] 0):=by first|(simp;done)|(show(w.1.push _)[w.1.size]? =_;simp)
 go_enter (vF Tryz.func68),Tryz.ntmps68
 go_wp2_with (first|(refine zG _ rfl _ _ _ 113 rfl 9 31 (aB Tryz.underlying113) (aB Tryz.underlying9) w.1.size 0 #[] rfl h0 _ _ rfl rfl vK ?_;intro w1 hm1 hB1)|(refine zG _ rfl _ _ _ 113 rfl 9 31 (aB Tryz.underlying113) (aB Tryz.underlying9) w.1.size _ _ rfl hm1 _ _ rfl rfl vK ?_;intro w2 hm2 hB2)|(refine wpList_load_row rfl 159 _ rfl 2 rfl t #[.string ⟨#[84,105,115,104,114,105]⟩,.string ⟨#[72,101,115,104,118,97,110]⟩,.string ⟨#[75,105,115,108,101,118]⟩,.string ⟨#[84,101,118,101,116]⟩,.string ⟨#[83,104,101,118,97,116]⟩,.string ⟨#[65,100,97,114]⟩,.string ⟨#[78,105,115,97,110]⟩,.string ⟨#[73,121,97,114]⟩,.string ⟨#[83,105,118,97,110]⟩,.string ⟨#[84,97,109,109,117,122]⟩,.string ⟨#[65,118]⟩,.string ⟨#[69,108,117,108]⟩] (0,0) _ ((hB2.block _ (by have h9:=hB1.size;simp at h9;omega) vO).trans ((hB1.block _ (by first|omega|(simp;done)|(simp;omega)) vO).trans ((Below.heap_alloc _ _ _ hlt0).trans HT.out))) (aB Tryz.underlying159) rfl vK ?_))
 go_loopw [9] (fun i wr=>∃k:Int,0<=k/\k<=12/\i= .int .i64 k/\wr.1[w.1.size]? =some (.map (aO k.toNat) (k.toNat+2))/\Below w.1.size w wr) (fun i _=>(12-intOf i).toNat)
 case atStart=>exact⟨0,vO,vO,rfl,hm2,But.below hB2 (But.below hB1 (ba _ _) (Nat.le_refl _)) (Nat.le_refl _)⟩
 case round=>
  obtain⟨k,k0,k1,rfl,hm,hB⟩:=hrel
  have hk:k=0∨k=1∨k=2∨k=3∨k=4∨k=5∨k=6∨k=7∨k=8∨k=9∨k=10∨k=11∨k=12:=vO
  clear k0 k1 hB1 hB2 hm1 hm2 h0
  rcases hk with rfl|rfl|rfl|rfl|rfl|rfl|rfl|rfl|rfl|rfl|rfl|rfl|rfl
  ·have hm:wr.1[w.1.size]? =some (.map (aO 0) 2):=hm
   have hix:∀w:World,(Instr.index 159 (.agg #[.string ⟨#[84,105,115,104,114,105]⟩,.string ⟨#[72,101,115,104,118,97,110]⟩,.string ⟨#[75,105,115,108,101,118]⟩,.string ⟨#[84,101,118,101,116]⟩,.string ⟨#[83,104,101,118,97,116]⟩,.string ⟨#[65,100,97,114]⟩,.string ⟨#[78,105,115,97,110]⟩,.string ⟨#[73,121,97,114]⟩,.string ⟨#[83,105,118,97,110]⟩,.string ⟨#[84,97,109,109,117,122]⟩,.string ⟨#[65,118]⟩,.string ⟨#[69,108,117,108]⟩]) (.int .i64 0)).run Tryo.prog w= .ok (.string ⟨#[84,105,115,104,114,105]⟩) w:=fun _=>by kernel_rfl
   go_wp2_with (first|(at_mapUpdate;refine bQ _ rfl _ _ _ 113 rfl 9 31 (aB Tryz.underlying113) (aB Tryz.underlying9) w.1.size 2 (aO 0) rfl hm _ _ rfl rfl vK ?_;intro w3 hm3 hB3)|fail)
   go_roundw
   case rel=>exact⟨1,vO,vO,rfl,hm3,But.below hB3 hB (Nat.le_refl _)⟩
   case measure=>simp [intOf]
  ·have hm:wr.1[w.1.size]? =some (.map (aO 1) 3):=hm
   have hix:∀w:World,(Instr.index 159 (.agg #[.string ⟨#[84,105,115,104,114,105]⟩,.string ⟨#[72,101,115,104,118,97,110]⟩,.string ⟨#[75,105,115,108,101,118]⟩,.string ⟨#[84,101,118,101,116]⟩,.string ⟨#[83,104,101,118,97,116]⟩,.string ⟨#[65,100,97,114]⟩,.string ⟨#[78,105,115,97,110]⟩,.string ⟨#[73,121,97,114]⟩,.string ⟨#[83,105,118,97,110]⟩,.string ⟨#[84,97,109,109,117,122]⟩,.string ⟨#[65,118]⟩,.string ⟨#[69,108,117,108]⟩]) (.int .i64 1)).run Tryo.prog w= .ok (.string ⟨#[72,101,115,104,118,97,110]⟩) w:=fun _=>by kernel_rfl
   go_wp2_with (first|(at_mapUpdate;refine bQ _ rfl _ _ _ 113 rfl 9 31 (aB Tryz.underlying113) (aB Tryz.underlying9) w.1.size 3 (aO 1) rfl hm _ _ rfl rfl vK ?_;intro w3 hm3 hB3)|fail)
   go_roundw
   case rel=>exact⟨2,vO,vO,rfl,hm3,But.below hB3 hB (Nat.le_refl _)⟩
   case measure=>simp [intOf]
  ·have hm:wr.1[w.1.size]? =some (.map (aO 2) 4):=hm
   have hix:∀w:World,(Instr.index 159 (.agg #[.string ⟨#[84,105,115,104,114,105]⟩,.string ⟨#[72,101,115,104,118,97,110]⟩,.string ⟨#[75,105,115,108,101,118]⟩,.string ⟨#[84,101,118,101,116]⟩,.string ⟨#[83,104,101,118,97,116]⟩,.string ⟨#[65,100,97,114]⟩,.string ⟨#[78,105,115,97,110]⟩,.string ⟨#[73,121,97,114]⟩,.string ⟨#[83,105,118,97,110]⟩,.string ⟨#[84,97,109,109,117,122]⟩,.string ⟨#[65,118]⟩,.string ⟨#[69,108,117,108]⟩]) (.int .i64 2)).run Tryo.prog w= .ok (.string ⟨#[75,105,115,108,101,118]⟩) w:=fun _=>by kernel_rfl
   go_wp2_with (first|(at_mapUpdate;refine bQ _ rfl _ _ _ 113 rfl 9 31 (aB Tryz.underlying113) (aB Tryz.underlying9) w.1.size 4 (aO 2) rfl hm _ _ rfl rfl vK ?_;intro w3 hm3 hB3)|fail)
   go_roundw
   case rel=>exact⟨3,vO,vO,rfl,hm3,But.below hB3 hB (Nat.le_refl _)⟩
   case measure=>simp [intOf]
  ·have hm:wr.1[w.1.size]? =some (.map (aO 3) 5):=hm
   have hix:∀w:World,(Instr.index 159 (.agg #[.string ⟨#[84,105,115,104,114,105]⟩,.string ⟨#[72,101,115,104,118,97,110]⟩,.string ⟨#[75,105,115,108,101,118]⟩,.string ⟨#[84,101,118,101,116]⟩,.string ⟨#[83,104,101,118,97,116]⟩,.string ⟨#[65,100,97,114]⟩,.string ⟨#[78,105,115,97,110]⟩,.string ⟨#[73,121,97,114]⟩,.string ⟨#[83,105,118,97,110]⟩,.string ⟨#[84,97,109,109,117,122]⟩,.string ⟨#[65,118]⟩,.string ⟨#[69,108,117,108]⟩]) (.int .i64 3)).run Tryo.prog w= .ok (.string ⟨#[84,101,118,101,116]⟩) w:=fun _=>by kernel_rfl
   go_wp2_with (first|(at_mapUpdate;refine bQ _ rfl _ _ _ 113 rfl 9 31 (aB Tryz.underlying113) (aB Tryz.underlying9) w.1.size 5 (aO 3) rfl hm _ _ rfl rfl vK ?_;intro w3 hm3 hB3)|fail)
   go_roundw
   case rel=>exact⟨4,vO,vO,rfl,hm3,But.below hB3 hB (Nat.le_refl _)⟩
   case measure=>simp [intOf]
  ·have hm:wr.1[w.1.size]? =some (.map (aO 4) 6):=hm
   have hix:∀w:World,(Instr.index 159 (.agg #[.string ⟨#[84,105,115,104,114,105]⟩,.string ⟨#[72,101,115,104,118,97,110]⟩,.string ⟨#[75,105,115,108,101,118]⟩,.string ⟨#[84,101,118,101,116]⟩,.string ⟨#[83,104,101,118,97,116]⟩,.string ⟨#[65,100,97,114]⟩,.string ⟨#[78,105,115,97,110]⟩,.string ⟨#[73,121,97,114]⟩,.string ⟨#[83,105,118,97,110]⟩,.string ⟨#[84,97,109,109,117,122]⟩,.string ⟨#[65,118]⟩,.string ⟨#[69,108,117,108]⟩]) (.int .i64 4)).run Tryo.prog w= .ok (.string ⟨#[83,104,101,118,97,116]⟩) w:=fun _=>by kernel_rfl
   go_wp2_with (first|(at_mapUpdate;refine bQ _ rfl _ _ _ 113 rfl 9 31 (aB Tryz.underlying113) (aB Tryz.underlying9) w.1.size 6 (aO 4) rfl hm _ _ rfl rfl vK ?_;intro w3 hm3 hB3)|fail)
   go_roundw
   case rel=>exact⟨5,vO,vO,rfl,hm3,But.below hB3 hB (Nat.le_refl _)⟩
   case measure=>simp [intOf]
  ·have hm:wr.1[w.1.size]? =some (.map (aO 5) 7):=hm
   have hix:∀w:World,(Instr.index 159 (.agg #[.string ⟨#[84,105,115,104,114,105]⟩,.string ⟨#[72,101,115,104,118,97,110]⟩,.string ⟨#[75,105,115,108,101,118]⟩,.string ⟨#[84,101,118,101,116]⟩,.string ⟨#[83,104,101,118,97,116]⟩,.string ⟨#[65,100,97,114]⟩,.string ⟨#[78,105,115,97,110]⟩,.string ⟨#[73,121,97,114]⟩,.string ⟨#[83,105,118,97,110]⟩,.string ⟨#[84,97,109,109,117,122]⟩,.string ⟨#[65,118]⟩,.string ⟨#[69,108,117,108]⟩]) (.int .i64 5)).run Tryo.prog w= .ok (.string ⟨#[65,100,97,114]⟩) w:=fun _=>by kernel_rfl
   go_wp2_with (first|(at_mapUpdate;refine bQ _ rfl _ _ _ 113 rfl 9 31 (aB Tryz.underlying113) (aB Tryz.underlying9) w.1.size 7 (aO 5) rfl hm _ _ rfl rfl vK ?_;intro w3 hm3 hB3)|fail)
   go_roundw
   case rel=>exact⟨6,vO,vO,rfl,hm3,But.below hB3 hB (Nat.le_refl _)⟩
   case measure=>simp [intOf]
  ·have hm:wr.1[w.1.size]? =some (.map (aO 6) 8):=hm
   have hix:∀w:World,(Instr.index 159 (.agg #[.string ⟨#[84,105,115,104,114,105]⟩,.string ⟨#[72,101,115,104,118,97,110]⟩,.string ⟨#[75,105,115,108,101,118]⟩,.string ⟨#[84,101,118,101,116]⟩,.string ⟨#[83,104,101,118,97,116]⟩,.string ⟨#[65,100,97,114]⟩,.string ⟨#[78,105,115,97,110]⟩,.string ⟨#[73,121,97,114]⟩,.string ⟨#[83,105,118,97,110]⟩,.string ⟨#[84,97,109,109,117,122]⟩,.string ⟨#[65,118]⟩,.string ⟨#[69,108,117,108]⟩]) (.int .i64 6)).run Tryo.prog w= .ok (.string ⟨#[78,105,115,97,110]⟩) w:=fun _=>by kernel_rfl
   go_wp2_with (first|(at_mapUpdate;refine bQ _ rfl _ _ _ 113 rfl 9 31 (aB Tryz.underlying113) (aB Tryz.underlying9) w.1.size 8 (aO 6) rfl hm _ _ rfl rfl vK ?_;intro w3 hm3 hB3)|fail)
   go_roundw
   case rel=>exact⟨7,vO,vO,rfl,hm3,But.below hB3 hB (Nat.le_refl _)⟩
   case measure=>simp [intOf]
  ·have hm:wr.1[w.1.size]? =some (.map (aO 7) 9):=hm
   have hix:∀w:World,(Instr.index 159 (.agg #[.string ⟨#[84,105,115,104,114,105]⟩,.string ⟨#[72,101,115,104,118,97,110]⟩,.string ⟨#[75,105,115,108,101,118]⟩,.string ⟨#[84,101,118,101,116]⟩,.string ⟨#[83,104,101,118,97,116]⟩,.string ⟨#[65,100,97,114]⟩,.string ⟨#[78,105,115,97,110]⟩,.string ⟨#[73,121,97,114]⟩,.string ⟨#[83,105,118,97,110]⟩,.string ⟨#[84,97,109,109,117,122]⟩,.string ⟨#[65,118]⟩,.string ⟨#[69,108,117,108]⟩]) (.int .i64 7)).run Tryo.prog w= .ok (.string ⟨#[73,121,97,114]⟩) w:=fun _=>by kernel_rfl
   go_wp2_with (first|(at_mapUpdate;refine bQ _ rfl _ _ _ 113 rfl 9 31 (aB Tryz.underlying113) (aB Tryz.underlying9) w.1.size 9 (aO 7) rfl hm _ _ rfl rfl vK ?_;intro w3 hm3 hB3)|fail)
   go_roundw
   case rel=>exact⟨8,vO,vO,rfl,hm3,But.below hB3 hB (Nat.le_refl _)⟩
   case measure=>simp [intOf]
  ·have hm:wr.1[w.1.size]? =some (.map (aO 8) 10):=hm
   have hix:∀w:World,(Instr.index 159 (.agg #[.string ⟨#[84,105,115,104,114,105]⟩,.string ⟨#[72,101,115,104,118,97,110]⟩,.string ⟨#[75,105,115,108,101,118]⟩,.string ⟨#[84,101,118,101,116]⟩,.string ⟨#[83,104,101,118,97,116]⟩,.string ⟨#[65,100,97,114]⟩,.string ⟨#[78,105,115,97,110]⟩,.string ⟨#[73,121,97,114]⟩,.string ⟨#[83,105,118,97,110]⟩,.string ⟨#[84,97,109,109,117,122]⟩,.string ⟨#[65,118]⟩,.string ⟨#[69,108,117,108]⟩]) (.int .i64 8)).run Tryo.prog w= .ok (.string ⟨#[83,105,118,97,110]⟩) w:=fun _=>by kernel_rfl
   go_wp2_with (first|(at_mapUpdate;refine bQ _ rfl _ _ _ 113 rfl 9 31 (aB Tryz.underlying113) (aB Tryz.underlying9) w.1.size 10 (aO 8) rfl hm _ _ rfl rfl vK ?_;intro w3 hm3 hB3)|fail)
   go_roundw
   case rel=>exact⟨9,vO,vO,rfl,hm3,But.below hB3 hB (Nat.le_refl _)⟩
   case measure=>simp [intOf]
  ·have hm:wr.1[w.1.size]? =some (.map (aO 9) 11):=hm
   have hix:∀w:World,(Instr.index 159 (.agg #[.string ⟨#[84,105,115,104,114,105]⟩,.string ⟨#[72,101,115,104,118,97,110]⟩,.string ⟨#[75,105,115,108,101,118]⟩,.string ⟨#[84,101,118,101,116]⟩,.string ⟨#[83,104,101,118,97,116]⟩,.string ⟨#[65,100,97,114]⟩,.string ⟨#[78,105,115,97,110]⟩,.string ⟨#[73,121,97,114]⟩,.string ⟨#[83,105,118,97,110]⟩,.string ⟨#[84,97,109,109,117,122]⟩,.string ⟨#[65,118]⟩,.string ⟨#[69,108,117,108]⟩]) (.int .i64 9)).run Tryo.prog w= .ok (.string ⟨#[84,97,109,109,117,122]⟩) w:=fun _=>by kernel_rfl
   go_wp2_with (first|(at_mapUpdate;refine bQ _ rfl _ _ _ 113 rfl 9 31 (aB Tryz.underlying113) (aB Tryz.underlying9) w.1.size 11 (aO 9) rfl hm _ _ rfl rfl vK ?_;intro w3 hm3 hB3)|fail)
   go_roundw
   case rel=>exact⟨10,vO,vO,rfl,hm3,But.below hB3 hB (Nat.le_refl _)⟩
   case measure=>simp [intOf]
  ·have hm:wr.1[w.1.size]? =some (.map (aO 10) 12):=hm
   have hix:∀w:World,(Instr.index 159 (.agg #[.string ⟨#[84,105,115,104,114,105]⟩,.string ⟨#[72,101,115,104,118,97,110]⟩,.string ⟨#[75,105,115,108,101,118]⟩,.string ⟨#[84,101,118,101,116]⟩,.string ⟨#[83,104,101,118,97,116]⟩,.string ⟨#[65,100,97,114]⟩,.string ⟨#[78,105,115,97,110]⟩,.string ⟨#[73,121,97,114]⟩,.string ⟨#[83,105,118,97,110]⟩,.string ⟨#[84,97,109,109,117,122]⟩,.string ⟨#[65,118]⟩,.string ⟨#[69,108,117,108]⟩]) (.int .i64 10)).run Tryo.prog w= .ok (.string ⟨#[65,118]⟩) w:=fun _=>by kernel_rfl
   go_wp2_with (first|(at_mapUpdate;refine bQ _ rfl _ _ _ 113 rfl 9 31 (aB Tryz.underlying113) (aB Tryz.underlying9) w.1.size 12 (aO 10) rfl hm _ _ rfl rfl vK ?_;intro w3 hm3 hB3)|fail)
   go_roundw
   case rel=>exact⟨11,vO,vO,rfl,hm3,But.below hB3 hB (Nat.le_refl _)⟩
   case measure=>simp [intOf]
  ·have hm:wr.1[w.1.size]? =some (.map (aO 11) 13):=hm
   have hix:∀w:World,(Instr.index 159 (.agg #[.string ⟨#[84,105,115,104,114,105]⟩,.string ⟨#[72,101,115,104,118,97,110]⟩,.string ⟨#[75,105,115,108,101,118]⟩,.string ⟨#[84,101,118,101,116]⟩,.string ⟨#[83,104,101,118,97,116]⟩,.string ⟨#[65,100,97,114]⟩,.string ⟨#[78,105,115,97,110]⟩,.string ⟨#[73,121,97,114]⟩,.string ⟨#[83,105,118,97,110]⟩,.string ⟨#[84,97,109,109,117,122]⟩,.string ⟨#[65,118]⟩,.string ⟨#[69,108,117,108]⟩]) (.int .i64 11)).run Tryo.prog w= .ok (.string ⟨#[69,108,117,108]⟩) w:=fun _=>by kernel_rfl
   go_wp2_with (first|(at_mapUpdate;refine bQ _ rfl _ _ _ 113 rfl 9 31 (aB Tryz.underlying113) (aB Tryz.underlying9) w.1.size 13 (aO 11) rfl hm _ _ rfl rfl vK ?_;intro w3 hm3 hB3)|fail)
   go_roundw
   case rel=>exact⟨12,vO,vO,rfl,hm3,But.below hB3 hB (Nat.le_refl _)⟩
   case measure=>simp [intOf]
  ·go_wp2_with fail
   go_ret
   exact⟨rfl,hm,hB⟩
end
section
open Go.ChangeShapes Go.WideShapes Go.ChangeAt Go.RowKit
def nOk(s:ByteArray)(M:Int):Bool:=decide (1<=(s.size:Int))&&(decide ((s.size:Int)<=M)&&(decide (¬ s.data.toList.head?=some 48)&&s.data.toList.all fK))
def jI(s:ByteArray)(M:Int):Int:=if nOk s M then fH s.data.toList else 0
theorem Ka(s:ByteArray)(M:Int)(w:World)(hs:s.size<=9223372036854775807)(h:(s.size:Int)<1):
  vC 67 #[s,M] w (.tuple #[(0:Int),false]):=by
 go_enter (vF Tryz.func67),Tryz.ntmps67
 go_wp2_with fail
 go_ret2
 exact⟨rfl,rfl⟩
theorem KE(s:ByteArray)(M:Int)(w:World)(hs:s.size<=9223372036854775807)(h0:1<=(s.size:Int))(h:M<(s.size:Int)):
  vC 67 #[s,M] w (.tuple #[(0:Int),false]):=by
 go_enter (vF Tryz.func67),Tryz.ntmps67
 go_wp2_with fail
 go_ret2
 exact⟨rfl,rfl⟩
theorem Lr(s:ByteArray)(M:Int)(w:World)(hs:s.size<=9223372036854775807)(h0:1<=(s.size:Int))(h1:(s.size:Int)<=M)(hp:0<s.size)(h:(s[0].toNat:Int)=48):
  vC 67 #[s,M] w (.tuple #[(0:Int),false]):=by
 go_enter (vF Tryz.func67),Tryz.ntmps67
 go_wp2_with fail
 go_ret2
 exact⟨rfl,rfl⟩
theorem JE(s:ByteArray)(M:Int)(w:World)(hs:s.size<=4)(h0:1<=(s.size:Int))(h1:(s.size:Int)<=M)(hp:0<s.size)(h:¬ (s[0].toNat:Int)=48)(vv:Int)(oo:Bool)(HOk:Hid (oo=s.data.toList.all fK))(HV:Hid (vv=if s.data.toList.all fK then fH s.data.toList else 0)):
  vC 67 #[s,M] w (.tuple #[vv,oo]):=by
 go_enter (vF Tryz.func67),Tryz.ntmps67
 go_wp2_with fail
 ·rename_i hq
  exfalso
  rcases hq with (q|q)|q
  ·omega
  ·omega
  ·exact h (by simpa using q)
 go_loop [6,24] (fun n i=>∃k:Nat,k<=s.size/\i= .int .i64 k/\n= .int .i64 (fH (s.data.toList.take k))/\Hid ((s.data.toList.take k).all fK=true)) (fun _ i=>s.size-(intOf i).toNat)
 case atStart=>exact⟨0,Nat.zero_le _,rfl,rfl,Lib.hid rfl⟩
 case round=>
  obtain⟨k,hk,rfl,rfl,hA⟩:=hrel
  have hbd:=sV _ hA.out
  have hlt4:(s.data.toList.take k).length<=k:=List.length_take_le _ _
  clear h h1 h0
  by_cases hlt:k<s.size
  ·have hpow:(10:Int) ^ (s.data.toList.take k).length<=1000:=by
    rcases(show(s.data.toList.take k).length=0∨(s.data.toList.take k).length=1∨(s.data.toList.take k).length=2∨(s.data.toList.take k).length=3 by omega)with h|h|h|h <;> rw [h] <;> decide
   have hF0:=hbd.1
   have hF1:fH (s.data.toList.take k)<1000:=vO
   have hsn:=uw (s.data.toList.take k) s[k]
   rw [←take_snoc' s k hlt]at hsn
   have hall:fK s[k]=true->(s.data.toList.take (k+1)).all fK=true:=fun h=>by rw [take_snoc' s k hlt,List.all_append,hA.out];simpa using h
   have hno:=Pw s k hlt
   have HS:=Lib.hid (And.intro hsn (And.intro hall hno))
   clear hsn hall hno hbd hpow hlt4
   by_cases h48:48<=(s[k].toNat:Int)
   ·by_cases h57:(s[k].toNat:Int)<=57
    ·have hdig:fK s[k]=true:=by unfold fK;simp;omega
     have HD:=Lib.hid hdig
     clear hdig
     go_wp2_with fail
     go_round
     case rel=>exact⟨_,_,_,_,_,⟨k+1,vO,by go_num,by rw [HS.out.1],Lib.hid (List.all_eq_true.1 (HS.out.2.1 HD.out))⟩,rfl,rfl,rfl,rfl,rfl⟩
     case measure=>simp [intOf];omega
    ·have hf:fK s[k]=false:=by unfold fK;simp;omega
     have e:=HS.out.2.2 hf
     have ev:vv=0:=by rw [HV.out,e];rfl
     have eo:oo=false:=by rw [HOk.out,e]
     clear e hf
     subst ev
     subst eo
     go_wp2_with fail
     go_ret2
     exact⟨rfl,rfl⟩
   ·have hf:fK s[k]=false:=by unfold fK;simp;omega
    have e:=HS.out.2.2 hf
    have ev:vv=0:=by rw [HV.out,e];rfl
    have eo:oo=false:=by rw [HOk.out,e]
    clear e hf
    subst ev
    subst eo
    go_wp2_with fail
    go_ret2
    exact⟨rfl,rfl⟩
  ·obtain rfl:k=s.size:=vO
   have ht:s.data.toList.take s.size=s.data.toList:=List.take_of_length_le vS
   rw [ht]at hA hbd⊢
   have ev:vv=fH s.data.toList:=by rw [HV.out,hA.out];rfl
   have eo:oo=true:=by rw [HOk.out,hA.out]
   clear ht hbd hlt4
   subst ev
   subst eo
   go_wp2_with fail
   go_ret2
   exact⟨rfl,rfl⟩
theorem Mg(s:ByteArray)(hp:0<s.size):s.data.toList.head?=some s[0]:=by
 have e:s[0]=s.data.toList[0]'(by simpa using hp):=rfl
 rw [e,List.head?_eq_getElem?,List.getElem?_eq_getElem]
theorem FN(s:ByteArray)(M:Int)(w:World)(hM:M<=4)(hs:s.size<=9223372036854775807):
  vC 67 #[s,M] w (.tuple #[jI s M,nOk s M]):=by
 by_cases c0:(s.size:Int)<1
 ·have e:nOk s M=false:=by unfold nOk;rw [decide_eq_false vO];rfl
  rw [show jI s M=0 by unfold jI;rw [e];rfl,e]
  exact Ka s M w hs c0
 ·by_cases c1:M<(s.size:Int)
  ·have e:nOk s M=false:=by unfold nOk;rw [decide_eq_false (show ¬ (s.size:Int)<=M by omega)];simp
   rw [show jI s M=0 by unfold jI;rw [e];rfl,e]
   exact KE s M w hs vO c1
  ·have hp:0<s.size:=vO
   by_cases c2:(s[0].toNat:Int)=48
   ·have e2:s[0]=48:=by rw [←UInt8.toNat_inj];show s[0].toNat=48;omega
    have e:nOk s M=false:=by unfold nOk;rw [Mg s hp,e2];simp
    rw [show jI s M=0 by unfold jI;rw [e];rfl,e]
    exact Lr s M w hs vO vO hp c2
   ·have e2:¬ s[0]=48:=fun e=>c2 (by rw [e];rfl)
    have e:nOk s M=s.data.toList.all fK:=by
     unfold nOk
     rw [Mg s hp,decide_eq_true (show 1<=(s.size:Int) by omega),decide_eq_true (show(s.size:Int)<=M by omega),decide_eq_true (show ¬ some s[0]=some 48 by simpa using e2)]
     rfl
    exact JE s M w vO vO vO hp c2 _ _ (Lib.hid e) (Lib.hid (by unfold jI;rw [e]))
theorem qE:(∀(y n:Int)(l:Bool)(v er:Int)(w:World)(hT:Tab w 6 kevCells)(hL:Tab w 4 lenCells)(HC:Hid (∀w:World,Tab w 6 kevCells->Tab w 4 lenCells->vB 87 #[y,.agg #[n,l]] w (.tuple #[v,er])))(h:(er !=0)=true),vB 69 #[y,.agg #[n,l]] w (.tuple #[.string ⟨#[]⟩,er]))/\(∀(y n:Int)(v:Int)(w:World)(hT:Tab w 6 kevCells)(hL:Tab w 4 lenCells)(HC:Hid (∀w:World,Tab w 6 kevCells->Tab w 4 lenCells->vB 87 #[y,.agg #[n,true]] w (.tuple #[v,(0:Int)]))),vB 69 #[y,.agg #[n,true]] w (.tuple #[.string ⟨#[65,100,97,114,32,73]⟩,(0:Int)])):=by
 refine⟨@fun y n l v er w hT hL HC h=>(fun(k90:Nat)=> ?_) 0,@fun y n v w hT hL HC=> ?_⟩
 all_goals(
 go_enter (vF Tryz.func69),Tryz.ntmps69
 go_wp2_with fail
 refine vX (HC.out _ (Tab.below hT bem) (Tab.below hL bem)) fun w1 hb1 hz1 hc1 hf1=>?_
 try simp at hz1
 have hs1x0:w.1.size<w1.1.size:=vO
 have g1x0:w1.cell? ⟨w.1.size,0,none⟩=some (n:vV):=cel hc1
 first|(have _:=k90;have g1x1:w1.cell? ⟨w.1.size,1,none⟩=some (.bool (l)):=cel hc1)|(have g1x1:w1.cell? ⟨w.1.size,1,none⟩=some (.bool true):=cel hc1)
 go_wp2_with fail
 go_ret2
 refine⟨rfl, ?_⟩
 exact bem
 )
def GZ:=qE.1
def MN:=qE.2
theorem yH:(∀(y v:Int)(lp:Bool)(w:World)(hT:Tab w 6 kevCells)(hL:Tab w 4 lenCells)(hlt:2<w.1.size)(hN:w.cell? ⟨2,1,none⟩=some (.string ⟨#[72,101,115,104,118,97,110]⟩))(HC:Hid (∀w:World,Tab w 6 kevCells->Tab w 4 lenCells->vB 87 #[y,.agg #[(2:Int),false]] w (.tuple #[v,(0:Int)])))(HL:Hid (∀w:World,vC 43 #[y] w (.tuple #[lp,(0:Int)]))),vB 69 #[y,.agg #[(2:Int),false]] w (.tuple #[.string ⟨#[72,101,115,104,118,97,110]⟩,(0:Int)]))/\(∀(y v:Int)(lp:Bool)(w:World)(hT:Tab w 6 kevCells)(hL:Tab w 4 lenCells)(hlt:2<w.1.size)(hN:w.cell? ⟨2,5,none⟩=some (.string ⟨#[65,100,97,114]⟩))(HC:Hid (∀w:World,Tab w 6 kevCells->Tab w 4 lenCells->vB 87 #[y,.agg #[(6:Int),false]] w (.tuple #[v,(0:Int)])))(HL:Hid (∀w:World,vC 43 #[y] w (.tuple #[lp,(0:Int)])))(hlp:lp=false),vB 69 #[y,.agg #[(6:Int),false]] w (.tuple #[.string ⟨#[65,100,97,114]⟩,(0:Int)])):=by
 refine⟨@fun y v lp w hT hL hlt hN HC HL=>(fun(k90:Nat)=> ?_) 0,@fun y v lp w hT hL hlt hN HC HL hlp=> ?_⟩
 all_goals(
 first|(have _:=k90;skip)|(subst hlp)
 go_enter (vF Tryz.func69),Tryz.ntmps69
 go_wp2_with fail
 refine vX (HC.out _ (Tab.below hT bem) (Tab.below hL bem)) fun w1 hb1 hz1 hc1 hf1=>?_
 try simp at hz1
 have hs1x0:w.1.size<w1.1.size:=vO
 have hs1x1:2<w1.1.size:=vO
 first|(have _:=k90;have g1x0:w1.cell? ⟨w.1.size,0,none⟩=some (.int .i64 2):=cel hc1)|(have g1x0:w1.cell? ⟨w.1.size,0,none⟩=some (.int .i64 6):=cel hc1)
 have g1x1:w1.cell? ⟨w.1.size,1,none⟩=some (.bool false):=cel hc1
 first|(have _:=k90;have g1x2:w1.cell? ⟨2,1,none⟩=some (.string ⟨#[72,101,115,104,118,97,110]⟩):=cel hc1)|(have g1x2:w1.cell? ⟨2,5,none⟩=some (.string ⟨#[65,100,97,114]⟩):=cel hc1)
 go_wp2_with fail
 refine vW (HL.out _) ?_
 go_wp2_with fail
 all_goals go_ret2
 all_goals refine⟨rfl, ?_⟩
 all_goals repeat(first|exact Below.refl _ _|assumption|(with_reducible refine aT ?_)|(with_reducible refine baa ?_ _)|(with_reducible refine bs ?_ (by first|exact Nat.le_refl _|omega|(simp;done)|(simp;omega)) _)|(with_reducible refine bt ?_ tQ))
 )
def NZ:=yH.1
def Ni:=yH.2
theorem oz:(∀(y v:Int)(lp:Bool)(w:World)(hT:Tab w 6 kevCells)(hL:Tab w 4 lenCells)(hlt:2<w.1.size)(hN:w.cell? ⟨2,3,none⟩=some (.string ⟨#[84,101,118,101,116]⟩))(HC:Hid (∀w:World,Tab w 6 kevCells->Tab w 4 lenCells->vB 87 #[y,.agg #[(4:Int),false]] w (.tuple #[v,(0:Int)])))(HL:Hid (∀w:World,vC 43 #[y] w (.tuple #[lp,(0:Int)]))),vB 69 #[y,.agg #[(4:Int),false]] w (.tuple #[.string ⟨#[84,101,118,101,116]⟩,(0:Int)]))/\(∀(y v:Int)(lp:Bool)(w:World)(hT:Tab w 6 kevCells)(hL:Tab w 4 lenCells)(hlt:2<w.1.size)(hN:w.cell? ⟨2,6,none⟩=some (.string ⟨#[78,105,115,97,110]⟩))(HC:Hid (∀w:World,Tab w 6 kevCells->Tab w 4 lenCells->vB 87 #[y,.agg #[(7:Int),false]] w (.tuple #[v,(0:Int)])))(HL:Hid (∀w:World,vC 43 #[y] w (.tuple #[lp,(0:Int)]))),vB 69 #[y,.agg #[(7:Int),false]] w (.tuple #[.string ⟨#[78,105,115,97,110]⟩,(0:Int)]))/\(∀(y v:Int)(lp:Bool)(w:World)(hT:Tab w 6 kevCells)(hL:Tab w 4 lenCells)(hlt:2<w.1.size)(hN:w.cell? ⟨2,8,none⟩=some (.string ⟨#[83,105,118,97,110]⟩))(HC:Hid (∀w:World,Tab w 6 kevCells->Tab w 4 lenCells->vB 87 #[y,.agg #[(9:Int),false]] w (.tuple #[v,(0:Int)])))(HL:Hid (∀w:World,vC 43 #[y] w (.tuple #[lp,(0:Int)]))),vB 69 #[y,.agg #[(9:Int),false]] w (.tuple #[.string ⟨#[83,105,118,97,110]⟩,(0:Int)])):=by
 refine⟨@fun y v lp w hT hL hlt hN HC HL=>(fun(k90:Nat)=> ?_) 0,@fun y v lp w hT hL hlt hN HC HL=>(fun(k91:Nat)=> ?_) 0,@fun y v lp w hT hL hlt hN HC HL=> ?_⟩
 all_goals(
 go_enter (vF Tryz.func69),Tryz.ntmps69
 go_wp2_with fail
 refine vX (HC.out _ (Tab.below hT bem) (Tab.below hL bem)) fun w1 hb1 hz1 hc1 hf1=>?_
 try simp at hz1
 have hs1x0:w.1.size<w1.1.size:=vO
 have hs1x1:2<w1.1.size:=vO
 first|(have _:=k90;have g1x0:w1.cell? ⟨w.1.size,0,none⟩=some (.int .i64 4):=cel hc1)|(have _:=k91;have g1x0:w1.cell? ⟨w.1.size,0,none⟩=some (.int .i64 7):=cel hc1)|(have g1x0:w1.cell? ⟨w.1.size,0,none⟩=some (.int .i64 9):=cel hc1)
 have g1x1:w1.cell? ⟨w.1.size,1,none⟩=some (.bool false):=cel hc1
 first|(have _:=k90;have g1x2:w1.cell? ⟨2,3,none⟩=some (.string ⟨#[84,101,118,101,116]⟩):=cel hc1)|(have _:=k91;have g1x2:w1.cell? ⟨2,6,none⟩=some (.string ⟨#[78,105,115,97,110]⟩):=cel hc1)|(have g1x2:w1.cell? ⟨2,8,none⟩=some (.string ⟨#[83,105,118,97,110]⟩):=cel hc1)
 go_wp2_with fail
 refine vW (HL.out _) ?_
 go_wp2_with fail
 all_goals go_ret2
 all_goals refine⟨rfl, ?_⟩
 all_goals repeat(first|exact Below.refl _ _|assumption|(with_reducible refine aT ?_)|(with_reducible refine baa ?_ _)|(with_reducible refine bs ?_ (by first|exact Nat.le_refl _|omega|(simp;done)|(simp;omega)) _)|(with_reducible refine bt ?_ tQ))
 )
def NI:=oz.1
def M5:=oz.2.1
def OM:=oz.2.2
theorem kM:(∀(y v:Int)(lp:Bool)(w:World)(hT:Tab w 6 kevCells)(hL:Tab w 4 lenCells)(hlt:2<w.1.size)(hN:w.cell? ⟨2,0,none⟩=some (.string ⟨#[84,105,115,104,114,105]⟩))(HC:Hid (∀w:World,Tab w 6 kevCells->Tab w 4 lenCells->vB 87 #[y,.agg #[(1:Int),false]] w (.tuple #[v,(0:Int)])))(HL:Hid (∀w:World,vC 43 #[y] w (.tuple #[lp,(0:Int)]))),vB 69 #[y,.agg #[(1:Int),false]] w (.tuple #[.string ⟨#[84,105,115,104,114,105]⟩,(0:Int)]))/\(∀(y v:Int)(lp:Bool)(w:World)(hT:Tab w 6 kevCells)(hL:Tab w 4 lenCells)(hlt:2<w.1.size)(hN:w.cell? ⟨2,2,none⟩=some (.string ⟨#[75,105,115,108,101,118]⟩))(HC:Hid (∀w:World,Tab w 6 kevCells->Tab w 4 lenCells->vB 87 #[y,.agg #[(3:Int),false]] w (.tuple #[v,(0:Int)])))(HL:Hid (∀w:World,vC 43 #[y] w (.tuple #[lp,(0:Int)]))),vB 69 #[y,.agg #[(3:Int),false]] w (.tuple #[.string ⟨#[75,105,115,108,101,118]⟩,(0:Int)]))/\(∀(y v:Int)(lp:Bool)(w:World)(hT:Tab w 6 kevCells)(hL:Tab w 4 lenCells)(hlt:2<w.1.size)(hN:w.cell? ⟨2,4,none⟩=some (.string ⟨#[83,104,101,118,97,116]⟩))(HC:Hid (∀w:World,Tab w 6 kevCells->Tab w 4 lenCells->vB 87 #[y,.agg #[(5:Int),false]] w (.tuple #[v,(0:Int)])))(HL:Hid (∀w:World,vC 43 #[y] w (.tuple #[lp,(0:Int)]))),vB 69 #[y,.agg #[(5:Int),false]] w (.tuple #[.string ⟨#[83,104,101,118,97,116]⟩,(0:Int)]))/\(∀(y v:Int)(lp:Bool)(w:World)(hT:Tab w 6 kevCells)(hL:Tab w 4 lenCells)(hlt:2<w.1.size)(hN:w.cell? ⟨2,9,none⟩=some (.string ⟨#[84,97,109,109,117,122]⟩))(HC:Hid (∀w:World,Tab w 6 kevCells->Tab w 4 lenCells->vB 87 #[y,.agg #[(10:Int),false]] w (.tuple #[v,(0:Int)])))(HL:Hid (∀w:World,vC 43 #[y] w (.tuple #[lp,(0:Int)]))),vB 69 #[y,.agg #[(10:Int),false]] w (.tuple #[.string ⟨#[84,97,109,109,117,122]⟩,(0:Int)])):=by
 refine⟨@fun y v lp w hT hL hlt hN HC HL=>(fun(k90:Nat)=> ?_) 0,@fun y v lp w hT hL hlt hN HC HL=>(fun(k91:Nat)=> ?_) 0,@fun y v lp w hT hL hlt hN HC HL=>(fun(k92:Nat)=> ?_) 0,@fun y v lp w hT hL hlt hN HC HL=> ?_⟩
 all_goals(
 go_enter (vF Tryz.func69),Tryz.ntmps69
 go_wp2_with fail
 refine vX (HC.out _ (Tab.below hT bem) (Tab.below hL bem)) fun w1 hb1 hz1 hc1 hf1=>?_
 try simp at hz1
 have hs1x0:w.1.size<w1.1.size:=vO
 have hs1x1:2<w1.1.size:=vO
 first|(have _:=k90;have g1x0:w1.cell? ⟨w.1.size,0,none⟩=some (.int .i64 1):=cel hc1)|(have _:=k91;have g1x0:w1.cell? ⟨w.1.size,0,none⟩=some (.int .i64 3):=cel hc1)|(have _:=k92;have g1x0:w1.cell? ⟨w.1.size,0,none⟩=some (.int .i64 5):=cel hc1)|(have g1x0:w1.cell? ⟨w.1.size,0,none⟩=some (.int .i64 10):=cel hc1)
 have g1x1:w1.cell? ⟨w.1.size,1,none⟩=some (.bool false):=cel hc1
 first|(have _:=k90;have g1x2:w1.cell? ⟨2,0,none⟩=some (.string ⟨#[84,105,115,104,114,105]⟩):=cel hc1)|(have _:=k91;have g1x2:w1.cell? ⟨2,2,none⟩=some (.string ⟨#[75,105,115,108,101,118]⟩):=cel hc1)|(have _:=k92;have g1x2:w1.cell? ⟨2,4,none⟩=some (.string ⟨#[83,104,101,118,97,116]⟩):=cel hc1)|(have g1x2:w1.cell? ⟨2,9,none⟩=some (.string ⟨#[84,97,109,109,117,122]⟩):=cel hc1)
 go_wp2_with fail
 refine vW (HL.out _) ?_
 go_wp2_with fail
 all_goals go_ret2
 all_goals refine⟨rfl, ?_⟩
 all_goals repeat(first|exact Below.refl _ _|assumption|(with_reducible refine aT ?_)|(with_reducible refine baa ?_ _)|(with_reducible refine bs ?_ (by first|exact Nat.le_refl _|omega|(simp;done)|(simp;omega)) _)|(with_reducible refine bt ?_ tQ))
 )
def Oz:=kM.1
def OQ:=kM.2.1
def OP:=kM.2.2.1
def K6:=kM.2.2.2
theorem uM:(∀(y v:Int)(w:World)(hT:Tab w 6 kevCells)(hL:Tab w 4 lenCells)(HC:Hid (∀w:World,Tab w 6 kevCells->Tab w 4 lenCells->vB 87 #[y,.agg #[(6:Int),false]] w (.tuple #[v,(0:Int)])))(HL:Hid (∀w:World,vC 43 #[y] w (.tuple #[true,(0:Int)]))),vB 69 #[y,.agg #[(6:Int),false]] w (.tuple #[.string ⟨#[65,100,97,114,32,73,73]⟩,(0:Int)]))/\(∀(y v:Int)(lp:Bool)(w:World)(hT:Tab w 6 kevCells)(hL:Tab w 4 lenCells)(hlt:2<w.1.size)(hN:w.cell? ⟨2,10,none⟩=some (.string ⟨#[65,118]⟩))(HC:Hid (∀w:World,Tab w 6 kevCells->Tab w 4 lenCells->vB 87 #[y,.agg #[(11:Int),false]] w (.tuple #[v,(0:Int)])))(HL:Hid (∀w:World,vC 43 #[y] w (.tuple #[lp,(0:Int)]))),vB 69 #[y,.agg #[(11:Int),false]] w (.tuple #[.string ⟨#[65,118]⟩,(0:Int)])):=by
 refine⟨@fun y v w hT hL HC HL=>(fun(k90:Nat)=> ?_) 0,@fun y v lp w hT hL hlt hN HC HL=> ?_⟩
 all_goals(
 go_enter (vF Tryz.func69),Tryz.ntmps69
 go_wp2_with fail
 refine vX (HC.out _ (Tab.below hT bem) (Tab.below hL bem)) fun w1 hb1 hz1 hc1 hf1=>?_
 try simp at hz1
 have hs1x0:w.1.size<w1.1.size:=vO
 first|(have _:=k90;have g1x0:w1.cell? ⟨w.1.size,0,none⟩=some (.int .i64 6):=cel hc1)|((have hs1x1:2<w1.1.size:=by omega);(have g1x0:w1.cell? ⟨w.1.size,0,none⟩=some (.int .i64 11):=cel hc1))
 have g1x1:w1.cell? ⟨w.1.size,1,none⟩=some (.bool false):=cel hc1
 first|(have _:=k90;skip)|(have g1x2:w1.cell? ⟨2,10,none⟩=some (.string ⟨#[65,118]⟩):=cel hc1)
 go_wp2_with fail
 refine vW (HL.out _) ?_
 go_wp2_with fail
 first|(have _:=k90;(go_ret2);(refine⟨rfl, ?_⟩);(repeat(first|exact Below.refl _ _|assumption|(with_reducible refine aT ?_)|(with_reducible refine baa ?_ _)|(with_reducible refine bs ?_ (by first|exact Nat.le_refl _|omega|(simp;done)|(simp;omega)) _)|(with_reducible refine bt ?_ tQ))))|((all_goals go_ret2);(all_goals refine⟨rfl, ?_⟩);(all_goals repeat(first|exact Below.refl _ _|assumption|(with_reducible refine aT ?_)|(with_reducible refine baa ?_ _)|(with_reducible refine bs ?_ (by first|exact Nat.le_refl _|omega|(simp;done)|(simp;omega)) _)|(with_reducible refine bt ?_ tQ))))
 )
def KH:=uM.1
def Ke:=uM.2
theorem yS:(∀(y v:Int)(lp:Bool)(w:World)(hT:Tab w 6 kevCells)(hL:Tab w 4 lenCells)(hlt:2<w.1.size)(hN:w.cell? ⟨2,7,none⟩=some (.string ⟨#[73,121,97,114]⟩))(HC:Hid (∀w:World,Tab w 6 kevCells->Tab w 4 lenCells->vB 87 #[y,.agg #[(8:Int),false]] w (.tuple #[v,(0:Int)])))(HL:Hid (∀w:World,vC 43 #[y] w (.tuple #[lp,(0:Int)]))),vB 69 #[y,.agg #[(8:Int),false]] w (.tuple #[.string ⟨#[73,121,97,114]⟩,(0:Int)]))/\(∀(y v:Int)(lp:Bool)(w:World)(hT:Tab w 6 kevCells)(hL:Tab w 4 lenCells)(hlt:2<w.1.size)(hN:w.cell? ⟨2,11,none⟩=some (.string ⟨#[69,108,117,108]⟩))(HC:Hid (∀w:World,Tab w 6 kevCells->Tab w 4 lenCells->vB 87 #[y,.agg #[(12:Int),false]] w (.tuple #[v,(0:Int)])))(HL:Hid (∀w:World,vC 43 #[y] w (.tuple #[lp,(0:Int)]))),vB 69 #[y,.agg #[(12:Int),false]] w (.tuple #[.string ⟨#[69,108,117,108]⟩,(0:Int)])):=by
 refine⟨@fun y v lp w hT hL hlt hN HC HL=>(fun(k90:Nat)=> ?_) 0,@fun y v lp w hT hL hlt hN HC HL=> ?_⟩
 all_goals(
 go_enter (vF Tryz.func69),Tryz.ntmps69
 go_wp2_with fail
 refine vX (HC.out _ (Tab.below hT bem) (Tab.below hL bem)) fun w1 hb1 hz1 hc1 hf1=>?_
 try simp at hz1
 have hs1x0:w.1.size<w1.1.size:=vO
 have hs1x1:2<w1.1.size:=vO
 first|(have _:=k90;have g1x0:w1.cell? ⟨w.1.size,0,none⟩=some (.int .i64 8):=cel hc1)|(have g1x0:w1.cell? ⟨w.1.size,0,none⟩=some (.int .i64 12):=cel hc1)
 have g1x1:w1.cell? ⟨w.1.size,1,none⟩=some (.bool false):=cel hc1
 first|(have _:=k90;have g1x2:w1.cell? ⟨2,7,none⟩=some (.string ⟨#[73,121,97,114]⟩):=cel hc1)|(have g1x2:w1.cell? ⟨2,11,none⟩=some (.string ⟨#[69,108,117,108]⟩):=cel hc1)
 go_wp2_with fail
 refine vW (HL.out _) ?_
 go_wp2_with fail
 all_goals go_ret2
 all_goals refine⟨rfl, ?_⟩
 all_goals repeat(first|exact Below.refl _ _|assumption|(with_reducible refine aT ?_)|(with_reducible refine baa ?_ _)|(with_reducible refine bs ?_ (by first|exact Nat.le_refl _|omega|(simp;done)|(simp;omega)) _)|(with_reducible refine bt ?_ tQ))
 )
def MX:=yS.1
def Ky:=yS.2
def dZ(y n:Int)(l:Bool):ByteArray:=if l then⟨#[65,100,97,114,32,73]⟩else if Cal.leap y&&decide (n=6)then⟨#[65,100,97,114,32,73,73]⟩else([⟨#[84,105,115,104,114,105]⟩,⟨#[72,101,115,104,118,97,110]⟩,⟨#[75,105,115,108,101,118]⟩,⟨#[84,101,118,101,116]⟩,⟨#[83,104,101,118,97,116]⟩,⟨#[65,100,97,114]⟩,⟨#[78,105,115,97,110]⟩,⟨#[73,121,97,114]⟩,⟨#[83,105,118,97,110]⟩,⟨#[84,97,109,109,117,122]⟩,⟨#[65,118]⟩,⟨#[69,108,117,108]⟩].getD (n-1).toNat ByteArray.empty)
theorem JM(y n:Int)(l:Bool)(w:World)(hy:I64 y)(hT:Tab w 6 kevCells)(hL:Tab w 4 lenCells)(hN:Tab w 2 nameCells):
  vB 69 #[y,.agg #[n,l]] w (.tuple #[.string (if D10.bO y n l=0 then dZ y n l else⟨#[]⟩),D10.bO y n l]):=by
 have HC:=Lib.hid (fun w hT hL=>kF y n l w hy hT hL)
 by_cases c:D10.bO y n l=0
 ·obtain⟨y1,y2,hp,_⟩:=D10.LV c
  rw [c]at HC
  rw [c,if_pos rfl]
  have HL:=Lib.hid (fun w=>aN y w vO vO)
  cases l
  ·have hr:1<=n/\n<=12:=by
    simp [Cal.dH,Cal.right]at hp;omega
   have hlt:=hN.lt
   have hn:n=1∨n=2∨n=3∨n=4∨n=5∨n=6∨n=7∨n=8∨n=9∨n=10∨n=11∨n=12:=vO
   rcases hn with rfl|rfl|rfl|rfl|rfl|rfl|rfl|rfl|rfl|rfl|rfl|rfl
   ·rw [show dZ y 1 false=⟨#[84,105,115,104,114,105]⟩ by simp [dZ]]
    exact Oz y _ _ w hT hL hlt (hN.cell 0) HC HL
   ·rw [show dZ y 2 false=⟨#[72,101,115,104,118,97,110]⟩ by simp [dZ]]
    exact NZ y _ _ w hT hL hlt (hN.cell 1) HC HL
   ·rw [show dZ y 3 false=⟨#[75,105,115,108,101,118]⟩ by simp [dZ]]
    exact OQ y _ _ w hT hL hlt (hN.cell 2) HC HL
   ·rw [show dZ y 4 false=⟨#[84,101,118,101,116]⟩ by simp [dZ]]
    exact NI y _ _ w hT hL hlt (hN.cell 3) HC HL
   ·rw [show dZ y 5 false=⟨#[83,104,101,118,97,116]⟩ by simp [dZ]]
    exact OP y _ _ w hT hL hlt (hN.cell 4) HC HL
   ·cases hl:Cal.leap y
    ·rw [show dZ y 6 false=⟨#[65,100,97,114]⟩ by simp [dZ,hl]]
     rw [hl]at HL
     exact Ni y _ false w hT hL hlt (hN.cell 5) HC HL rfl
    ·rw [show dZ y 6 false=⟨#[65,100,97,114,32,73,73]⟩ by simp [dZ,hl]]
     rw [hl]at HL
     exact KH y _ w hT hL HC HL
   ·rw [show dZ y 7 false=⟨#[78,105,115,97,110]⟩ by simp [dZ]]
    exact M5 y _ _ w hT hL hlt (hN.cell 6) HC HL
   ·rw [show dZ y 8 false=⟨#[73,121,97,114]⟩ by simp [dZ]]
    exact MX y _ _ w hT hL hlt (hN.cell 7) HC HL
   ·rw [show dZ y 9 false=⟨#[83,105,118,97,110]⟩ by simp [dZ]]
    exact OM y _ _ w hT hL hlt (hN.cell 8) HC HL
   ·rw [show dZ y 10 false=⟨#[84,97,109,109,117,122]⟩ by simp [dZ]]
    exact K6 y _ _ w hT hL hlt (hN.cell 9) HC HL
   ·rw [show dZ y 11 false=⟨#[65,118]⟩ by simp [dZ]]
    exact Ke y _ _ w hT hL hlt (hN.cell 10) HC HL
   ·rw [show dZ y 12 false=⟨#[69,108,117,108]⟩ by simp [dZ]]
    exact Ky y _ _ w hT hL hlt (hN.cell 11) HC HL
  ·exact MN y n _ w hT hL HC
 ·rw [if_neg c]
  exact GZ y n l _ _ w hT hL HC (by simpa using c)
end
section
open Go.ChangeShapes Go.WideShapes Go.ChangeAt Go.RowKit
theorem UQ(v:Int)(hv:I64 v)(w:World)(h:Lib.TabIs Tryo.prog w "internal/strconv.uint64pow10" .u64 Lib.pow10Tab):
  vB 70 #[v] w (.string ⟨(Lib.itoa v).toArray⟩):=by
 refine(Tryz.strconv_Itoa v hv.1 hv.2 w h).mono ?_
 rintro e w1 ⟨rfl,k,os,rfl⟩
 exact⟨rfl,Lib.below_grow _ _ (Nat.le_refl _) _ _⟩
theorem qH{w w':World}(h:Lib.TabIs Tryo.prog w "internal/strconv.uint64pow10" .u64 Lib.pow10Tab)(hb:Below w.1.size w w'):Lib.TabIs Tryo.prog w' "internal/strconv.uint64pow10" .u64 Lib.pow10Tab:=
 Joins.tab_stays (g:=10) vK h hb (Nat.le_refl _)
theorem JO(y n:Int)(l:Bool)(d er:Int)(w:World)(hT:Tab w 6 kevCells)(hL:Tab w 4 lenCells)(HC:Hid (∀w:World,Tab w 6 kevCells->Tab w 4 lenCells->vB 56 #[.agg #[y,n,l,d]] w (.int .i64 (er))))(h:(er !=0)=true):
  vB 35 #[.agg #[y,n,l,d]] w (.tuple #[.string ⟨#[]⟩,er]):=by
 go_enter (vF Tryz.func35),Tryz.ntmps35
 go_wp2_with fail
 refine vX (HC.out _ (Tab.below hT bem) (Tab.below hL bem)) fun w1 hb1 hz1 hc1 hf1=>?_
 try simp at hz1
 have hs1x0:w.1.size<w1.1.size:=vO
 have⟨g1x0,g1x1,g1x2,g1x3⟩:=ce4 hc1 (w.1.size) y n l d
 go_wp2_with fail
 go_ret2
 refine⟨rfl, ?_⟩
 exact bem
theorem KS(y n:Int)(l:Bool)(d:Int)(sn sd sy:ByteArray)(w:World)(hT:Tab w 6 kevCells)(hL:Tab w 4 lenCells)(hN:Tab w 2 nameCells)(hI:Lib.TabIs Tryo.prog w "internal/strconv.uint64pow10" .u64 Lib.pow10Tab)(HC:Hid (∀w:World,Tab w 6 kevCells->Tab w 4 lenCells->vB 56 #[.agg #[y,n,l,d]] w (.int .i64 (0))))(HM:Hid (∀w:World,Tab w 6 kevCells->Tab w 4 lenCells->Tab w 2 nameCells->vB 69 #[y,.agg #[n,l]] w (.tuple #[sn,(0:Int)])))(HD:Hid (∀w:World,Lib.TabIs Tryo.prog w "internal/strconv.uint64pow10" .u64 Lib.pow10Tab->vB 70 #[d] w (.string sd)))(HY:Hid (∀w:World,Lib.TabIs Tryo.prog w "internal/strconv.uint64pow10" .u64 Lib.pow10Tab->vB 70 #[y] w (.string sy)))(z1:sn.size<=100)(z2:sd.size<=100)(z3:sy.size<=100):
  vB 35 #[.agg #[y,n,l,d]] w (.tuple #[.string (sd++⟨#[32]⟩++sn++⟨#[32]⟩++sy),(0:Int)]):=by
 go_enter (vF Tryz.func35),Tryz.ntmps35
 go_wp2_with fail
 refine vX (HC.out _ (Tab.below hT bem) (Tab.below hL bem)) fun w1 hb1 hz1 hc1 hf1=>?_
 try simp at hz1
 have hs1x0:w.1.size<w1.1.size:=vO
 have⟨g1x0,g1x1,g1x2,g1x3⟩:=ce4 hc1 (w.1.size) y n l d
 go_wp2_with fail
 refine vX (HM.out _ (Tab.below hT bem) (Tab.below hL bem) (Tab.below hN bem)) fun w2 hb2 hz2 hc2 hf2=>?_
 try simp at hz2
 have hs2x0:w.1.size<w2.1.size:=vO
 have⟨g2x0,g2x1,g2x2,g2x3⟩:=ce4 hc2 (w.1.size) y n l d
 go_wp2_with fail
 have hW2:Below w.1.size w w2:=bel
 refine bP vK vK (fun hall=> ?_)
 repeat(first|go_big_quiet_skip|(go_big_quiet_want;first|(refine ql1 _ _ _ rfl rfl ?_;apply Exists.intro;refine⟨?_, ?_⟩;assumption;go_simp;go_big_quiet_on)|(refine ql2 _ _ _ _ rfl rfl ?_;apply Exists.intro;apply Exists.intro;refine⟨?_, ?_, ?_⟩;assumption;assumption;go_simp;go_big_quiet_on)|(refine ql3 _ _ _ _ rfl rfl ?_;apply Exists.intro;apply Exists.intro;apply Exists.intro;refine⟨?_, ?_, ?_, ?_⟩;assumption;assumption;assumption;go_simp;go_big_quiet_on)|(refine ql4 _ _ _ _ rfl rfl ?_;apply Exists.intro;apply Exists.intro;apply Exists.intro;apply Exists.intro;refine⟨?_, ?_, ?_, ?_, ?_⟩;assumption;assumption;assumption;assumption;go_simp;go_big_quiet_on)|(go_big_quiet_op;first|go_big_quiet_on|(apply Exists.intro;refine⟨fun x hx=> ?_, ?_⟩;(first|(with_reducible exact dn hx (HD.out x (qH hI (bt hW2 hx))))|(with_reducible exact dn hx (HY.out x (qH hI (bt hW2 hx))))|exact dn hx (HD.out x (qH hI (bt hW2 hx)))|exact dn hx (HY.out x (qH hI (bt hW2 hx))));go_big_quiet_on))))
 refine wpQuiet_nil ?_
 clear hall
 intro x3 hx3
 go_wp2_with fail
 go_ret2
 exact⟨rfl,bt hW2 hx3⟩
def aa4(y n:Int)(l:Bool)(d:Int):ByteArray:=⟨(Lib.itoa d).toArray⟩++⟨#[32]⟩++dZ y n l++⟨#[32]⟩++⟨(Lib.itoa y).toArray⟩
theorem TN(y n:Int)(l:Bool)(h:1<=n/\n<=12):(dZ y n l).size<=100:=by
 unfold dZ
 split
 ·decide
 ·split
  ·decide
  ·have hn:n=1∨n=2∨n=3∨n=4∨n=5∨n=6∨n=7∨n=8∨n=9∨n=10∨n=11∨n=12:=vO
   rcases hn with rfl|rfl|rfl|rfl|rfl|rfl|rfl|rfl|rfl|rfl|rfl|rfl <;> decide
theorem SQ(y n:Int)(l:Bool)(d:Int)(w:World)(hy:I64 y)(hd:I64 d)(hT:Tab w 6 kevCells)(hL:Tab w 4 lenCells)(hN:Tab w 2 nameCells)(hI:Lib.TabIs Tryo.prog w "internal/strconv.uint64pow10" .u64 Lib.pow10Tab):
  vB 35 #[.agg #[y,n,l,d]] w (.tuple #[.string (if D10.aK y n l d=0 then aa4 y n l d else⟨#[]⟩),D10.aK y n l d]):=by
 have HC:=Lib.hid (fun w hT hL=>je y n l d w hy hT hL)
 by_cases c:D10.aK y n l d=0
 ·rw [c]at HC
  rw [c,if_pos rfl]
  obtain⟨⟨y1,y2,_⟩,hp⟩:=D10.bq c
  have hL0:D10.bO y n l=0:=by
   unfold D10.bO
   rw [show Cal.dA y=true by simp [Cal.dA];omega,hp];rfl
  have HM:=Lib.hid (fun w hT hL hN=>JM y n l w hy hT hL hN)
  rw [hL0,if_pos rfl]at HM
  have hr:1<=n/\n<=12:=by
   simp [Cal.dH,Cal.right]at hp;omega
  exact KS y n l d _ _ _ w hT hL hN hI HC HM (Lib.hid (fun w h=>UQ d hd w h)) (Lib.hid (fun w h=>UQ y hy w h)) (TN y n l hr)
   (by have:=Lib.itoa_length_le d hd.1 hd.2;simp [ByteArray.size];omega) (by have:=Lib.itoa_length_le y hy.1 hy.2;simp [ByteArray.size];omega)
 ·rw [if_neg c]
  exact JO y n l d _ w hT hL HC (by simpa using c)
end
section
open Go.ChangeShapes Go.WideShapes Go.ChangeAt Go.RowKit
theorem maxAt_of{w:World}(h:w.ShapedOpen Tryz.prog):∃m,dG w m:=by
 obtain⟨m,hm⟩:=cell_of_shapedOpen_int (P:=Tryz.prog) (g:=5) (t:=3) (zero:= #[(0:Int)]) (k:= .i64) h (of_decide_eq_true vK) vK rfl vK vK Tryz.underlying3
 refine⟨m,hm, ?_⟩
 by_cases c:5<w.1.size
 ·exact c
 ·have e:w.1[5]? =none:=vQ
  simp [World.cell?,e]at hm
end
section
open Go.ChangeShapes Go.WideShapes Go.ChangeAt Go.RowKit
theorem MZ{P:Program}{w:World}(t kt et:TypeId)(b clock:Nat)(es:Array MapEntry)(s:ByteArray)(i:Nat)(v:Value)(ht:P.underlying t=some (.map kt et))(hk:P.underlying kt=some .string)
  (hb:w.1[b]? =some (.map es clock)) (hf:Instr.findNow .string (.string s) es.toList 0=some (some (i,v))):
  (Instr.lookup t (.map (some b)) (.string s) true).run P w= .ok (.tuple #[v,true]) w:=by
 have hc:∀e,(Instr.checkKey e 10000 kt (.string s)).run P w= .ok () w:=fun e=>MapKept.run_checkKey (k:= .string s) hk (by simp [MapKept.IsKey]) e 9999
 simp [Instr.lookup,run_underlying ht,MapKept.run_getObj_map hb,hc,MapKept.run_findKey hk hf,Result.andThen]
theorem NK{P:Program}{w:World}(t kt et:TypeId)(b clock:Nat)(es:Array MapEntry)(s:ByteArray)(z:Value)(ht:P.underlying t=some (.map kt et))(hk:P.underlying kt=some .string)
  (hz:(zeroValue et).run P w= .ok z w)
  (hb:w.1[b]? =some (.map es clock)) (hf:Instr.findNow .string (.string s) es.toList 0=some none):
  (Instr.lookup t (.map (some b)) (.string s) true).run P w= .ok (.tuple #[z,false]) w:=by
 have hc:∀e,(Instr.checkKey e 10000 kt (.string s)).run P w= .ok () w:=fun e=>MapKept.run_checkKey (k:= .string s) hk (by simp [MapKept.IsKey]) e 9999
 simp [Instr.lookup,run_underlying ht,MapKept.run_getObj_map hb,hc,MapKept.run_findKey hk hf,hz,Result.andThen]
theorem YD(s sep:ByteArray)(m:Int)(w:World)(hs:s.size<4294967281)(hm:dG w m):
  vB 37 #[s,sep] w (.tuple #[.string ⟨(Lib.cut s.data.toList sep.data.toList).1.toArray⟩,.string ⟨(Lib.cut s.data.toList sep.data.toList).2.1.toArray⟩,.bool (Lib.cut s.data.toList sep.data.toList).2.2]):=by
 refine(Tryz.strings_Cut s sep m w hs hm.1).mono ?_
 rintro e w1 ⟨he,n,rfl⟩
 exact⟨he,Joins.below_draws _ _ _⟩
theorem last_at(s:ByteArray)(w:World)(hs:s.size<=1000000):
  vC 66 #[s,.string ⟨#[32]⟩] w (.int .i64 (Go.Lib.lastIndexByte s 32)):=
 (Tryz.strings_LastIndex_one s ⟨#[32]⟩ rfl vO w).mono fun _ _ h=>⟨h.1,h.2.symm⟩
end
section
open Go.ChangeShapes Go.WideShapes Go.ChangeAt Go.RowKit
theorem FL(s fs rs:ByteArray)(fd:Bool)(m:Int)(w:World)(hT:Tab w 6 kevCells)(hL:Tab w 4 lenCells)(hN:Tab w 2 nameCells)(hm:dG w m)
  (HU:Hid (∀w:World,dG w m->vB 37 #[s,.string ⟨#[32]⟩] w (.tuple #[fs,rs,fd])))
  (HX:Hid (∀w:World,vC 66 #[rs,.string ⟨#[32]⟩] w (.int .i64 (-1))))
  :vB 34 #[s] w (.tuple #[.agg #[(0:Int),(0:Int),false,(0:Int)],(5:Int)]):=by
 go_enter (vF Tryz.func34),Tryz.ntmps34
 go_wp2_with fail
 have hmA:=dG.below hm (ba w (.cells #[(0:Int),(0:Int),false,(0:Int)] 33))
 refine vX (HU.out _ hmA) fun w1 hb1 hz1 hc1 hf1=>?_
 try simp at hz1
 have hs1x0:w.1.size<w1.1.size:=vO
 have⟨g1x0,g1x1,g1x2,g1x3⟩:=ce4 hc1 (w.1.size) (0) (0) (false) (0)
 have z1x0:w1.frozen? ⟨w.1.size,0,none⟩=false:=fro hf1
 have z1x1:w1.frozen? ⟨w.1.size,1,none⟩=false:=fro hf1
 have z1x2:w1.frozen? ⟨w.1.size,2,none⟩=false:=fro hf1
 have z1x3:w1.frozen? ⟨w.1.size,3,none⟩=false:=fro hf1
 clear hc1 hf1
 go_wp2_with fail
 refine vW (HX.out _) ?_
 go_wp2_with fail
 refine bodyPost_ret (v:= .tuple #[.agg #[(0:Int),(0:Int),false,(0:Int)],(5:Int)]) (by simp [results,Tryz.results34,go_sem, *]) rfl ⟨rfl, ?_⟩
 exact bel
theorem oI:(∀(s fs rs:ByteArray)(fd:Bool)(k:Nat)(dd yy n:Int)(l:Bool)(o2 o3:Bool)(m:Int)(w:World)(hT:Tab w 6 kevCells)(hL:Tab w 4 lenCells)(hN:Tab w 2 nameCells)(hm:dG w m)
  (HU:Hid (∀w:World,dG w m->vB 37 #[s,.string ⟨#[32]⟩] w (.tuple #[fs,rs,fd])))
  (HX:Hid (∀w:World,vC 66 #[rs,.string ⟨#[32]⟩] w (.int .i64 (k:Int))))
  (k0:(0:Int)<=(k:Int)) (k1:(k:Int)<(rs.size:Int)) (k2:(k:Int)+1<=(rs.size:Int)) (hrs:rs.size<=1000000)
  (HD:Hid (∀w:World,vC 67 #[fs,(2:Int)] w (.tuple #[dd,false])))
  (HK:Hid (∀w:World,Tab w 2 nameCells->Calls Tryo.prog 68 #[] w fun e w'=>e= .returned (.map (some w.1.size))/\w'.1[w.1.size]? =some (.map (aO 12) 14)/\Below w.1.size w w'))
  (HL2:Hid (∀ (b:Nat) (w:World),w.1[b]? =some (.map (aO 12) 14)->(Instr.lookup 113 (.map (some b)) (.string (rs.extract 0 k)) true).run Tryo.prog w= .ok (.tuple #[.agg #[n,l],o2]) w))
  (HY:Hid (∀w:World,vC 67 #[rs.extract (k+1) rs.size,(4:Int)] w (.tuple #[yy,o3]))),vB 34 #[s] w (.tuple #[.agg #[(0:Int),(0:Int),false,(0:Int)],(5:Int)]))/\(∀(s fs rs:ByteArray)(fd:Bool)(k:Nat)(dd yy n:Int)(l:Bool)(o3:Bool)(m:Int)(w:World)(hT:Tab w 6 kevCells)(hL:Tab w 4 lenCells)(hN:Tab w 2 nameCells)(hm:dG w m)
  (HU:Hid (∀w:World,dG w m->vB 37 #[s,.string ⟨#[32]⟩] w (.tuple #[fs,rs,fd])))
  (HX:Hid (∀w:World,vC 66 #[rs,.string ⟨#[32]⟩] w (.int .i64 (k:Int))))
  (k0:(0:Int)<=(k:Int)) (k1:(k:Int)<(rs.size:Int)) (k2:(k:Int)+1<=(rs.size:Int)) (hrs:rs.size<=1000000)
  (HD:Hid (∀w:World,vC 67 #[fs,(2:Int)] w (.tuple #[dd,true])))
  (HK:Hid (∀w:World,Tab w 2 nameCells->Calls Tryo.prog 68 #[] w fun e w'=>e= .returned (.map (some w.1.size))/\w'.1[w.1.size]? =some (.map (aO 12) 14)/\Below w.1.size w w'))
  (HL2:Hid (∀ (b:Nat) (w:World),w.1[b]? =some (.map (aO 12) 14)->(Instr.lookup 113 (.map (some b)) (.string (rs.extract 0 k)) true).run Tryo.prog w= .ok (.tuple #[.agg #[n,l],false]) w))
  (HY:Hid (∀w:World,vC 67 #[rs.extract (k+1) rs.size,(4:Int)] w (.tuple #[yy,o3]))),vB 34 #[s] w (.tuple #[.agg #[(0:Int),(0:Int),false,(0:Int)],(5:Int)]))/\(∀(s fs rs:ByteArray)(fd:Bool)(k:Nat)(dd yy n:Int)(l:Bool)(m:Int)(w:World)(hT:Tab w 6 kevCells)(hL:Tab w 4 lenCells)(hN:Tab w 2 nameCells)(hm:dG w m)
  (HU:Hid (∀w:World,dG w m->vB 37 #[s,.string ⟨#[32]⟩] w (.tuple #[fs,rs,fd])))
  (HX:Hid (∀w:World,vC 66 #[rs,.string ⟨#[32]⟩] w (.int .i64 (k:Int))))
  (k0:(0:Int)<=(k:Int)) (k1:(k:Int)<(rs.size:Int)) (k2:(k:Int)+1<=(rs.size:Int)) (hrs:rs.size<=1000000)
  (HD:Hid (∀w:World,vC 67 #[fs,(2:Int)] w (.tuple #[dd,true])))
  (HK:Hid (∀w:World,Tab w 2 nameCells->Calls Tryo.prog 68 #[] w fun e w'=>e= .returned (.map (some w.1.size))/\w'.1[w.1.size]? =some (.map (aO 12) 14)/\Below w.1.size w w'))
  (HL2:Hid (∀ (b:Nat) (w:World),w.1[b]? =some (.map (aO 12) 14)->(Instr.lookup 113 (.map (some b)) (.string (rs.extract 0 k)) true).run Tryo.prog w= .ok (.tuple #[.agg #[n,l],true]) w))
  (HY:Hid (∀w:World,vC 67 #[rs.extract (k+1) rs.size,(4:Int)] w (.tuple #[yy,false]))),vB 34 #[s] w (.tuple #[.agg #[(0:Int),(0:Int),false,(0:Int)],(5:Int)])):=by
 refine⟨@fun s fs rs fd k dd yy n l o2 o3 m w hT hL hN hm HU HX k0 k1 k2 hrs HD HK HL2 HY=> ?_,@fun s fs rs fd k dd yy n l o3 m w hT hL hN hm HU HX k0 k1 k2 hrs HD HK HL2 HY=> ?_,@fun s fs rs fd k dd yy n l m w hT hL hN hm HU HX k0 k1 k2 hrs HD HK HL2 HY=> ?_⟩
 all_goals(
 go_enter (vF Tryz.func34),Tryz.ntmps34
 go_wp2_with fail
 have hmA:=dG.below hm (ba w (.cells #[(0:Int),(0:Int),false,(0:Int)] 33))
 refine vX (HU.out _ hmA) fun w1 hb1 hz1 hc1 hf1=>?_
 try simp at hz1
 have hs1x0:w.1.size<w1.1.size:=vO
 have⟨g1x0,g1x1,g1x2,g1x3⟩:=ce4 hc1 (w.1.size) (0) (0) (false) (0)
 have z1x0:w1.frozen? ⟨w.1.size,0,none⟩=false:=fro hf1
 have z1x1:w1.frozen? ⟨w.1.size,1,none⟩=false:=fro hf1
 have z1x2:w1.frozen? ⟨w.1.size,2,none⟩=false:=fro hf1
 have z1x3:w1.frozen? ⟨w.1.size,3,none⟩=false:=fro hf1
 clear hc1 hf1
 go_wp2_with fail
 refine vW (HX.out _) ?_
 go_wp2_with fail
 go_region
 all_goals go_wp2_with fail
 all_goals(refine(HD.out _).mono ?_;rintro e w' ⟨rfl,rfl⟩)
 all_goals go_wp2_with fail
 all_goals(
  refine(HK.out _ (Tab.below hN bel)).mono ?_
  rintro e w2 ⟨rfl,hmp,hb2⟩
  obtain⟨hc2,hf2⟩:=aL hb2
  have hz2:=hb2.size
  try simp at hz2
  have hs2x0:w.1.size<w2.1.size:=vO
  have⟨g2x0,g2x1,g2x2,g2x3⟩:=ce4 hc2 (w.1.size) (0) (0) (false) (0)
  have z2x0:w2.frozen? ⟨w.1.size,0,none⟩=false:=fro hf2
  have z2x1:w2.frozen? ⟨w.1.size,1,none⟩=false:=fro hf2
  have z2x2:w2.frozen? ⟨w.1.size,2,none⟩=false:=fro hf2
  have z2x3:w2.frozen? ⟨w.1.size,3,none⟩=false:=fro hf2
  clear hc2 hf2
  have hlk:=HL2.out w1.1.size w2 hmp
  have hq2:w1.1.size<w2.1.size:=by
   rcases Nat.lt_or_ge w1.1.size w2.1.size with c|c
   ·exact c
   ·have:w2.1[w1.1.size]? =none:=Array.getElem?_eq_none (by simpa using c)
    simp_all
  go_wp2_with fail
  clear hlk hmp hq2
 )
 all_goals(
  refine vW (HY.out _) ?_
  go_wp2_with fail
 )
 all_goals(
  refine bodyPost_ret (v:= .tuple #[.agg #[(0:Int),(0:Int),false,(0:Int)],(5:Int)]) (by simp [results,Tryz.results34,go_sem, *]) rfl ⟨rfl, ?_⟩
  exact bel
 )
 )
def NS:=@oI.1
def M7:=@oI.2.1
def Oj:=@oI.2.2
theorem SI(s fs rs:ByteArray)(fd:Bool)(k:Nat)(dd yy n:Int)(l:Bool)(er:Int)(m:Int)(w:World)(hT:Tab w 6 kevCells)(hL:Tab w 4 lenCells)(hN:Tab w 2 nameCells)(hm:dG w m)
  (HU:Hid (∀w:World,dG w m->vB 37 #[s,.string ⟨#[32]⟩] w (.tuple #[fs,rs,fd])))
  (HX:Hid (∀w:World,vC 66 #[rs,.string ⟨#[32]⟩] w (.int .i64 (k:Int))))
  (k0:(0:Int)<=(k:Int)) (k1:(k:Int)<(rs.size:Int)) (k2:(k:Int)+1<=(rs.size:Int)) (hrs:rs.size<=1000000)
  (HD:Hid (∀w:World,vC 67 #[fs,(2:Int)] w (.tuple #[dd,true])))
  (HK:Hid (∀w:World,Tab w 2 nameCells->Calls Tryo.prog 68 #[] w fun e w'=>e= .returned (.map (some w.1.size))/\w'.1[w.1.size]? =some (.map (aO 12) 14)/\Below w.1.size w w'))
  (HL2:Hid (∀ (b:Nat) (w:World),w.1[b]? =some (.map (aO 12) 14)->(Instr.lookup 113 (.map (some b)) (.string (rs.extract 0 k)) true).run Tryo.prog w= .ok (.tuple #[.agg #[n,l],true]) w))
  (HY:Hid (∀w:World,vC 67 #[rs.extract (k+1) rs.size,(4:Int)] w (.tuple #[yy,true])))
  (HC:Hid (∀w:World,Tab w 6 kevCells->Tab w 4 lenCells->vB 56 #[.agg #[yy,n,l,dd]] w (.int .i64 (er))))
  (h0:(er !=0)=true)
  :vB 34 #[s] w (.tuple #[.agg #[(0:Int),(0:Int),false,(0:Int)],(2:Int)]):=by
 go_enter (vF Tryz.func34),Tryz.ntmps34
 go_wp2_with fail
 have hmA:=dG.below hm (ba w (.cells #[(0:Int),(0:Int),false,(0:Int)] 33))
 refine vX (HU.out _ hmA) fun w1 hb1 hz1 hc1 hf1=>?_
 try simp at hz1
 have hs1x0:w.1.size<w1.1.size:=vO
 have⟨g1x0,g1x1,g1x2,g1x3⟩:=ce4 hc1 (w.1.size) (0) (0) (false) (0)
 have z1x0:w1.frozen? ⟨w.1.size,0,none⟩=false:=fro hf1
 have z1x1:w1.frozen? ⟨w.1.size,1,none⟩=false:=fro hf1
 have z1x2:w1.frozen? ⟨w.1.size,2,none⟩=false:=fro hf1
 have z1x3:w1.frozen? ⟨w.1.size,3,none⟩=false:=fro hf1
 clear hc1 hf1
 go_wp2_with fail
 refine vW (HX.out _) ?_
 go_wp2_with fail
 go_region
 all_goals go_wp2_with fail
 all_goals(refine(HD.out _).mono ?_;rintro e w' ⟨rfl,rfl⟩)
 all_goals go_wp2_with fail
 all_goals(
  refine(HK.out _ (Tab.below hN bel)).mono ?_
  rintro e w2 ⟨rfl,hmp,hb2⟩
  obtain⟨hc2,hf2⟩:=aL hb2
  have hz2:=hb2.size
  try simp at hz2
  have hs2x0:w.1.size<w2.1.size:=vO
  have⟨g2x0,g2x1,g2x2,g2x3⟩:=ce4 hc2 (w.1.size) (0) (0) (false) (0)
  have z2x0:w2.frozen? ⟨w.1.size,0,none⟩=false:=fro hf2
  have z2x1:w2.frozen? ⟨w.1.size,1,none⟩=false:=fro hf2
  have z2x2:w2.frozen? ⟨w.1.size,2,none⟩=false:=fro hf2
  have z2x3:w2.frozen? ⟨w.1.size,3,none⟩=false:=fro hf2
  clear hc2 hf2
  have hlk:=HL2.out w1.1.size w2 hmp
  have hq2:w1.1.size<w2.1.size:=by
   rcases Nat.lt_or_ge w1.1.size w2.1.size with c|c
   ·exact c
   ·have:w2.1[w1.1.size]? =none:=Array.getElem?_eq_none (by simpa using c)
    simp_all
  go_wp2_with fail
  clear hlk hmp hq2
 )
 all_goals(
  refine vW (HY.out _) ?_
  go_wp2_with fail
 )
 all_goals(
  have hq5:w.1.size<w2.1.size+1+1:=vO
  refine vX (HC.out _ (Tab.below hT bel) (Tab.below hL bel)) fun w3 hb3 hz3 hc3 hf3=>?_
  try simp at hz3
  have hs3x0:w.1.size<w3.1.size:=vO
  have hs3x1:w2.1.size<w3.1.size:=vO
  have hs3x2:(w2.1.size+1)<w3.1.size:=vO
  have⟨g3x0,g3x1,g3x2,g3x3⟩:=ce4 hc3 (w.1.size) (0) (0) (false) (0)
  have g3x4:w3.cell? ⟨w2.1.size,0,none⟩=some (n:vV):=cel hc3
  have g3x5:w3.cell? ⟨w2.1.size,1,none⟩=some (.bool (l)):=cel hc3
  have⟨g3x6,g3x7,g3x8,g3x9⟩:=ce4 hc3 (w2.1.size+1) (yy) (n) (l) (dd)
  have z3x0:w3.frozen? ⟨w.1.size,0,none⟩=false:=fro hf3
  have z3x1:w3.frozen? ⟨w.1.size,1,none⟩=false:=fro hf3
  have z3x2:w3.frozen? ⟨w.1.size,2,none⟩=false:=fro hf3
  have z3x3:w3.frozen? ⟨w.1.size,3,none⟩=false:=fro hf3
  clear hc3 hf3
  go_wp2_with fail
 )
 all_goals(
  refine bodyPost_ret (v:= .tuple #[.agg #[(0:Int),(0:Int),false,(0:Int)],(2:Int)]) (by simp [results,Tryz.results34,go_sem, *]) rfl ⟨rfl, ?_⟩
  exact bel
 )
theorem qy:(∀(s fs rs:ByteArray)(fd:Bool)(k:Nat)(dd yy n:Int)(l:Bool)(sn:ByteArray)(me:Int)(m:Int)(w:World)(hT:Tab w 6 kevCells)(hL:Tab w 4 lenCells)(hN:Tab w 2 nameCells)(hm:dG w m)
  (HU:Hid (∀w:World,dG w m->vB 37 #[s,.string ⟨#[32]⟩] w (.tuple #[fs,rs,fd])))
  (HX:Hid (∀w:World,vC 66 #[rs,.string ⟨#[32]⟩] w (.int .i64 (k:Int))))
  (k0:(0:Int)<=(k:Int)) (k1:(k:Int)<(rs.size:Int)) (k2:(k:Int)+1<=(rs.size:Int)) (hrs:rs.size<=1000000)
  (HD:Hid (∀w:World,vC 67 #[fs,(2:Int)] w (.tuple #[dd,true])))
  (HK:Hid (∀w:World,Tab w 2 nameCells->Calls Tryo.prog 68 #[] w fun e w'=>e= .returned (.map (some w.1.size))/\w'.1[w.1.size]? =some (.map (aO 12) 14)/\Below w.1.size w w'))
  (HL2:Hid (∀ (b:Nat) (w:World),w.1[b]? =some (.map (aO 12) 14)->(Instr.lookup 113 (.map (some b)) (.string (rs.extract 0 k)) true).run Tryo.prog w= .ok (.tuple #[.agg #[n,l],true]) w))
  (HY:Hid (∀w:World,vC 67 #[rs.extract (k+1) rs.size,(4:Int)] w (.tuple #[yy,true])))
  (HC:Hid (∀w:World,Tab w 6 kevCells->Tab w 4 lenCells->vB 56 #[.agg #[yy,n,l,dd]] w (.int .i64 (0))))
  (HM:Hid (∀w:World,Tab w 6 kevCells->Tab w 4 lenCells->Tab w 2 nameCells->vB 69 #[yy,.agg #[n,l]] w (.tuple #[sn,me])))
  (b1:(sn.toList==(rs.extract 0 k).toList)=false)
  (a1:((rs.extract 0 k).toList==(⟨#[65,100,97,114]⟩:ByteArray).toList)=false) (a2:((rs.extract 0 k).toList== [65,100,97,114])=false),vB 34 #[s] w (.tuple #[.agg #[(0:Int),(0:Int),false,(0:Int)],(2:Int)]))/\(∀(s fs rs:ByteArray)(fd:Bool)(k:Nat)(dd yy n:Int)(l:Bool)(me:Int)(m:Int)(w:World)(hT:Tab w 6 kevCells)(hL:Tab w 4 lenCells)(hN:Tab w 2 nameCells)(hm:dG w m)
  (HU:Hid (∀w:World,dG w m->vB 37 #[s,.string ⟨#[32]⟩] w (.tuple #[fs,rs,fd])))
  (HX:Hid (∀w:World,vC 66 #[rs,.string ⟨#[32]⟩] w (.int .i64 (k:Int))))
  (k0:(0:Int)<=(k:Int)) (k1:(k:Int)<(rs.size:Int)) (k2:(k:Int)+1<=(rs.size:Int)) (hrs:rs.size<=1000000)
  (HD:Hid (∀w:World,vC 67 #[fs,(2:Int)] w (.tuple #[dd,true])))
  (HK:Hid (∀w:World,Tab w 2 nameCells->Calls Tryo.prog 68 #[] w fun e w'=>e= .returned (.map (some w.1.size))/\w'.1[w.1.size]? =some (.map (aO 12) 14)/\Below w.1.size w w'))
  (HL2:Hid (∀ (b:Nat) (w:World),w.1[b]? =some (.map (aO 12) 14)->(Instr.lookup 113 (.map (some b)) (.string (rs.extract 0 k)) true).run Tryo.prog w= .ok (.tuple #[.agg #[n,l],true]) w))
  (HY:Hid (∀w:World,vC 67 #[rs.extract (k+1) rs.size,(4:Int)] w (.tuple #[yy,true])))
  (HC:Hid (∀w:World,Tab w 6 kevCells->Tab w 4 lenCells->vB 56 #[.agg #[yy,n,l,dd]] w (.int .i64 (0))))
  (HM:Hid (∀w:World,Tab w 6 kevCells->Tab w 4 lenCells->Tab w 2 nameCells->vB 69 #[yy,.agg #[n,l]] w (.tuple #[rs.extract 0 k,me]))),vB 34 #[s] w (.tuple #[.agg #[yy,n,l,dd],(0:Int)]))/\(∀(s fs rs:ByteArray)(fd:Bool)(k:Nat)(dd yy n:Int)(l:Bool)(sn:ByteArray)(me:Int)(m:Int)(w:World)(hT:Tab w 6 kevCells)(hL:Tab w 4 lenCells)(hN:Tab w 2 nameCells)(hm:dG w m)
  (HU:Hid (∀w:World,dG w m->vB 37 #[s,.string ⟨#[32]⟩] w (.tuple #[fs,rs,fd])))
  (HX:Hid (∀w:World,vC 66 #[rs,.string ⟨#[32]⟩] w (.int .i64 (k:Int))))
  (k0:(0:Int)<=(k:Int)) (k1:(k:Int)<(rs.size:Int)) (k2:(k:Int)+1<=(rs.size:Int)) (hrs:rs.size<=1000000)
  (HD:Hid (∀w:World,vC 67 #[fs,(2:Int)] w (.tuple #[dd,true])))
  (HK:Hid (∀w:World,Tab w 2 nameCells->Calls Tryo.prog 68 #[] w fun e w'=>e= .returned (.map (some w.1.size))/\w'.1[w.1.size]? =some (.map (aO 12) 14)/\Below w.1.size w w'))
  (HL2:Hid (∀ (b:Nat) (w:World),w.1[b]? =some (.map (aO 12) 14)->(Instr.lookup 113 (.map (some b)) (.string (rs.extract 0 k)) true).run Tryo.prog w= .ok (.tuple #[.agg #[n,l],true]) w))
  (HY:Hid (∀w:World,vC 67 #[rs.extract (k+1) rs.size,(4:Int)] w (.tuple #[yy,true])))
  (HC:Hid (∀w:World,Tab w 6 kevCells->Tab w 4 lenCells->vB 56 #[.agg #[yy,n,l,dd]] w (.int .i64 (0))))
  (HM:Hid (∀w:World,Tab w 6 kevCells->Tab w 4 lenCells->Tab w 2 nameCells->vB 69 #[yy,.agg #[n,l]] w (.tuple #[sn,me])))
  (b1:(sn.toList==(rs.extract 0 k).toList)=false)
  (a1:((rs.extract 0 k).toList==(⟨#[65,100,97,114]⟩:ByteArray).toList)=true) (a2:((rs.extract 0 k).toList== [65,100,97,114])=true),vB 34 #[s] w (.tuple #[.agg #[yy,n,l,dd],(0:Int)])):=by
 refine⟨@fun s fs rs fd k dd yy n l sn me m w hT hL hN hm HU HX k0 k1 k2 hrs HD HK HL2 HY HC HM b1 a1 a2=>(fun(k90:Nat)=> ?_) 0,@fun s fs rs fd k dd yy n l me m w hT hL hN hm HU HX k0 k1 k2 hrs HD HK HL2 HY HC HM=> ?_,@fun s fs rs fd k dd yy n l sn me m w hT hL hN hm HU HX k0 k1 k2 hrs HD HK HL2 HY HC HM b1 a1 a2=> ?_⟩
 all_goals(
 go_enter (vF Tryz.func34),Tryz.ntmps34
 go_wp2_with fail
 have hmA:=dG.below hm (ba w (.cells #[(0:Int),(0:Int),false,(0:Int)] 33))
 refine vX (HU.out _ hmA) fun w1 hb1 hz1 hc1 hf1=>?_
 try simp at hz1
 have hs1x0:w.1.size<w1.1.size:=vO
 have⟨g1x0,g1x1,g1x2,g1x3⟩:=ce4 hc1 (w.1.size) (0) (0) (false) (0)
 have z1x0:w1.frozen? ⟨w.1.size,0,none⟩=false:=fro hf1
 have z1x1:w1.frozen? ⟨w.1.size,1,none⟩=false:=fro hf1
 have z1x2:w1.frozen? ⟨w.1.size,2,none⟩=false:=fro hf1
 have z1x3:w1.frozen? ⟨w.1.size,3,none⟩=false:=fro hf1
 clear hc1 hf1
 go_wp2_with fail
 refine vW (HX.out _) ?_
 go_wp2_with fail
 go_region
 all_goals go_wp2_with fail
 all_goals(refine(HD.out _).mono ?_;rintro e w' ⟨rfl,rfl⟩)
 all_goals go_wp2_with fail
 all_goals(
  refine(HK.out _ (Tab.below hN bel)).mono ?_
  rintro e w2 ⟨rfl,hmp,hb2⟩
  obtain⟨hc2,hf2⟩:=aL hb2
  have hz2:=hb2.size
  try simp at hz2
  have hs2x0:w.1.size<w2.1.size:=vO
  have⟨g2x0,g2x1,g2x2,g2x3⟩:=ce4 hc2 (w.1.size) (0) (0) (false) (0)
  have z2x0:w2.frozen? ⟨w.1.size,0,none⟩=false:=fro hf2
  have z2x1:w2.frozen? ⟨w.1.size,1,none⟩=false:=fro hf2
  have z2x2:w2.frozen? ⟨w.1.size,2,none⟩=false:=fro hf2
  have z2x3:w2.frozen? ⟨w.1.size,3,none⟩=false:=fro hf2
  clear hc2 hf2
  have hlk:=HL2.out w1.1.size w2 hmp
  have hq2:w1.1.size<w2.1.size:=by
   rcases Nat.lt_or_ge w1.1.size w2.1.size with c|c
   ·exact c
   ·have:w2.1[w1.1.size]? =none:=Array.getElem?_eq_none (by simpa using c)
    simp_all
  go_wp2_with fail
  clear hlk hmp hq2
 )
 all_goals(
  refine vW (HY.out _) ?_
  go_wp2_with fail
 )
 all_goals(
  have hq5:w.1.size<w2.1.size+1+1:=vO
  refine vX (HC.out _ (Tab.below hT bel) (Tab.below hL bel)) fun w3 hb3 hz3 hc3 hf3=>?_
  try simp at hz3
  have hs3x0:w.1.size<w3.1.size:=vO
  have hs3x1:w2.1.size<w3.1.size:=vO
  have hs3x2:(w2.1.size+1)<w3.1.size:=vO
  have⟨g3x0,g3x1,g3x2,g3x3⟩:=ce4 hc3 (w.1.size) (0) (0) (false) (0)
  have g3x4:w3.cell? ⟨w2.1.size,0,none⟩=some (n:vV):=cel hc3
  have g3x5:w3.cell? ⟨w2.1.size,1,none⟩=some (.bool (l)):=cel hc3
  have⟨g3x6,g3x7,g3x8,g3x9⟩:=ce4 hc3 (w2.1.size+1) (yy) (n) (l) (dd)
  have z3x0:w3.frozen? ⟨w.1.size,0,none⟩=false:=fro hf3
  have z3x1:w3.frozen? ⟨w.1.size,1,none⟩=false:=fro hf3
  have z3x2:w3.frozen? ⟨w.1.size,2,none⟩=false:=fro hf3
  have z3x3:w3.frozen? ⟨w.1.size,3,none⟩=false:=fro hf3
  clear hc3 hf3
  go_wp2_with fail
 )
 all_goals(
  refine vX (HM.out _ (Tab.below hT bel) (Tab.below hL bel) (Tab.below hN bel)) fun w4 hb4 hz4 hc4 hf4=>?_
  try simp at hz4
  have hs4x0:w.1.size<w4.1.size:=vO
  have hs4x1:w2.1.size<w4.1.size:=vO
  have hs4x2:(w2.1.size+1)<w4.1.size:=vO
  have⟨g4x0,g4x1,g4x2,g4x3⟩:=ce4 hc4 (w.1.size) (0) (0) (false) (0)
  have g4x4:w4.cell? ⟨w2.1.size,0,none⟩=some (n:vV):=cel hc4
  have g4x5:w4.cell? ⟨w2.1.size,1,none⟩=some (.bool (l)):=cel hc4
  have⟨g4x6,g4x7,g4x8,g4x9⟩:=ce4 hc4 (w2.1.size+1) (yy) (n) (l) (dd)
  have z4x0:w4.frozen? ⟨w.1.size,0,none⟩=false:=fro hf4
  have z4x1:w4.frozen? ⟨w.1.size,1,none⟩=false:=fro hf4
  have z4x2:w4.frozen? ⟨w.1.size,2,none⟩=false:=fro hf4
  have z4x3:w4.frozen? ⟨w.1.size,3,none⟩=false:=fro hf4
  clear hc4 hf4
  go_wp2_with fail
 )
 all_goals(
  first|(have _:=k90;refine bodyPost_ret (v:= .tuple #[.agg #[(0:Int),(0:Int),false,(0:Int)],(2:Int)]) (by simp [results,Tryz.results34,go_sem, *]) rfl ⟨rfl, ?_⟩)|(refine bodyPost_ret (v:= .tuple #[.agg #[yy,n,l,dd],(0:Int)]) (by simp [results,Tryz.results34,go_sem, *]) rfl ⟨rfl, ?_⟩)
  exact bel
 )
 )
def Qe:=@qy.1
def Oh:=@qy.2.1
def Ov:=@qy.2.2
end
section
open Go.ChangeShapes Go.WideShapes Go.ChangeAt Go.RowKit
namespace D14
theorem Py:∀ (a r:List UInt8),(∀x∈a,¬ x=32)->Go.Lib.index (a++32 :: r) [32]=(a.length:Int)
 | [],r,_=>by simpa using Rep.Bv 32 r
 |x :: a,r,h=>by
  have ih:=Py a r (fun y hy=>h y (List.mem_cons_of_mem _ hy))
  rw [List.cons_append,Rep.pz _ _ _ (h x List.mem_cons_self),ih,if_neg vS,List.length_cons]
  omega
theorem index_none:∀ (a:List UInt8),(∀x∈a,¬ x=32)->Go.Lib.index a [32]= -1
 | [],_=>Rep.DL _
 |x :: a,h=>by
  have ih:=index_none a (fun y hy=>h y (List.mem_cons_of_mem _ hy))
  rw [Rep.pz _ _ _ (h x List.mem_cons_self),ih];rfl
theorem Jv(a r:List UInt8)(h:∀x∈a,¬ x=32):Go.Lib.cut (a++32 :: r) [32]=(a,r,true):=by
 unfold Go.Lib.cut
 rw [Py a r h,if_pos vO]
 simp
theorem Yi(a:List UInt8)(h:∀x∈a,¬ x=32):Go.Lib.cut a [32]=(a,[],false):=by
 unfold Go.Lib.cut
 rw [index_none a h,if_neg vO]
theorem Fp:∀l:List UInt8,(∃a r,l=a++32 :: r/\∀x∈a,¬ x=32)∨(∀x∈l,¬ x=32)
 | []=> .inr vS
 | x :: l=>by
  by_cases c:x=32
  ·exact .inl ⟨[],l,by rw [c];rfl,vS⟩
  ·rcases Fp l with ⟨a,r,rfl,h⟩|h
   ·exact .inl ⟨x :: a,r,rfl,by simpa [c]using h⟩
   ·exact .inr (by simpa [c]using h)
theorem J3:∀l:List UInt8,(∃b c,l=b++32 :: c/\∀x∈c,¬ x=32)∨(∀x∈l,¬ x=32)
 | []=> .inr vS
 | x :: l=>by
  rcases J3 l with ⟨b,c,rfl,h⟩|h
  ·exact .inl ⟨x :: b,c,rfl,h⟩
  ·by_cases e:x=32
   ·exact .inl ⟨[],l,by rw [e];rfl,h⟩
   ·exact .inr (by simpa [e]using h)
theorem get_at(l:List UInt8)(i:Nat)(h:i<l.length):(⟨l.toArray⟩:ByteArray).data[i]! =l[i]:=by
 show l.toArray[i]! =l[i]
 simp [h]
theorem DV(b c:List UInt8)(h:∀x∈c,¬ x=32):Go.Lib.lastIndexByte ⟨(b++32 :: c).toArray⟩ 32=(b.length:Int):=by
 have hsz:(⟨(b++32 :: c).toArray⟩:ByteArray).size=b.length+1+c.length:=by simp [ByteArray.size];omega
 have hat:(b++32 :: c)[b.length]' vS=32:=vS
 rcases Go.Lib.lastIndexByte_spec ⟨(b++32 :: c).toArray⟩ 32 with ⟨_,e⟩|⟨i,hi,e,e1,e2⟩
 ·have:=e b.length (by rw [hsz];omega)
  rw [get_at _ _ vS,hat]at this
  exact absurd rfl this
 ·rw [e]
  rw [hsz]at hi e2
  rcases Nat.lt_trichotomy i b.length with g|g|g
  ·have:=e2 b.length g vO
   rw [get_at _ _ vS,hat]at this
   exact absurd rfl this
  ·rw [g]
  ·rw [get_at _ _ vQ]at e1
   have hx:(b++32 :: c)[i]' vQ∈c:=by
    rw [List.getElem_append_right vO]
    obtain⟨j,hj⟩:∃j,i-b.length=j+1:=⟨i-b.length-1,vO⟩
    simp only [hj,List.getElem_cons_succ]
    exact List.getElem_mem _
   exact absurd (by rw [←UInt8.toNat_inj];show _=32;omega) (h _ hx)
theorem Ma(a:List UInt8)(h:∀x∈a,¬ x=32):Go.Lib.lastIndexByte ⟨a.toArray⟩ 32= -1:=by
 rcases Go.Lib.lastIndexByte_spec ⟨a.toArray⟩ 32 with ⟨e,_⟩|⟨i,hi,e,e1,e2⟩
 ·exact e
 ·have hi':i<a.length:=by simpa [ByteArray.size]using hi
  rw [get_at _ _ hi']at e1
  exact absurd (by rw [←UInt8.toNat_inj];show _=32;omega) (h _ (List.getElem_mem hi'))
theorem nL{a a' r r':List UInt8}(h:∀x∈a,¬ x=32)(h':∀x∈a',¬ x=32)(e:a++32 :: r=a'++32 :: r'):a=a'/\r=r':=by
 have c:=Jv a r h
 rw [e,Jv a' r' h']at c
 simp only [Prod.mk.injEq]at c
 exact⟨c.1.symm,c.2.1.symm⟩
theorem last_one{b b' c c':List UInt8}(h:∀x∈c,¬ x=32)(h':∀x∈c',¬ x=32)(e:b++32 :: c=b'++32 :: c'):b=b'/\c=c':=by
 have g:=DV b c h
 rw [e,DV b' c' h']at g
 have hl:b'.length=b.length:=vO
 have:=List.append_inj e hl.symm
 exact⟨this.1,by simpa using this.2⟩
def rows:List (ByteArray×Int×Bool):= [(⟨#[65,100,97,114,32,73]⟩,5,true),(⟨#[65,100,97,114,32,73,73]⟩,6,false),(⟨#[84,105,115,104,114,105]⟩,1,false),(⟨#[72,101,115,104,118,97,110]⟩,2,false),(⟨#[75,105,115,108,101,118]⟩,3,false),(⟨#[84,101,118,101,116]⟩,4,false),(⟨#[83,104,101,118,97,116]⟩,5,false),(⟨#[65,100,97,114]⟩,6,false),(⟨#[78,105,115,97,110]⟩,7,false),(⟨#[73,121,97,114]⟩,8,false),(⟨#[83,105,118,97,110]⟩,9,false),(⟨#[84,97,109,109,117,122]⟩,10,false),(⟨#[65,118]⟩,11,false),(⟨#[69,108,117,108]⟩,12,false)]
def isRow(mt:ByteArray)(n:Int)(l:Bool):Prop:=(mt,n,l)∈rows
theorem XI:(rows.all fun p=>rows.all fun q=> !(decide (p.1=q.1))||decide (p.2=q.2))=true:=by decide+kernel
theorem row_one{mt:ByteArray}{n k:Int}{l h:Bool}(a:isRow mt n l)(b:isRow mt k h):n=k/\l=h:=by
 have:=List.all_eq_true.1 (List.all_eq_true.1 XI _ a) _ b
 simpa using this
theorem look(mt:ByteArray):∃ (n:Int) (l ok:Bool),((ok=true/\isRow mt n l)∨(ok=false/\n=0/\l=false/\∀n' l',¬ isRow mt n' l'))/\
  ∀ (b:Nat) (w:World),w.1[b]? =some (.map (aO 12) 14)->(Instr.lookup 113 (.map (some b)) (.string mt) true).run Tryo.prog w= .ok (.tuple #[.agg #[.int .i64 n,.bool l],.bool ok]) w:=by
 have hks:∀x∈(aO 12).toList,MapKept.IsKey .string x.key:=by
  intro x hx
  simp [aO,bU]at hx
  rcases hx with rfl|rfl|rfl|rfl|rfl|rfl|rfl|rfl|rfl|rfl|rfl|rfl|rfl|rfl <;> simp [MapKept.IsKey]
 rcases MapKept.findNow_spec (d:= .string) (k:= .string mt) (by simp [MapKept.IsKey]) (aO 12).toList 0 hks with ⟨h1,h2⟩|⟨j,e,h1,h2,h3⟩
 ·refine⟨0,false,false,.inr ⟨rfl,rfl,rfl, ?_⟩,fun b w hb=>NK _ 9 31 b 14 (aO 12) mt _ (aB Tryz.underlying113) (aB Tryz.underlying9) (by first|exact(au (Tryo.zeroValue 31) Tryz.zeroValue31) w|exact(au (Tryo.zeroValue 31) Tryz.zeroValue31)|(simp [go_sem];done)|kernel_rfl) hb h1⟩
  intro n' l' hr
  simp only [isRow,rows,List.mem_cons,Prod.mk.injEq,List.not_mem_nil,or_false]at hr
  rcases hr with ⟨rfl,_⟩|⟨rfl,_⟩|⟨rfl,_⟩|⟨rfl,_⟩|⟨rfl,_⟩|⟨rfl,_⟩|⟨rfl,_⟩|⟨rfl,_⟩|⟨rfl,_⟩|⟨rfl,_⟩|⟨rfl,_⟩|⟨rfl,_⟩|⟨rfl,_⟩|⟨rfl,_⟩
  ·exact h2 (bU 0 ⟨#[65,100,97,114,32,73]⟩ 5 true) (by simp [aO]) rfl
  ·exact h2 (bU 1 ⟨#[65,100,97,114,32,73,73]⟩ 6 false) (by simp [aO]) rfl
  ·exact h2 (bU 2 ⟨#[84,105,115,104,114,105]⟩ 1 false) (by simp [aO]) rfl
  ·exact h2 (bU 3 ⟨#[72,101,115,104,118,97,110]⟩ 2 false) (by simp [aO]) rfl
  ·exact h2 (bU 4 ⟨#[75,105,115,108,101,118]⟩ 3 false) (by simp [aO]) rfl
  ·exact h2 (bU 5 ⟨#[84,101,118,101,116]⟩ 4 false) (by simp [aO]) rfl
  ·exact h2 (bU 6 ⟨#[83,104,101,118,97,116]⟩ 5 false) (by simp [aO]) rfl
  ·exact h2 (bU 7 ⟨#[65,100,97,114]⟩ 6 false) (by simp [aO]) rfl
  ·exact h2 (bU 8 ⟨#[78,105,115,97,110]⟩ 7 false) (by simp [aO]) rfl
  ·exact h2 (bU 9 ⟨#[73,121,97,114]⟩ 8 false) (by simp [aO]) rfl
  ·exact h2 (bU 10 ⟨#[83,105,118,97,110]⟩ 9 false) (by simp [aO]) rfl
  ·exact h2 (bU 11 ⟨#[84,97,109,109,117,122]⟩ 10 false) (by simp [aO]) rfl
  ·exact h2 (bU 12 ⟨#[65,118]⟩ 11 false) (by simp [aO]) rfl
  ·exact h2 (bU 13 ⟨#[69,108,117,108]⟩ 12 false) (by simp [aO]) rfl
 ·have hm:e∈(aO 12).toList:=List.mem_of_getElem? h2
  have key:∃n l,e.val= .agg #[.int .i64 n,.bool l]/\∃t,e.key= .string t/\isRow t n l:=by
   simp [aO]at hm
   rcases hm with rfl|rfl|rfl|rfl|rfl|rfl|rfl|rfl|rfl|rfl|rfl|rfl|rfl|rfl <;> exact⟨_,_,rfl,_,rfl,by simp [isRow,rows]⟩
  obtain⟨n,l,hv,t,ht,hr⟩:=key
  rw [ht]at h3
  obtain rfl:t=mt:=by simpa using h3
  rw [hv]at h1
  exact⟨n,l,true,.inl ⟨rfl,hr⟩,fun b w hb=>MZ _ 9 31 b 14 (aO 12) t _ _ (aB Tryz.underlying113) (aB Tryz.underlying9) hb h1⟩
end D14
end
section
open Go.ChangeShapes Go.WideShapes Go.ChangeAt Go.RowKit
namespace D14
theorem Ns{a b:ByteArray}(h:a.data.toList=b.data.toList):a=b:=by
 cases a;cases b
 simp only [ByteArray.mk.injEq]
 exact Array.toList_inj.1 h
theorem D8{a b:ByteArray}(h:¬ a=b):(a.toList==b.toList)=false:=by
 have:¬ a.toList=b.toList:=fun e=>h (Ns (by rw [←Lib.toList_data,←Lib.toList_data];exact e))
 simpa using this
def Parts(s fs mt ls:ByteArray):Prop:=s.data.toList=fs.data.toList++32 :: (mt.data.toList++32 :: ls.data.toList)/\(∀x∈fs.data.toList,¬ x=32)/\(∀x∈ls.data.toList,¬ x=32)
theorem lX{s fs mt ls fs' mt' ls':ByteArray}(h:Parts s fs mt ls)(h':Parts s fs' mt' ls'):fs=fs'/\mt=mt'/\ls=ls':=by
 obtain⟨e,a,b⟩:=h
 obtain⟨e',a',b'⟩:=h'
 obtain⟨p,q⟩:=nL a a' (e.symm.trans e')
 obtain⟨p',q'⟩:=last_one b b' q
 exact⟨Ns p,Ns p',Ns q'⟩
def Pb(s:ByteArray)(ry rn:Int)(rl:Bool)(rd er:Int):Prop:=
 (er=5/\ry=0/\rn=0/\rl=false/\rd=0/\¬ ∃fs mt ls n l,Parts s fs mt ls/\nOk fs 2=true/\nOk ls 4=true/\isRow mt n l)∨
 (∃fs mt ls n l,Parts s fs mt ls/\nOk fs 2=true/\nOk ls 4=true/\isRow mt n l/\
  ((er=2/\ry=0/\rn=0/\rl=false/\rd=0/\¬ (D10.aK (jI ls 4) n l (jI fs 2)=0/\(dZ (jI ls 4) n l=mt∨mt=(⟨#[65,100,97,114]⟩:ByteArray))))∨
   (er=0/\ry=jI ls 4/\rn=n/\rl=l/\rd=jI fs 2/\D10.aK (jI ls 4) n l (jI fs 2)=0/\(dZ (jI ls 4) n l=mt∨mt=(⟨#[65,100,97,114]⟩:ByteArray)))))
theorem Pb.parts{s fs mt ls:ByteArray}{n ry rn rd er:Int}{l rl:Bool}(h:Pb s ry rn rl rd er)(hp:Parts s fs mt ls)(h1:nOk fs 2=true)(h2:nOk ls 4=true)(h3:isRow mt n l):
  (er=2/\ry=0/\rn=0/\rl=false/\rd=0/\¬ (D10.aK (jI ls 4) n l (jI fs 2)=0/\(dZ (jI ls 4) n l=mt∨mt=(⟨#[65,100,97,114]⟩:ByteArray))))∨
   (er=0/\ry=jI ls 4/\rn=n/\rl=l/\rd=jI fs 2/\D10.aK (jI ls 4) n l (jI fs 2)=0/\(dZ (jI ls 4) n l=mt∨mt=(⟨#[65,100,97,114]⟩:ByteArray))):=by
 rcases h with ⟨_,_,_,_,_,hn⟩|⟨fs',mt',ls',n',l',hp',_,_,h3',h⟩
 ·exact absurd ⟨fs,mt,ls,n,l,hp,h1,h2,h3⟩ hn
 ·obtain⟨rfl,rfl,rfl⟩:=lX hp hp'
  obtain⟨rfl,rfl⟩:=row_one h3 h3'
  exact h
theorem PX(r:List UInt8)(i j:Nat):((⟨r.toArray⟩:ByteArray).extract i j).data.toList=(r.take j).drop i:=by
 simp [List.drop_take]
end D14
theorem Wt(s:ByteArray)(hs:s.size<=100000)(m:Int):∃ (ry rn:Int) (rl:Bool) (rd er:Int),D14.Pb s ry rn rl rd er/\∀w:World,Tab w 6 kevCells->Tab w 4 lenCells->Tab w 2 nameCells->dG w m->vB 34 #[s] w (.tuple #[.agg #[ry,rn,rl,rd],er]):=by
 have HU0:=Lib.hid (fun(w:World) (hm:dG w m)=>YD s ⟨#[32]⟩ m w vO hm)
 have HK:=Lib.hid (fun w hN=>Tw w hN)
 rcases D14.Fp s.data.toList with ⟨a,r,e,ha⟩|h
 ·have hlen:s.size=a.length+1+r.length:=by
   have:s.data.toList.length=s.size:=vS
   rw [←this,e];simp;omega
  rw [show Go.Lib.cut s.data.toList (⟨#[32]⟩:ByteArray).data.toList=(a,r,true) by rw [e];exact D14.Jv a r ha]at HU0
  have HU:Hid (∀w:World,dG w m->vB 37 #[s,.string ⟨#[32]⟩] w (.tuple #[.string ⟨a.toArray⟩,.string ⟨r.toArray⟩,true])):=HU0
  clear HU0
  have hrs:(⟨r.toArray⟩:ByteArray).size=r.length:=by show r.toArray.size=_;simp
  have HX0:=Lib.hid (fun w:World=>last_at ⟨r.toArray⟩ w vO)
  rcases D14.J3 r with ⟨b,c,er,hc⟩|h2
  ·have hlr:r.length=b.length+1+c.length:=by rw [er];simp;omega
   rw [show Go.Lib.lastIndexByte ⟨r.toArray⟩ 32=(b.length:Int) by rw [er];exact D14.DV b c hc]at HX0
   have hmt:((⟨r.toArray⟩:ByteArray).extract 0 b.length).data.toList=b:=by rw [D14.PX,er];simp
   have hls:((⟨r.toArray⟩:ByteArray).extract (b.length+1) (⟨r.toArray⟩:ByteArray).size).data.toList=c:=by rw [D14.PX,hrs,List.take_length,er];simp
   have hP:D14.Parts s ⟨a.toArray⟩ ((⟨r.toArray⟩:ByteArray).extract 0 b.length) ((⟨r.toArray⟩:ByteArray).extract (b.length+1) (⟨r.toArray⟩:ByteArray).size):=by
    refine⟨?_,ha,by rw [hls];exact hc⟩
    rw [hmt,hls,e,er]
   have k1:((b.length:Nat):Int)<((⟨r.toArray⟩:ByteArray).size:Int):=vO
   have k2:((b.length:Nat):Int)+1<=((⟨r.toArray⟩:ByteArray).size:Int):=vO
   have k0:(0:Int)<=(b.length:Int):=vO
   have hz:(⟨r.toArray⟩:ByteArray).size<=1000000:=vO
   have za:(⟨a.toArray⟩:ByteArray).size<=9223372036854775807:=by show a.toArray.size<=_;simp;omega
   generalize (⟨a.toArray⟩:ByteArray)=fs at*
   generalize hrr:(⟨r.toArray⟩:ByteArray)=rs at*
   generalize b.length=k at*
   have zl:(rs.extract (k+1) rs.size).size<=9223372036854775807:=vQ
   obtain⟨n,l,ok,hrow,HL0⟩:=D14.look (rs.extract 0 k)
   have HD:=Lib.hid (fun w=>FN fs 2 w vO za)
   have HY:=Lib.hid (fun w=>FN (rs.extract (k+1) rs.size) 4 w vO zl)
   have HL2:=Lib.hid HL0
   clear hmt hls hlr hlen e er HL0
   cases o1:nOk fs 2
   ·rw [o1]at HD
    refine⟨0,0,false,0,5,.inl ⟨rfl,rfl,rfl,rfl,rfl, ?_⟩,fun w hT hL hN hm=>NS s fs rs true k _ _ n l ok _ m w hT hL hN hm HU HX0 k0 k1 k2 hz HD HK HL2 HY⟩
    rintro⟨fs',mt',ls',n',l',hp',g1,g2,g3⟩
    obtain⟨rfl,rfl,rfl⟩:=D14.lX hP hp'
    rw [o1]at g1;cases g1
   rw [o1]at HD
   cases ok
   ·refine⟨0,0,false,0,5,.inl ⟨rfl,rfl,rfl,rfl,rfl, ?_⟩,fun w hT hL hN hm=>M7 s fs rs true k _ _ n l _ m w hT hL hN hm HU HX0 k0 k1 k2 hz HD HK HL2 HY⟩
    rintro⟨fs',mt',ls',n',l',hp',g1,g2,g3⟩
    obtain⟨rfl,rfl,rfl⟩:=D14.lX hP hp'
    rcases hrow with ⟨g,_⟩|⟨_,_,_,g⟩
    ·cases g
    ·exact g _ _ g3
   cases o3:nOk (rs.extract (k+1) rs.size) 4
   ·rw [o3]at HY
    refine⟨0,0,false,0,5,.inl ⟨rfl,rfl,rfl,rfl,rfl, ?_⟩,fun w hT hL hN hm=>Oj s fs rs true k _ _ n l m w hT hL hN hm HU HX0 k0 k1 k2 hz HD HK HL2 HY⟩
    rintro⟨fs',mt',ls',n',l',hp',g1,g2,g3⟩
    obtain⟨rfl,rfl,rfl⟩:=D14.lX hP hp'
    rw [o3]at g2;cases g2
   rw [o3]at HY
   have hrow1:D14.isRow (rs.extract 0 k) n l:=by
    rcases hrow with ⟨_,g⟩|⟨g,_⟩
    ·exact g
    ·cases g
   have hYb:I64 (jI (rs.extract (k+1) rs.size) 4):=by
    have h9:=o3
    unfold nOk at h9
    simp only [Bool.and_eq_true,decide_eq_true_eq]at h9
    have hbd:=sV _ h9.2.2.2
    have hv:jI (rs.extract (k+1) rs.size) 4=fH (rs.extract (k+1) rs.size).data.toList:=by unfold jI;rw [if_pos o3]
    have hl4:(rs.extract (k+1) rs.size).data.toList.length<=4:=by
     have:(rs.extract (k+1) rs.size).data.toList.length=(rs.extract (k+1) rs.size).size:=vS
     omega
    have hpw:(10:Int) ^ (rs.extract (k+1) rs.size).data.toList.length<=10000:=by
     generalize (rs.extract (k+1) rs.size).data.toList.length=q at hl4
     rcases(show q=0∨q=1∨q=2∨q=3∨q=4 by omega)with h|h|h|h|h <;> rw [h] <;> decide
    rw [hv]
    exact⟨vO,vO⟩
   have HC:=Lib.hid (fun w hT hL=>je (jI (rs.extract (k+1) rs.size) 4) n l (jI fs 2) w hYb hT hL)
   by_cases h0:D10.aK (jI (rs.extract (k+1) rs.size) 4) n l (jI fs 2)=0
   ·rw [h0]at HC
    obtain⟨⟨y1,y2,_⟩,hp⟩:=D10.bq h0
    have HM:=Lib.hid (fun w hT hL hN=>JM (jI (rs.extract (k+1) rs.size) 4) n l w hYb hT hL hN)
    rw [show D10.bO (jI (rs.extract (k+1) rs.size) 4) n l=0 by simp [D10.bO,Cal.dN _ y1 y2,hp],if_pos rfl]at HM
    by_cases h1:dZ (jI (rs.extract (k+1) rs.size) 4) n l=rs.extract 0 k
    ·have HM1:=HM
     rw [h1]at HM1
     exact⟨_,n,l,_,0,.inr ⟨fs,_,_,n,l,hP,o1,o3,hrow1,.inr ⟨rfl,rfl,rfl,rfl,rfl,h0,.inl h1⟩⟩,fun w hT hL hN hm=>Oh s fs rs true k _ _ n l _ m w hT hL hN hm HU HX0 k0 k1 k2 hz HD HK HL2 HY HC HM1⟩
    ·by_cases h2:rs.extract 0 k=(⟨#[65,100,97,114]⟩:ByteArray)
     ·refine⟨_,n,l,_,0,.inr ⟨fs,_,_,n,l,hP,o1,o3,hrow1,.inr ⟨rfl,rfl,rfl,rfl,rfl,h0,.inr h2⟩⟩,fun w hT hL hN hm=>Ov s fs rs true k _ _ n l _ _ m w hT hL hN hm HU HX0 k0 k1 k2 hz HD HK HL2 HY HC HM (D14.D8 h1) ?_ ?_⟩
      ·rw [h2];simp
      ·rw [h2,Lib.toList_data];rfl
     ·refine⟨0,0,false,0,2,.inr ⟨fs,_,_,n,l,hP,o1,o3,hrow1,.inl ⟨rfl,rfl,rfl,rfl,rfl,fun h=> ?_⟩⟩,fun w hT hL hN hm=>Qe s fs rs true k _ _ n l _ _ m w hT hL hN hm HU HX0 k0 k1 k2 hz HD HK HL2 HY HC HM (D14.D8 h1) (D14.D8 h2) ?_⟩
      ·rcases h.2 with g|g
       ·exact h1 g
       ·exact h2 g
      ·have:=D14.D8 h2
       rwa [Lib.toList_data (⟨#[65,100,97,114]⟩:ByteArray)]at this
   ·exact⟨0,0,false,0,2,.inr ⟨fs,_,_,n,l,hP,o1,o3,hrow1,.inl ⟨rfl,rfl,rfl,rfl,rfl,fun h=>h0 h.1⟩⟩,fun w hT hL hN hm=>SI s fs rs true k _ _ n l _ m w hT hL hN hm HU HX0 k0 k1 k2 hz HD HK HL2 HY HC (by simpa using h0)⟩
  ·rw [show Go.Lib.lastIndexByte ⟨r.toArray⟩ 32= -1 from D14.Ma r h2]at HX0
   refine⟨0,0,false,0,5,.inl ⟨rfl,rfl,rfl,rfl,rfl, ?_⟩,fun w hT hL hN hm=>FL s _ _ true m w hT hL hN hm HU HX0⟩
   rintro⟨fs',mt',ls',n',l',⟨e',p1,p2⟩,_⟩
   obtain⟨_,q⟩:=D14.nL ha p1 (e.symm.trans e')
   exact h2 32 (by rw [q];simp) rfl
 ·rw [show Go.Lib.cut s.data.toList (⟨#[32]⟩:ByteArray).data.toList=(s.data.toList,[],false)from D14.Yi _ h]at HU0
  have HX0:=Lib.hid (fun w:World=>last_at ⟨([]:List UInt8).toArray⟩ w (by show([]:List UInt8).toArray.size<=_;simp))
  rw [show Go.Lib.lastIndexByte ⟨([]:List UInt8).toArray⟩ 32= -1 from D14.Ma [] vS]at HX0
  refine⟨0,0,false,0,5,.inl ⟨rfl,rfl,rfl,rfl,rfl, ?_⟩,fun w hT hL hN hm=>FL s _ _ false m w hT hL hN hm HU0 HX0⟩
  rintro⟨fs',mt',ls',n',l',⟨e',p1,p2⟩,_⟩
  exact h 32 (by rw [e'];simp) rfl
end
section
open Go.ChangeShapes Go.WideShapes Go.ChangeAt Go.RowKit
def powU:List Value:=Lib.pow10Tab.map fun z=>Value.int .u64 z
theorem tabIs_of_tab{w:World}(h:Tab w 10 powU):Lib.TabIs Tryo.prog w "internal/strconv.uint64pow10" .u64 Lib.pow10Tab:=by
 obtain⟨t,h⟩:=h
 have hg:Tryo.prog.globalNamed "internal/strconv.uint64pow10" =some 10:=vK
 unfold Lib.TabIs World.var?
 simp only [hg,Option.bind_some,h]
 rfl
end
end Go.Proofs.YtljbnicolhhicaaGreatDoor
