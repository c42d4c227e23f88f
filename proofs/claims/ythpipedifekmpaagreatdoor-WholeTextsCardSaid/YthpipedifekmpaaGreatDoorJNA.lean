import Derived.Test.YthpipedifekmpaaGreatDoorJPath
import Derived.MapKept
import Derived.Maps.Own
import Derived.Deep.RegionHeld3
import Derived.RegionTactic
import Derived.LoopTactic
import Derived.Test.YthpipedifekmpaaGreatDoorJTX
import Derived.Test.YthpipedifekmpaaGreatDoorJHR
import Derived.Outline
import Derived.Test.YthpipedifekmpaaGreatDoorJLibS
import Derived.Lib.ItoaLen
import Derived.Lib.SmallJoins
import Derived.Lib.AppendIntMem
import Derived.Handed
import Derived.Shelf.Vars
import Derived.Test.YthpipedifekmpaaGreatDoorJTY
import Derived.Lib.ItoaMem
import Derived.Test.YthpipedifekmpaaGreatDoorJBB
import Derived.KernelRfl
set_option maxHeartbeats 8000000
set_option maxRecDepth 100000
set_option linter.unusedVariables false
section
namespace Go.Proofs.YthpipedifekmpaaGreatDoor
open Go.ChangeShapes Go.WideShapes Go.ChangeAt Go.RowKit
open Go.ChangeMaps (setBlock heap_setBlock_same heap_setBlock_other)
theorem run_map_new{P:Program}{w:World}(t kt et:TypeId)(b clock:Nat)(es:Array MapEntry)(s:ByteArray)(v:Value)(ht:P.underlying t=some (.map kt et))(hk:P.underlying kt=some .string)
  (hb:w.heap[b]? =some (.map es clock)) (hf:Instr.findNow .string (.string s) es.toList 0=some none):
  (Instr.mapUpdate t (.map (some b)) (.string s) v).run P w= .ok () (setBlock w b (.map (es.push {key:= .string s,val:=v,born:=clock}) (clock+1))):=by
 have hc:(Instr.checkKey false 10000 kt (.string s)).run P w= .ok () w:=MapKept.run_checkKey (k:= .string s) hk (by simp [MapKept.IsKey]) false 9999
 simp [Instr.mapUpdate,run_underlying ht,MapKept.run_getObj_map hb,hc,MapKept.run_findKey hk hf,MapKept.run_setObj_map _ hb,Result.andThen,setBlock]
theorem But.map{w:World}{b clock:Nat}{es:Array MapEntry}(hb:w.heap[b]? =some (.map es clock))(o:Obj):But b w (setBlock w b o):=
 ⟨rfl,rfl,rfl,by simp [setBlock],fun k _ hk=>heap_setBlock_other hb o hk⟩
theorem wpList_map_new{P:Program}(w:World){ops:Array Oper}{rest:List Oper}{o:Oper}{a:Act}{Q:Exit->Act->World->Prop}
  (hg:o.guard=none) (m x v:Operand) (t:TypeId) (hop:o.op=Op.mapUpdate t m x v) (kt et:TypeId) (ht:P.underlying t=some (.map kt et)) (hk:P.underlying kt=some .string) (b clock:Nat) (es:Array MapEntry)
  (hm:a.eval m= .map (some b)) (hb:w.heap[b]? =some (.map es clock)) (s:ByteArray) (val:Value) (hx:a.eval x= .string s) (hv:a.eval v=val) (hf:Instr.findNow .string (.string s) es.toList 0=some none)
  (hK:∀w',w'.heap[b]? =some (.map (es.push {key:= .string s,val:=val,born:=clock}) (clock+1))->But b w w'->wpList P ops Q rest (a.put o.dst undef) w'):
  wpList P ops Q (o :: rest) a w:=by
 refine wpList_plain hg fun K' hK'=> ?_
 unfold Oper.wp
 simp [execOp,hop,hm,hx,hv,run_map_new t kt et b clock es s val ht hk hb hf,Result.andThen]
 exact hK' _ _ (hK _ (heap_setBlock_same hb _) (But.map hb _))
theorem wpList_map_ins{P:Program}(w:World){ops:Array Oper}{rest:List Oper}{o:Oper}{a:Act}{Q:Exit->Act->World->Prop}
  (hg:o.guard=none) (m x v:Operand) (t:TypeId) (hop:o.op=Op.insert t m x v) (kt et:TypeId) (ht:P.underlying t=some (.map kt et)) (hk:P.underlying kt=some .string) (b clock:Nat) (es:Array MapEntry)
  (hm:a.eval m= .map (some b)) (hb:w.heap[b]? =some (.map es clock)) (s:ByteArray) (val:Value) (hx:a.eval x= .string s) (hv:a.eval v=val) (hf:Instr.findNow .string (.string s) es.toList 0=some none)
  (hK:∀w',w'.heap[b]? =some (.map (es.push {key:= .string s,val:=val,born:=clock}) (clock+1))->But b w w'->wpList P ops Q rest (a.put o.dst undef) w'):
  wpList P ops Q (o :: rest) a w:=by
 refine wpList_plain hg fun K' hK'=> ?_
 unfold Oper.wp
 simp [execOp,hop,hm,hx,hv,run_map_new t kt et b clock es s val ht hk hb hf,Result.andThen]
 exact hK' _ _ (hK _ (heap_setBlock_same hb _) (But.map hb _))
def nameCells:List Value:= [.string ⟨#[84,105,115,104,114,105]⟩,.string ⟨#[72,101,115,104,118,97,110]⟩,.string ⟨#[75,105,115,108,101,118]⟩,.string ⟨#[84,101,118,101,116]⟩,.string ⟨#[83,104,101,118,97,116]⟩,.string ⟨#[65,100,97,114]⟩,.string ⟨#[78,105,115,97,110]⟩,.string ⟨#[73,121,97,114]⟩,.string ⟨#[83,105,118,97,110]⟩,.string ⟨#[84,97,109,109,117,122]⟩,.string ⟨#[65,118]⟩,.string ⟨#[69,108,117,108]⟩]
def codeRow(i:Nat)(s:ByteArray)(n:Int)(l:Bool):MapEntry:={key:= .string s,val:= .agg #[.int .i64 n,.bool l],born:=i}
def codesAt(k:Nat):Array MapEntry:=([codeRow 0 ⟨#[65,100,97,114,32,73]⟩ 5 true,codeRow 1 ⟨#[65,100,97,114,32,73,73]⟩ 6 false]++ [codeRow 2 ⟨#[84,105,115,104,114,105]⟩ 1 false,codeRow 3 ⟨#[72,101,115,104,118,97,110]⟩ 2 false,codeRow 4 ⟨#[75,105,115,108,101,118]⟩ 3 false,codeRow 5 ⟨#[84,101,118,101,116]⟩ 4 false,codeRow 6 ⟨#[83,104,101,118,97,116]⟩ 5 false,codeRow 7 ⟨#[65,100,97,114]⟩ 6 false,codeRow 8 ⟨#[78,105,115,97,110]⟩ 7 false,codeRow 9 ⟨#[73,121,97,114]⟩ 8 false,codeRow 10 ⟨#[83,105,118,97,110]⟩ 9 false,codeRow 11 ⟨#[84,97,109,109,117,122]⟩ 10 false,codeRow 12 ⟨#[65,118]⟩ 11 false,codeRow 13 ⟨#[69,108,117,108]⟩ 12 false].take k).toArray
theorem name_codes(w:World)(hT:Tab w 1 nameCells):
  Calls Tryo.prog 24 #[] w fun e w'=>e= .returned (.map (some w.heap.size))/\w'.heap[w.heap.size]? =some (.map (codesAt 12) 14)/\Below w.heap.size w w':=by
 have hlt0:=hT.lt
 obtain⟨t,hT⟩:=hT
 have hT2:w.heap[1]? =some (.cells #[.string ⟨#[84,105,115,104,114,105]⟩,.string ⟨#[72,101,115,104,118,97,110]⟩,.string ⟨#[75,105,115,108,101,118]⟩,.string ⟨#[84,101,118,101,116]⟩,.string ⟨#[83,104,101,118,97,116]⟩,.string ⟨#[65,100,97,114]⟩,.string ⟨#[78,105,115,97,110]⟩,.string ⟨#[73,121,97,114]⟩,.string ⟨#[83,105,118,97,110]⟩,.string ⟨#[84,97,109,109,117,122]⟩,.string ⟨#[65,118]⟩,.string ⟨#[69,108,117,108]⟩] t (0,0)):=hT
 have HT:=Lib.hid hT2
 clear hT hT2
 have hmm:= @run_makeMap Tryo.prog
 have h0:(w.alloc (.map #[] 0)).heap[w.heap.size]? =some (.map #[] 0):=by first|(simp;done)|(show(w.heap.push _)[w.heap.size]? =_;simp)
 go_enter Tryo.func24,Tryz.ntmps24
 go_wp2_with (first|(refine wpList_map_ins _ rfl _ _ _ 58 rfl 9 23 (und_o Tryz.underlying58) (und_o Tryz.underlying9) w.heap.size 0 #[] rfl h0 _ _ rfl rfl (by kernel_rfl) ?_;intro w1 hm1 hB1)|(refine wpList_map_ins _ rfl _ _ _ 58 rfl 9 23 (und_o Tryz.underlying58) (und_o Tryz.underlying9) w.heap.size _ _ rfl hm1 _ _ rfl rfl (by kernel_rfl) ?_;intro w2 hm2 hB2)|(refine wpList_load_row rfl 86 _ rfl 1 rfl t #[.string ⟨#[84,105,115,104,114,105]⟩,.string ⟨#[72,101,115,104,118,97,110]⟩,.string ⟨#[75,105,115,108,101,118]⟩,.string ⟨#[84,101,118,101,116]⟩,.string ⟨#[83,104,101,118,97,116]⟩,.string ⟨#[65,100,97,114]⟩,.string ⟨#[78,105,115,97,110]⟩,.string ⟨#[73,121,97,114]⟩,.string ⟨#[83,105,118,97,110]⟩,.string ⟨#[84,97,109,109,117,122]⟩,.string ⟨#[65,118]⟩,.string ⟨#[69,108,117,108]⟩] (0,0) _ ((hB2.block _ (by have h9:=hB1.size;simp at h9;omega) (by omega)).trans ((hB1.block _ (by first|omega|(simp;done)|(simp;omega)) (by omega)).trans ((Below.heap_alloc _ _ _ hlt0).trans HT.out))) (und_o Tryz.underlying86) rfl (by kernel_rfl) ?_))
 go_loopw [9] (fun i wr=>∃k:Int,0<=k/\k<=12/\i= .int .i64 k/\wr.heap[w.heap.size]? =some (.map (codesAt k.toNat) (k.toNat+2))/\Below w.heap.size w wr) (fun i _=>(12-intOf i).toNat)
 case atStart=>exact⟨0,by omega,by omega,rfl,hm2,But.below hB2 (But.below hB1 (ba _ _) (Nat.le_refl _)) (Nat.le_refl _)⟩
 case round=>
  obtain⟨k,k0,k1,rfl,hm,hB⟩:=hrel
  have hk:k=0∨k=1∨k=2∨k=3∨k=4∨k=5∨k=6∨k=7∨k=8∨k=9∨k=10∨k=11∨k=12:=by omega
  clear k0 k1 hB1 hB2 hm1 hm2 h0
  rcases hk with rfl|rfl|rfl|rfl|rfl|rfl|rfl|rfl|rfl|rfl|rfl|rfl|rfl
  ·have hm:wr.heap[w.heap.size]? =some (.map (codesAt 0) 2):=hm
   have hix:∀w:World,(Instr.index 86 (.agg #[.string ⟨#[84,105,115,104,114,105]⟩,.string ⟨#[72,101,115,104,118,97,110]⟩,.string ⟨#[75,105,115,108,101,118]⟩,.string ⟨#[84,101,118,101,116]⟩,.string ⟨#[83,104,101,118,97,116]⟩,.string ⟨#[65,100,97,114]⟩,.string ⟨#[78,105,115,97,110]⟩,.string ⟨#[73,121,97,114]⟩,.string ⟨#[83,105,118,97,110]⟩,.string ⟨#[84,97,109,109,117,122]⟩,.string ⟨#[65,118]⟩,.string ⟨#[69,108,117,108]⟩]) (.int .i64 0)).run Tryo.prog w= .ok (.string ⟨#[84,105,115,104,114,105]⟩) w:=fun _=>by kernel_rfl
   go_wp2_with (first|(at_mapUpdate;refine wpList_map_new _ rfl _ _ _ 58 rfl 9 23 (und_o Tryz.underlying58) (und_o Tryz.underlying9) w.heap.size 2 (codesAt 0) rfl hm _ _ rfl rfl (by kernel_rfl) ?_;intro w3 hm3 hB3)|fail)
   go_roundw
   case rel=>exact⟨1,by omega,by omega,rfl,hm3,But.below hB3 hB (Nat.le_refl _)⟩
   case measure=>simp [intOf]
  ·have hm:wr.heap[w.heap.size]? =some (.map (codesAt 1) 3):=hm
   have hix:∀w:World,(Instr.index 86 (.agg #[.string ⟨#[84,105,115,104,114,105]⟩,.string ⟨#[72,101,115,104,118,97,110]⟩,.string ⟨#[75,105,115,108,101,118]⟩,.string ⟨#[84,101,118,101,116]⟩,.string ⟨#[83,104,101,118,97,116]⟩,.string ⟨#[65,100,97,114]⟩,.string ⟨#[78,105,115,97,110]⟩,.string ⟨#[73,121,97,114]⟩,.string ⟨#[83,105,118,97,110]⟩,.string ⟨#[84,97,109,109,117,122]⟩,.string ⟨#[65,118]⟩,.string ⟨#[69,108,117,108]⟩]) (.int .i64 1)).run Tryo.prog w= .ok (.string ⟨#[72,101,115,104,118,97,110]⟩) w:=fun _=>by kernel_rfl
   go_wp2_with (first|(at_mapUpdate;refine wpList_map_new _ rfl _ _ _ 58 rfl 9 23 (und_o Tryz.underlying58) (und_o Tryz.underlying9) w.heap.size 3 (codesAt 1) rfl hm _ _ rfl rfl (by kernel_rfl) ?_;intro w3 hm3 hB3)|fail)
   go_roundw
   case rel=>exact⟨2,by omega,by omega,rfl,hm3,But.below hB3 hB (Nat.le_refl _)⟩
   case measure=>simp [intOf]
  ·have hm:wr.heap[w.heap.size]? =some (.map (codesAt 2) 4):=hm
   have hix:∀w:World,(Instr.index 86 (.agg #[.string ⟨#[84,105,115,104,114,105]⟩,.string ⟨#[72,101,115,104,118,97,110]⟩,.string ⟨#[75,105,115,108,101,118]⟩,.string ⟨#[84,101,118,101,116]⟩,.string ⟨#[83,104,101,118,97,116]⟩,.string ⟨#[65,100,97,114]⟩,.string ⟨#[78,105,115,97,110]⟩,.string ⟨#[73,121,97,114]⟩,.string ⟨#[83,105,118,97,110]⟩,.string ⟨#[84,97,109,109,117,122]⟩,.string ⟨#[65,118]⟩,.string ⟨#[69,108,117,108]⟩]) (.int .i64 2)).run Tryo.prog w= .ok (.string ⟨#[75,105,115,108,101,118]⟩) w:=fun _=>by kernel_rfl
   go_wp2_with (first|(at_mapUpdate;refine wpList_map_new _ rfl _ _ _ 58 rfl 9 23 (und_o Tryz.underlying58) (und_o Tryz.underlying9) w.heap.size 4 (codesAt 2) rfl hm _ _ rfl rfl (by kernel_rfl) ?_;intro w3 hm3 hB3)|fail)
   go_roundw
   case rel=>exact⟨3,by omega,by omega,rfl,hm3,But.below hB3 hB (Nat.le_refl _)⟩
   case measure=>simp [intOf]
  ·have hm:wr.heap[w.heap.size]? =some (.map (codesAt 3) 5):=hm
   have hix:∀w:World,(Instr.index 86 (.agg #[.string ⟨#[84,105,115,104,114,105]⟩,.string ⟨#[72,101,115,104,118,97,110]⟩,.string ⟨#[75,105,115,108,101,118]⟩,.string ⟨#[84,101,118,101,116]⟩,.string ⟨#[83,104,101,118,97,116]⟩,.string ⟨#[65,100,97,114]⟩,.string ⟨#[78,105,115,97,110]⟩,.string ⟨#[73,121,97,114]⟩,.string ⟨#[83,105,118,97,110]⟩,.string ⟨#[84,97,109,109,117,122]⟩,.string ⟨#[65,118]⟩,.string ⟨#[69,108,117,108]⟩]) (.int .i64 3)).run Tryo.prog w= .ok (.string ⟨#[84,101,118,101,116]⟩) w:=fun _=>by kernel_rfl
   go_wp2_with (first|(at_mapUpdate;refine wpList_map_new _ rfl _ _ _ 58 rfl 9 23 (und_o Tryz.underlying58) (und_o Tryz.underlying9) w.heap.size 5 (codesAt 3) rfl hm _ _ rfl rfl (by kernel_rfl) ?_;intro w3 hm3 hB3)|fail)
   go_roundw
   case rel=>exact⟨4,by omega,by omega,rfl,hm3,But.below hB3 hB (Nat.le_refl _)⟩
   case measure=>simp [intOf]
  ·have hm:wr.heap[w.heap.size]? =some (.map (codesAt 4) 6):=hm
   have hix:∀w:World,(Instr.index 86 (.agg #[.string ⟨#[84,105,115,104,114,105]⟩,.string ⟨#[72,101,115,104,118,97,110]⟩,.string ⟨#[75,105,115,108,101,118]⟩,.string ⟨#[84,101,118,101,116]⟩,.string ⟨#[83,104,101,118,97,116]⟩,.string ⟨#[65,100,97,114]⟩,.string ⟨#[78,105,115,97,110]⟩,.string ⟨#[73,121,97,114]⟩,.string ⟨#[83,105,118,97,110]⟩,.string ⟨#[84,97,109,109,117,122]⟩,.string ⟨#[65,118]⟩,.string ⟨#[69,108,117,108]⟩]) (.int .i64 4)).run Tryo.prog w= .ok (.string ⟨#[83,104,101,118,97,116]⟩) w:=fun _=>by kernel_rfl
   go_wp2_with (first|(at_mapUpdate;refine wpList_map_new _ rfl _ _ _ 58 rfl 9 23 (und_o Tryz.underlying58) (und_o Tryz.underlying9) w.heap.size 6 (codesAt 4) rfl hm _ _ rfl rfl (by kernel_rfl) ?_;intro w3 hm3 hB3)|fail)
   go_roundw
   case rel=>exact⟨5,by omega,by omega,rfl,hm3,But.below hB3 hB (Nat.le_refl _)⟩
   case measure=>simp [intOf]
  ·have hm:wr.heap[w.heap.size]? =some (.map (codesAt 5) 7):=hm
   have hix:∀w:World,(Instr.index 86 (.agg #[.string ⟨#[84,105,115,104,114,105]⟩,.string ⟨#[72,101,115,104,118,97,110]⟩,.string ⟨#[75,105,115,108,101,118]⟩,.string ⟨#[84,101,118,101,116]⟩,.string ⟨#[83,104,101,118,97,116]⟩,.string ⟨#[65,100,97,114]⟩,.string ⟨#[78,105,115,97,110]⟩,.string ⟨#[73,121,97,114]⟩,.string ⟨#[83,105,118,97,110]⟩,.string ⟨#[84,97,109,109,117,122]⟩,.string ⟨#[65,118]⟩,.string ⟨#[69,108,117,108]⟩]) (.int .i64 5)).run Tryo.prog w= .ok (.string ⟨#[65,100,97,114]⟩) w:=fun _=>by kernel_rfl
   go_wp2_with (first|(at_mapUpdate;refine wpList_map_new _ rfl _ _ _ 58 rfl 9 23 (und_o Tryz.underlying58) (und_o Tryz.underlying9) w.heap.size 7 (codesAt 5) rfl hm _ _ rfl rfl (by kernel_rfl) ?_;intro w3 hm3 hB3)|fail)
   go_roundw
   case rel=>exact⟨6,by omega,by omega,rfl,hm3,But.below hB3 hB (Nat.le_refl _)⟩
   case measure=>simp [intOf]
  ·have hm:wr.heap[w.heap.size]? =some (.map (codesAt 6) 8):=hm
   have hix:∀w:World,(Instr.index 86 (.agg #[.string ⟨#[84,105,115,104,114,105]⟩,.string ⟨#[72,101,115,104,118,97,110]⟩,.string ⟨#[75,105,115,108,101,118]⟩,.string ⟨#[84,101,118,101,116]⟩,.string ⟨#[83,104,101,118,97,116]⟩,.string ⟨#[65,100,97,114]⟩,.string ⟨#[78,105,115,97,110]⟩,.string ⟨#[73,121,97,114]⟩,.string ⟨#[83,105,118,97,110]⟩,.string ⟨#[84,97,109,109,117,122]⟩,.string ⟨#[65,118]⟩,.string ⟨#[69,108,117,108]⟩]) (.int .i64 6)).run Tryo.prog w= .ok (.string ⟨#[78,105,115,97,110]⟩) w:=fun _=>by kernel_rfl
   go_wp2_with (first|(at_mapUpdate;refine wpList_map_new _ rfl _ _ _ 58 rfl 9 23 (und_o Tryz.underlying58) (und_o Tryz.underlying9) w.heap.size 8 (codesAt 6) rfl hm _ _ rfl rfl (by kernel_rfl) ?_;intro w3 hm3 hB3)|fail)
   go_roundw
   case rel=>exact⟨7,by omega,by omega,rfl,hm3,But.below hB3 hB (Nat.le_refl _)⟩
   case measure=>simp [intOf]
  ·have hm:wr.heap[w.heap.size]? =some (.map (codesAt 7) 9):=hm
   have hix:∀w:World,(Instr.index 86 (.agg #[.string ⟨#[84,105,115,104,114,105]⟩,.string ⟨#[72,101,115,104,118,97,110]⟩,.string ⟨#[75,105,115,108,101,118]⟩,.string ⟨#[84,101,118,101,116]⟩,.string ⟨#[83,104,101,118,97,116]⟩,.string ⟨#[65,100,97,114]⟩,.string ⟨#[78,105,115,97,110]⟩,.string ⟨#[73,121,97,114]⟩,.string ⟨#[83,105,118,97,110]⟩,.string ⟨#[84,97,109,109,117,122]⟩,.string ⟨#[65,118]⟩,.string ⟨#[69,108,117,108]⟩]) (.int .i64 7)).run Tryo.prog w= .ok (.string ⟨#[73,121,97,114]⟩) w:=fun _=>by kernel_rfl
   go_wp2_with (first|(at_mapUpdate;refine wpList_map_new _ rfl _ _ _ 58 rfl 9 23 (und_o Tryz.underlying58) (und_o Tryz.underlying9) w.heap.size 9 (codesAt 7) rfl hm _ _ rfl rfl (by kernel_rfl) ?_;intro w3 hm3 hB3)|fail)
   go_roundw
   case rel=>exact⟨8,by omega,by omega,rfl,hm3,But.below hB3 hB (Nat.le_refl _)⟩
   case measure=>simp [intOf]
  ·have hm:wr.heap[w.heap.size]? =some (.map (codesAt 8) 10):=hm
   have hix:∀w:World,(Instr.index 86 (.agg #[.string ⟨#[84,105,115,104,114,105]⟩,.string ⟨#[72,101,115,104,118,97,110]⟩,.string ⟨#[75,105,115,108,101,118]⟩,.string ⟨#[84,101,118,101,116]⟩,.string ⟨#[83,104,101,118,97,116]⟩,.string ⟨#[65,100,97,114]⟩,.string ⟨#[78,105,115,97,110]⟩,.string ⟨#[73,121,97,114]⟩,.string ⟨#[83,105,118,97,110]⟩,.string ⟨#[84,97,109,109,117,122]⟩,.string ⟨#[65,118]⟩,.string ⟨#[69,108,117,108]⟩]) (.int .i64 8)).run Tryo.prog w= .ok (.string ⟨#[83,105,118,97,110]⟩) w:=fun _=>by kernel_rfl
   go_wp2_with (first|(at_mapUpdate;refine wpList_map_new _ rfl _ _ _ 58 rfl 9 23 (und_o Tryz.underlying58) (und_o Tryz.underlying9) w.heap.size 10 (codesAt 8) rfl hm _ _ rfl rfl (by kernel_rfl) ?_;intro w3 hm3 hB3)|fail)
   go_roundw
   case rel=>exact⟨9,by omega,by omega,rfl,hm3,But.below hB3 hB (Nat.le_refl _)⟩
   case measure=>simp [intOf]
  ·have hm:wr.heap[w.heap.size]? =some (.map (codesAt 9) 11):=hm
   have hix:∀w:World,(Instr.index 86 (.agg #[.string ⟨#[84,105,115,104,114,105]⟩,.string ⟨#[72,101,115,104,118,97,110]⟩,.string ⟨#[75,105,115,108,101,118]⟩,.string ⟨#[84,101,118,101,116]⟩,.string ⟨#[83,104,101,118,97,116]⟩,.string ⟨#[65,100,97,114]⟩,.string ⟨#[78,105,115,97,110]⟩,.string ⟨#[73,121,97,114]⟩,.string ⟨#[83,105,118,97,110]⟩,.string ⟨#[84,97,109,109,117,122]⟩,.string ⟨#[65,118]⟩,.string ⟨#[69,108,117,108]⟩]) (.int .i64 9)).run Tryo.prog w= .ok (.string ⟨#[84,97,109,109,117,122]⟩) w:=fun _=>by kernel_rfl
   go_wp2_with (first|(at_mapUpdate;refine wpList_map_new _ rfl _ _ _ 58 rfl 9 23 (und_o Tryz.underlying58) (und_o Tryz.underlying9) w.heap.size 11 (codesAt 9) rfl hm _ _ rfl rfl (by kernel_rfl) ?_;intro w3 hm3 hB3)|fail)
   go_roundw
   case rel=>exact⟨10,by omega,by omega,rfl,hm3,But.below hB3 hB (Nat.le_refl _)⟩
   case measure=>simp [intOf]
  ·have hm:wr.heap[w.heap.size]? =some (.map (codesAt 10) 12):=hm
   have hix:∀w:World,(Instr.index 86 (.agg #[.string ⟨#[84,105,115,104,114,105]⟩,.string ⟨#[72,101,115,104,118,97,110]⟩,.string ⟨#[75,105,115,108,101,118]⟩,.string ⟨#[84,101,118,101,116]⟩,.string ⟨#[83,104,101,118,97,116]⟩,.string ⟨#[65,100,97,114]⟩,.string ⟨#[78,105,115,97,110]⟩,.string ⟨#[73,121,97,114]⟩,.string ⟨#[83,105,118,97,110]⟩,.string ⟨#[84,97,109,109,117,122]⟩,.string ⟨#[65,118]⟩,.string ⟨#[69,108,117,108]⟩]) (.int .i64 10)).run Tryo.prog w= .ok (.string ⟨#[65,118]⟩) w:=fun _=>by kernel_rfl
   go_wp2_with (first|(at_mapUpdate;refine wpList_map_new _ rfl _ _ _ 58 rfl 9 23 (und_o Tryz.underlying58) (und_o Tryz.underlying9) w.heap.size 12 (codesAt 10) rfl hm _ _ rfl rfl (by kernel_rfl) ?_;intro w3 hm3 hB3)|fail)
   go_roundw
   case rel=>exact⟨11,by omega,by omega,rfl,hm3,But.below hB3 hB (Nat.le_refl _)⟩
   case measure=>simp [intOf]
  ·have hm:wr.heap[w.heap.size]? =some (.map (codesAt 11) 13):=hm
   have hix:∀w:World,(Instr.index 86 (.agg #[.string ⟨#[84,105,115,104,114,105]⟩,.string ⟨#[72,101,115,104,118,97,110]⟩,.string ⟨#[75,105,115,108,101,118]⟩,.string ⟨#[84,101,118,101,116]⟩,.string ⟨#[83,104,101,118,97,116]⟩,.string ⟨#[65,100,97,114]⟩,.string ⟨#[78,105,115,97,110]⟩,.string ⟨#[73,121,97,114]⟩,.string ⟨#[83,105,118,97,110]⟩,.string ⟨#[84,97,109,109,117,122]⟩,.string ⟨#[65,118]⟩,.string ⟨#[69,108,117,108]⟩]) (.int .i64 11)).run Tryo.prog w= .ok (.string ⟨#[69,108,117,108]⟩) w:=fun _=>by kernel_rfl
   go_wp2_with (first|(at_mapUpdate;refine wpList_map_new _ rfl _ _ _ 58 rfl 9 23 (und_o Tryz.underlying58) (und_o Tryz.underlying9) w.heap.size 13 (codesAt 11) rfl hm _ _ rfl rfl (by kernel_rfl) ?_;intro w3 hm3 hB3)|fail)
   go_roundw
   case rel=>exact⟨12,by omega,by omega,rfl,hm3,But.below hB3 hB (Nat.le_refl _)⟩
   case measure=>simp [intOf]
  ·go_wp2_with fail
   go_ret
   exact⟨rfl,hm,hB⟩
end Go.Proofs.YthpipedifekmpaaGreatDoor
end
section
namespace Go.Proofs.YthpipedifekmpaaGreatDoor
open Go.ChangeShapes Go.WideShapes Go.ChangeAt Go.RowKit
def nOk(s:ByteArray)(M:Int):Bool:=decide (1<=(s.size:Int))&&(decide ((s.size:Int)<=M)&&(decide (¬ s.data.toList.head?=some 48)&&s.data.toList.all isDig))
def nVal(s:ByteArray)(M:Int):Int:=if nOk s M then numFold s.data.toList else 0
theorem name_number_0(s:ByteArray)(M:Int)(w:World)(hs:s.size<=9223372036854775807)(h:(s.size:Int)<1):
  Calls Tryo.prog 23 #[.string s,.int .i64 M] w fun e w'=>e= .returned (.tuple #[.int .i64 0,.bool false])/\w=w':=by
 go_enter Tryo.func23,Tryz.ntmps23
 go_wp2_with fail
 go_ret2
 exact⟨rfl,rfl⟩
theorem name_number_1(s:ByteArray)(M:Int)(w:World)(hs:s.size<=9223372036854775807)(h0:1<=(s.size:Int))(h:M<(s.size:Int)):
  Calls Tryo.prog 23 #[.string s,.int .i64 M] w fun e w'=>e= .returned (.tuple #[.int .i64 0,.bool false])/\w=w':=by
 go_enter Tryo.func23,Tryz.ntmps23
 go_wp2_with fail
 go_ret2
 exact⟨rfl,rfl⟩
theorem name_number_2(s:ByteArray)(M:Int)(w:World)(hs:s.size<=9223372036854775807)(h0:1<=(s.size:Int))(h1:(s.size:Int)<=M)(hp:0<s.size)(h:(s[0].toNat:Int)=48):
  Calls Tryo.prog 23 #[.string s,.int .i64 M] w fun e w'=>e= .returned (.tuple #[.int .i64 0,.bool false])/\w=w':=by
 go_enter Tryo.func23,Tryz.ntmps23
 go_wp2_with fail
 go_ret2
 exact⟨rfl,rfl⟩
theorem name_number_go(s:ByteArray)(M:Int)(w:World)(hs:s.size<=4)(h0:1<=(s.size:Int))(h1:(s.size:Int)<=M)(hp:0<s.size)(h:¬ (s[0].toNat:Int)=48)(vv:Int)(oo:Bool)(HOk:Hid (oo=s.data.toList.all isDig))(HV:Hid (vv=if s.data.toList.all isDig then numFold s.data.toList else 0)):
  Calls Tryo.prog 23 #[.string s,.int .i64 M] w fun e w'=>e= .returned (.tuple #[.int .i64 vv,.bool oo])/\w=w':=by
 go_enter Tryo.func23,Tryz.ntmps23
 go_wp2_with fail
 ·rename_i hq
  exfalso
  rcases hq with (q|q)|q
  ·omega
  ·omega
  ·exact h (by simpa using q)
 go_loop [6,24] (fun n i=>∃k:Nat,k<=s.size/\i= .int .i64 k/\n= .int .i64 (numFold (s.data.toList.take k))/\Hid ((s.data.toList.take k).all isDig=true)) (fun _ i=>s.size-(intOf i).toNat)
 case atStart=>exact⟨0,Nat.zero_le _,rfl,rfl,Lib.hid rfl⟩
 case round=>
  obtain⟨k,hk,rfl,rfl,hA⟩:=hrel
  have hbd:=numFold_bd _ hA.out
  have hlt4:(s.data.toList.take k).length<=k:=List.length_take_le _ _
  clear h h1 h0
  by_cases hlt:k<s.size
  ·have hpow:(10:Int) ^ (s.data.toList.take k).length<=1000:=by
    rcases(show(s.data.toList.take k).length=0∨(s.data.toList.take k).length=1∨(s.data.toList.take k).length=2∨(s.data.toList.take k).length=3 by omega)with h|h|h|h <;> rw [h] <;> decide
   have hF0:=hbd.1
   have hF1:numFold (s.data.toList.take k)<1000:=by omega
   have hsn:=numFold_snoc (s.data.toList.take k) s[k]
   rw [←take_snoc' s k hlt]at hsn
   have hall:isDig s[k]=true->(s.data.toList.take (k+1)).all isDig=true:=fun h=>by rw [take_snoc' s k hlt,List.all_append,hA.out];simpa using h
   have hno:=all_take s k hlt
   have HS:=Lib.hid (And.intro hsn (And.intro hall hno))
   clear hsn hall hno hbd hpow hlt4
   by_cases h48:48<=(s[k].toNat:Int)
   ·by_cases h57:(s[k].toNat:Int)<=57
    ·have hdig:isDig s[k]=true:=by unfold isDig;simp;omega
     have HD:=Lib.hid hdig
     clear hdig
     go_wp2_with fail
     go_round
     case rel=>exact⟨_,_,_,_,_,⟨k+1,by omega,by go_num,by rw [HS.out.1],Lib.hid (List.all_eq_true.1 (HS.out.2.1 HD.out))⟩,rfl,rfl,rfl,rfl,rfl⟩
     case measure=>simp [intOf];omega
    ·have hf:isDig s[k]=false:=by unfold isDig;simp;omega
     have e:=HS.out.2.2 hf
     have ev:vv=0:=by rw [HV.out,e];rfl
     have eo:oo=false:=by rw [HOk.out,e]
     clear e hf
     subst ev
     subst eo
     go_wp2_with fail
     go_ret2
     exact⟨rfl,rfl⟩
   ·have hf:isDig s[k]=false:=by unfold isDig;simp;omega
    have e:=HS.out.2.2 hf
    have ev:vv=0:=by rw [HV.out,e];rfl
    have eo:oo=false:=by rw [HOk.out,e]
    clear e hf
    subst ev
    subst eo
    go_wp2_with fail
    go_ret2
    exact⟨rfl,rfl⟩
  ·obtain rfl:k=s.size:=by omega
   have ht:s.data.toList.take s.size=s.data.toList:=List.take_of_length_le (by simp)
   rw [ht]at hA hbd⊢
   have ev:vv=numFold s.data.toList:=by rw [HV.out,hA.out];rfl
   have eo:oo=true:=by rw [HOk.out,hA.out]
   clear ht hbd hlt4
   subst ev
   subst eo
   go_wp2_with fail
   go_ret2
   exact⟨rfl,rfl⟩
theorem head_byte(s:ByteArray)(hp:0<s.size):s.data.toList.head?=some s[0]:=by
 have e:s[0]=s.data.toList[0]'(by simpa using hp):=rfl
 rw [e,List.head?_eq_getElem?,List.getElem?_eq_getElem]
theorem name_number(s:ByteArray)(M:Int)(w:World)(hM:M<=4)(hs:s.size<=9223372036854775807):
  Calls Tryo.prog 23 #[.string s,.int .i64 M] w fun e w'=>e= .returned (.tuple #[.int .i64 (nVal s M),.bool (nOk s M)])/\w=w':=by
 by_cases c0:(s.size:Int)<1
 ·have e:nOk s M=false:=by unfold nOk;rw [decide_eq_false (by omega)];rfl
  rw [show nVal s M=0 by unfold nVal;rw [e];rfl,e]
  exact name_number_0 s M w hs c0
 ·by_cases c1:M<(s.size:Int)
  ·have e:nOk s M=false:=by unfold nOk;rw [decide_eq_false (show ¬ (s.size:Int)<=M by omega)];simp
   rw [show nVal s M=0 by unfold nVal;rw [e];rfl,e]
   exact name_number_1 s M w hs (by omega) c1
  ·have hp:0<s.size:=by omega
   by_cases c2:(s[0].toNat:Int)=48
   ·have e2:s[0]=48:=by rw [←UInt8.toNat_inj];show s[0].toNat=48;omega
    have e:nOk s M=false:=by unfold nOk;rw [head_byte s hp,e2];simp
    rw [show nVal s M=0 by unfold nVal;rw [e];rfl,e]
    exact name_number_2 s M w hs (by omega) (by omega) hp c2
   ·have e2:¬ s[0]=48:=fun e=>c2 (by rw [e];rfl)
    have e:nOk s M=s.data.toList.all isDig:=by
     unfold nOk
     rw [head_byte s hp,decide_eq_true (show 1<=(s.size:Int) by omega),decide_eq_true (show(s.size:Int)<=M by omega),decide_eq_true (show ¬ some s[0]=some 48 by simpa using e2)]
     rfl
    exact name_number_go s M w (by omega) (by omega) (by omega) hp c2 _ _ (Lib.hid e) (Lib.hid (by unfold nVal;rw [e]))
theorem name_Month_err(y n:Int)(l:Bool)(v er:Int)(w:World)(hT:Tab w 5 kevCells)(hL:Tab w 4 lenCells)(HC:Hid (∀w:World,Tab w 5 kevCells->Tab w 4 lenCells->Calls Tryo.prog 37 #[.int .i64 y,.agg #[.int .i64 n,.bool l]] w fun e w'=>e= .returned (.tuple #[.int .i64 (v),.int .i64 (er)])/\Below w.heap.size w w'))(h:(er !=0)=true):
  Calls Tryo.prog 15 #[.int .i64 y,.agg #[.int .i64 n,.bool l]] w fun e w'=>e= .returned (.tuple #[.string ⟨#[]⟩,.int .i64 (er)])/\Below w.heap.size w w':=by
 go_enter Tryo.func15,Tryz.ntmps15
 go_wp2_with fail
 refine(HC.out _ (Tab.below hT (by repeat(first|exact Below.refl _ _|assumption|(with_reducible refine bdrew ?_)|(with_reducible refine baa ?_ _)|(with_reducible refine bs ?_ (by first|exact Nat.le_refl _|omega|(simp;done)|(simp;omega)) _)|(with_reducible refine bt ?_ (by assumption))))) (Tab.below hL (by repeat(first|exact Below.refl _ _|assumption|(with_reducible refine bdrew ?_)|(with_reducible refine baa ?_ _)|(with_reducible refine bs ?_ (by first|exact Nat.le_refl _|omega|(simp;done)|(simp;omega)) _)|(with_reducible refine bt ?_ (by assumption)))))).mono ?_
 rintro e w1 ⟨rfl,hb1⟩
 obtain⟨hc1,hf1⟩:=bcell hb1
 have hz1:=hb1.size
 try simp at hz1
 have hs1x0:w.heap.size<w1.heap.size:=by omega
 have g1x0:w1.cell? ⟨w.heap.size,0,none⟩=some (.int .i64 (n)):=cel hc1
 have g1x1:w1.cell? ⟨w.heap.size,1,none⟩=some (.bool (l)):=cel hc1
 go_wp2_with fail
 go_ret2
 refine⟨rfl, ?_⟩
 repeat(first|exact Below.refl _ _|assumption|(with_reducible refine bdrew ?_)|(with_reducible refine baa ?_ _)|(with_reducible refine bs ?_ (by first|exact Nat.le_refl _|omega|(simp;done)|(simp;omega)) _)|(with_reducible refine bt ?_ (by assumption)))
theorem name_Month_I(y n:Int)(v:Int)(w:World)(hT:Tab w 5 kevCells)(hL:Tab w 4 lenCells)(HC:Hid (∀w:World,Tab w 5 kevCells->Tab w 4 lenCells->Calls Tryo.prog 37 #[.int .i64 y,.agg #[.int .i64 n,.bool true]] w fun e w'=>e= .returned (.tuple #[.int .i64 (v),.int .i64 (0)])/\Below w.heap.size w w')):
  Calls Tryo.prog 15 #[.int .i64 y,.agg #[.int .i64 n,.bool true]] w fun e w'=>e= .returned (.tuple #[.string ⟨#[65,100,97,114,32,73]⟩,.int .i64 (0)])/\Below w.heap.size w w':=by
 go_enter Tryo.func15,Tryz.ntmps15
 go_wp2_with fail
 refine(HC.out _ (Tab.below hT (by repeat(first|exact Below.refl _ _|assumption|(with_reducible refine bdrew ?_)|(with_reducible refine baa ?_ _)|(with_reducible refine bs ?_ (by first|exact Nat.le_refl _|omega|(simp;done)|(simp;omega)) _)|(with_reducible refine bt ?_ (by assumption))))) (Tab.below hL (by repeat(first|exact Below.refl _ _|assumption|(with_reducible refine bdrew ?_)|(with_reducible refine baa ?_ _)|(with_reducible refine bs ?_ (by first|exact Nat.le_refl _|omega|(simp;done)|(simp;omega)) _)|(with_reducible refine bt ?_ (by assumption)))))).mono ?_
 rintro e w1 ⟨rfl,hb1⟩
 obtain⟨hc1,hf1⟩:=bcell hb1
 have hz1:=hb1.size
 try simp at hz1
 have hs1x0:w.heap.size<w1.heap.size:=by omega
 have g1x0:w1.cell? ⟨w.heap.size,0,none⟩=some (.int .i64 (n)):=cel hc1
 have g1x1:w1.cell? ⟨w.heap.size,1,none⟩=some (.bool true):=cel hc1
 go_wp2_with fail
 go_ret2
 refine⟨rfl, ?_⟩
 repeat(first|exact Below.refl _ _|assumption|(with_reducible refine bdrew ?_)|(with_reducible refine baa ?_ _)|(with_reducible refine bs ?_ (by first|exact Nat.le_refl _|omega|(simp;done)|(simp;omega)) _)|(with_reducible refine bt ?_ (by assumption)))
theorem name_Month_II(y v:Int)(w:World)(hT:Tab w 5 kevCells)(hL:Tab w 4 lenCells)(HC:Hid (∀w:World,Tab w 5 kevCells->Tab w 4 lenCells->Calls Tryo.prog 37 #[.int .i64 y,.agg #[.int .i64 6,.bool false]] w fun e w'=>e= .returned (.tuple #[.int .i64 (v),.int .i64 (0)])/\Below w.heap.size w w'))(HL:Hid (∀w:World,Calls Tryo.prog 38 #[.int .i64 y] w fun e w'=>e= .returned (.tuple #[.bool true,.int .i64 0])/\w=w')):
  Calls Tryo.prog 15 #[.int .i64 y,.agg #[.int .i64 6,.bool false]] w fun e w'=>e= .returned (.tuple #[.string ⟨#[65,100,97,114,32,73,73]⟩,.int .i64 (0)])/\Below w.heap.size w w':=by
 go_enter Tryo.func15,Tryz.ntmps15
 go_wp2_with fail
 refine(HC.out _ (Tab.below hT (by repeat(first|exact Below.refl _ _|assumption|(with_reducible refine bdrew ?_)|(with_reducible refine baa ?_ _)|(with_reducible refine bs ?_ (by first|exact Nat.le_refl _|omega|(simp;done)|(simp;omega)) _)|(with_reducible refine bt ?_ (by assumption))))) (Tab.below hL (by repeat(first|exact Below.refl _ _|assumption|(with_reducible refine bdrew ?_)|(with_reducible refine baa ?_ _)|(with_reducible refine bs ?_ (by first|exact Nat.le_refl _|omega|(simp;done)|(simp;omega)) _)|(with_reducible refine bt ?_ (by assumption)))))).mono ?_
 rintro e w1 ⟨rfl,hb1⟩
 obtain⟨hc1,hf1⟩:=bcell hb1
 have hz1:=hb1.size
 try simp at hz1
 have hs1x0:w.heap.size<w1.heap.size:=by omega
 have g1x0:w1.cell? ⟨w.heap.size,0,none⟩=some (.int .i64 6):=cel hc1
 have g1x1:w1.cell? ⟨w.heap.size,1,none⟩=some (.bool false):=cel hc1
 go_wp2_with fail
 refine(HL.out _).mono ?_
 rintro e w' ⟨rfl,rfl⟩
 go_wp2_with fail
 go_ret2
 refine⟨rfl, ?_⟩
 repeat(first|exact Below.refl _ _|assumption|(with_reducible refine bdrew ?_)|(with_reducible refine baa ?_ _)|(with_reducible refine bs ?_ (by first|exact Nat.le_refl _|omega|(simp;done)|(simp;omega)) _)|(with_reducible refine bt ?_ (by assumption)))
theorem name_Month_1(y v:Int)(lp:Bool)(w:World)(hT:Tab w 5 kevCells)(hL:Tab w 4 lenCells)(hlt:1<w.heap.size)(hN:w.cell? ⟨1,0,none⟩=some (.string ⟨#[84,105,115,104,114,105]⟩))(HC:Hid (∀w:World,Tab w 5 kevCells->Tab w 4 lenCells->Calls Tryo.prog 37 #[.int .i64 y,.agg #[.int .i64 1,.bool false]] w fun e w'=>e= .returned (.tuple #[.int .i64 (v),.int .i64 (0)])/\Below w.heap.size w w'))(HL:Hid (∀w:World,Calls Tryo.prog 38 #[.int .i64 y] w fun e w'=>e= .returned (.tuple #[.bool lp,.int .i64 0])/\w=w')):
  Calls Tryo.prog 15 #[.int .i64 y,.agg #[.int .i64 1,.bool false]] w fun e w'=>e= .returned (.tuple #[.string ⟨#[84,105,115,104,114,105]⟩,.int .i64 (0)])/\Below w.heap.size w w':=by
 go_enter Tryo.func15,Tryz.ntmps15
 go_wp2_with fail
 refine(HC.out _ (Tab.below hT (by repeat(first|exact Below.refl _ _|assumption|(with_reducible refine bdrew ?_)|(with_reducible refine baa ?_ _)|(with_reducible refine bs ?_ (by first|exact Nat.le_refl _|omega|(simp;done)|(simp;omega)) _)|(with_reducible refine bt ?_ (by assumption))))) (Tab.below hL (by repeat(first|exact Below.refl _ _|assumption|(with_reducible refine bdrew ?_)|(with_reducible refine baa ?_ _)|(with_reducible refine bs ?_ (by first|exact Nat.le_refl _|omega|(simp;done)|(simp;omega)) _)|(with_reducible refine bt ?_ (by assumption)))))).mono ?_
 rintro e w1 ⟨rfl,hb1⟩
 obtain⟨hc1,hf1⟩:=bcell hb1
 have hz1:=hb1.size
 try simp at hz1
 have hs1x0:w.heap.size<w1.heap.size:=by omega
 have hs1x1:1<w1.heap.size:=by omega
 have g1x0:w1.cell? ⟨w.heap.size,0,none⟩=some (.int .i64 1):=cel hc1
 have g1x1:w1.cell? ⟨w.heap.size,1,none⟩=some (.bool false):=cel hc1
 have g1x2:w1.cell? ⟨1,0,none⟩=some (.string ⟨#[84,105,115,104,114,105]⟩):=cel hc1
 go_wp2_with fail
 refine(HL.out _).mono ?_
 rintro e w' ⟨rfl,rfl⟩
 go_wp2_with fail
 all_goals go_ret2
 all_goals refine⟨rfl, ?_⟩
 all_goals repeat(first|exact Below.refl _ _|assumption|(with_reducible refine bdrew ?_)|(with_reducible refine baa ?_ _)|(with_reducible refine bs ?_ (by first|exact Nat.le_refl _|omega|(simp;done)|(simp;omega)) _)|(with_reducible refine bt ?_ (by assumption)))
theorem name_Month_2(y v:Int)(lp:Bool)(w:World)(hT:Tab w 5 kevCells)(hL:Tab w 4 lenCells)(hlt:1<w.heap.size)(hN:w.cell? ⟨1,1,none⟩=some (.string ⟨#[72,101,115,104,118,97,110]⟩))(HC:Hid (∀w:World,Tab w 5 kevCells->Tab w 4 lenCells->Calls Tryo.prog 37 #[.int .i64 y,.agg #[.int .i64 2,.bool false]] w fun e w'=>e= .returned (.tuple #[.int .i64 (v),.int .i64 (0)])/\Below w.heap.size w w'))(HL:Hid (∀w:World,Calls Tryo.prog 38 #[.int .i64 y] w fun e w'=>e= .returned (.tuple #[.bool lp,.int .i64 0])/\w=w')):
  Calls Tryo.prog 15 #[.int .i64 y,.agg #[.int .i64 2,.bool false]] w fun e w'=>e= .returned (.tuple #[.string ⟨#[72,101,115,104,118,97,110]⟩,.int .i64 (0)])/\Below w.heap.size w w':=by
 go_enter Tryo.func15,Tryz.ntmps15
 go_wp2_with fail
 refine(HC.out _ (Tab.below hT (by repeat(first|exact Below.refl _ _|assumption|(with_reducible refine bdrew ?_)|(with_reducible refine baa ?_ _)|(with_reducible refine bs ?_ (by first|exact Nat.le_refl _|omega|(simp;done)|(simp;omega)) _)|(with_reducible refine bt ?_ (by assumption))))) (Tab.below hL (by repeat(first|exact Below.refl _ _|assumption|(with_reducible refine bdrew ?_)|(with_reducible refine baa ?_ _)|(with_reducible refine bs ?_ (by first|exact Nat.le_refl _|omega|(simp;done)|(simp;omega)) _)|(with_reducible refine bt ?_ (by assumption)))))).mono ?_
 rintro e w1 ⟨rfl,hb1⟩
 obtain⟨hc1,hf1⟩:=bcell hb1
 have hz1:=hb1.size
 try simp at hz1
 have hs1x0:w.heap.size<w1.heap.size:=by omega
 have hs1x1:1<w1.heap.size:=by omega
 have g1x0:w1.cell? ⟨w.heap.size,0,none⟩=some (.int .i64 2):=cel hc1
 have g1x1:w1.cell? ⟨w.heap.size,1,none⟩=some (.bool false):=cel hc1
 have g1x2:w1.cell? ⟨1,1,none⟩=some (.string ⟨#[72,101,115,104,118,97,110]⟩):=cel hc1
 go_wp2_with fail
 refine(HL.out _).mono ?_
 rintro e w' ⟨rfl,rfl⟩
 go_wp2_with fail
 all_goals go_ret2
 all_goals refine⟨rfl, ?_⟩
 all_goals repeat(first|exact Below.refl _ _|assumption|(with_reducible refine bdrew ?_)|(with_reducible refine baa ?_ _)|(with_reducible refine bs ?_ (by first|exact Nat.le_refl _|omega|(simp;done)|(simp;omega)) _)|(with_reducible refine bt ?_ (by assumption)))
theorem name_Month_3(y v:Int)(lp:Bool)(w:World)(hT:Tab w 5 kevCells)(hL:Tab w 4 lenCells)(hlt:1<w.heap.size)(hN:w.cell? ⟨1,2,none⟩=some (.string ⟨#[75,105,115,108,101,118]⟩))(HC:Hid (∀w:World,Tab w 5 kevCells->Tab w 4 lenCells->Calls Tryo.prog 37 #[.int .i64 y,.agg #[.int .i64 3,.bool false]] w fun e w'=>e= .returned (.tuple #[.int .i64 (v),.int .i64 (0)])/\Below w.heap.size w w'))(HL:Hid (∀w:World,Calls Tryo.prog 38 #[.int .i64 y] w fun e w'=>e= .returned (.tuple #[.bool lp,.int .i64 0])/\w=w')):
  Calls Tryo.prog 15 #[.int .i64 y,.agg #[.int .i64 3,.bool false]] w fun e w'=>e= .returned (.tuple #[.string ⟨#[75,105,115,108,101,118]⟩,.int .i64 (0)])/\Below w.heap.size w w':=by
 go_enter Tryo.func15,Tryz.ntmps15
 go_wp2_with fail
 refine(HC.out _ (Tab.below hT (by repeat(first|exact Below.refl _ _|assumption|(with_reducible refine bdrew ?_)|(with_reducible refine baa ?_ _)|(with_reducible refine bs ?_ (by first|exact Nat.le_refl _|omega|(simp;done)|(simp;omega)) _)|(with_reducible refine bt ?_ (by assumption))))) (Tab.below hL (by repeat(first|exact Below.refl _ _|assumption|(with_reducible refine bdrew ?_)|(with_reducible refine baa ?_ _)|(with_reducible refine bs ?_ (by first|exact Nat.le_refl _|omega|(simp;done)|(simp;omega)) _)|(with_reducible refine bt ?_ (by assumption)))))).mono ?_
 rintro e w1 ⟨rfl,hb1⟩
 obtain⟨hc1,hf1⟩:=bcell hb1
 have hz1:=hb1.size
 try simp at hz1
 have hs1x0:w.heap.size<w1.heap.size:=by omega
 have hs1x1:1<w1.heap.size:=by omega
 have g1x0:w1.cell? ⟨w.heap.size,0,none⟩=some (.int .i64 3):=cel hc1
 have g1x1:w1.cell? ⟨w.heap.size,1,none⟩=some (.bool false):=cel hc1
 have g1x2:w1.cell? ⟨1,2,none⟩=some (.string ⟨#[75,105,115,108,101,118]⟩):=cel hc1
 go_wp2_with fail
 refine(HL.out _).mono ?_
 rintro e w' ⟨rfl,rfl⟩
 go_wp2_with fail
 all_goals go_ret2
 all_goals refine⟨rfl, ?_⟩
 all_goals repeat(first|exact Below.refl _ _|assumption|(with_reducible refine bdrew ?_)|(with_reducible refine baa ?_ _)|(with_reducible refine bs ?_ (by first|exact Nat.le_refl _|omega|(simp;done)|(simp;omega)) _)|(with_reducible refine bt ?_ (by assumption)))
theorem name_Month_4(y v:Int)(lp:Bool)(w:World)(hT:Tab w 5 kevCells)(hL:Tab w 4 lenCells)(hlt:1<w.heap.size)(hN:w.cell? ⟨1,3,none⟩=some (.string ⟨#[84,101,118,101,116]⟩))(HC:Hid (∀w:World,Tab w 5 kevCells->Tab w 4 lenCells->Calls Tryo.prog 37 #[.int .i64 y,.agg #[.int .i64 4,.bool false]] w fun e w'=>e= .returned (.tuple #[.int .i64 (v),.int .i64 (0)])/\Below w.heap.size w w'))(HL:Hid (∀w:World,Calls Tryo.prog 38 #[.int .i64 y] w fun e w'=>e= .returned (.tuple #[.bool lp,.int .i64 0])/\w=w')):
  Calls Tryo.prog 15 #[.int .i64 y,.agg #[.int .i64 4,.bool false]] w fun e w'=>e= .returned (.tuple #[.string ⟨#[84,101,118,101,116]⟩,.int .i64 (0)])/\Below w.heap.size w w':=by
 go_enter Tryo.func15,Tryz.ntmps15
 go_wp2_with fail
 refine(HC.out _ (Tab.below hT (by repeat(first|exact Below.refl _ _|assumption|(with_reducible refine bdrew ?_)|(with_reducible refine baa ?_ _)|(with_reducible refine bs ?_ (by first|exact Nat.le_refl _|omega|(simp;done)|(simp;omega)) _)|(with_reducible refine bt ?_ (by assumption))))) (Tab.below hL (by repeat(first|exact Below.refl _ _|assumption|(with_reducible refine bdrew ?_)|(with_reducible refine baa ?_ _)|(with_reducible refine bs ?_ (by first|exact Nat.le_refl _|omega|(simp;done)|(simp;omega)) _)|(with_reducible refine bt ?_ (by assumption)))))).mono ?_
 rintro e w1 ⟨rfl,hb1⟩
 obtain⟨hc1,hf1⟩:=bcell hb1
 have hz1:=hb1.size
 try simp at hz1
 have hs1x0:w.heap.size<w1.heap.size:=by omega
 have hs1x1:1<w1.heap.size:=by omega
 have g1x0:w1.cell? ⟨w.heap.size,0,none⟩=some (.int .i64 4):=cel hc1
 have g1x1:w1.cell? ⟨w.heap.size,1,none⟩=some (.bool false):=cel hc1
 have g1x2:w1.cell? ⟨1,3,none⟩=some (.string ⟨#[84,101,118,101,116]⟩):=cel hc1
 go_wp2_with fail
 refine(HL.out _).mono ?_
 rintro e w' ⟨rfl,rfl⟩
 go_wp2_with fail
 all_goals go_ret2
 all_goals refine⟨rfl, ?_⟩
 all_goals repeat(first|exact Below.refl _ _|assumption|(with_reducible refine bdrew ?_)|(with_reducible refine baa ?_ _)|(with_reducible refine bs ?_ (by first|exact Nat.le_refl _|omega|(simp;done)|(simp;omega)) _)|(with_reducible refine bt ?_ (by assumption)))
theorem name_Month_5(y v:Int)(lp:Bool)(w:World)(hT:Tab w 5 kevCells)(hL:Tab w 4 lenCells)(hlt:1<w.heap.size)(hN:w.cell? ⟨1,4,none⟩=some (.string ⟨#[83,104,101,118,97,116]⟩))(HC:Hid (∀w:World,Tab w 5 kevCells->Tab w 4 lenCells->Calls Tryo.prog 37 #[.int .i64 y,.agg #[.int .i64 5,.bool false]] w fun e w'=>e= .returned (.tuple #[.int .i64 (v),.int .i64 (0)])/\Below w.heap.size w w'))(HL:Hid (∀w:World,Calls Tryo.prog 38 #[.int .i64 y] w fun e w'=>e= .returned (.tuple #[.bool lp,.int .i64 0])/\w=w')):
  Calls Tryo.prog 15 #[.int .i64 y,.agg #[.int .i64 5,.bool false]] w fun e w'=>e= .returned (.tuple #[.string ⟨#[83,104,101,118,97,116]⟩,.int .i64 (0)])/\Below w.heap.size w w':=by
 go_enter Tryo.func15,Tryz.ntmps15
 go_wp2_with fail
 refine(HC.out _ (Tab.below hT (by repeat(first|exact Below.refl _ _|assumption|(with_reducible refine bdrew ?_)|(with_reducible refine baa ?_ _)|(with_reducible refine bs ?_ (by first|exact Nat.le_refl _|omega|(simp;done)|(simp;omega)) _)|(with_reducible refine bt ?_ (by assumption))))) (Tab.below hL (by repeat(first|exact Below.refl _ _|assumption|(with_reducible refine bdrew ?_)|(with_reducible refine baa ?_ _)|(with_reducible refine bs ?_ (by first|exact Nat.le_refl _|omega|(simp;done)|(simp;omega)) _)|(with_reducible refine bt ?_ (by assumption)))))).mono ?_
 rintro e w1 ⟨rfl,hb1⟩
 obtain⟨hc1,hf1⟩:=bcell hb1
 have hz1:=hb1.size
 try simp at hz1
 have hs1x0:w.heap.size<w1.heap.size:=by omega
 have hs1x1:1<w1.heap.size:=by omega
 have g1x0:w1.cell? ⟨w.heap.size,0,none⟩=some (.int .i64 5):=cel hc1
 have g1x1:w1.cell? ⟨w.heap.size,1,none⟩=some (.bool false):=cel hc1
 have g1x2:w1.cell? ⟨1,4,none⟩=some (.string ⟨#[83,104,101,118,97,116]⟩):=cel hc1
 go_wp2_with fail
 refine(HL.out _).mono ?_
 rintro e w' ⟨rfl,rfl⟩
 go_wp2_with fail
 all_goals go_ret2
 all_goals refine⟨rfl, ?_⟩
 all_goals repeat(first|exact Below.refl _ _|assumption|(with_reducible refine bdrew ?_)|(with_reducible refine baa ?_ _)|(with_reducible refine bs ?_ (by first|exact Nat.le_refl _|omega|(simp;done)|(simp;omega)) _)|(with_reducible refine bt ?_ (by assumption)))
theorem name_Month_6(y v:Int)(lp:Bool)(w:World)(hT:Tab w 5 kevCells)(hL:Tab w 4 lenCells)(hlt:1<w.heap.size)(hN:w.cell? ⟨1,5,none⟩=some (.string ⟨#[65,100,97,114]⟩))(HC:Hid (∀w:World,Tab w 5 kevCells->Tab w 4 lenCells->Calls Tryo.prog 37 #[.int .i64 y,.agg #[.int .i64 6,.bool false]] w fun e w'=>e= .returned (.tuple #[.int .i64 (v),.int .i64 (0)])/\Below w.heap.size w w'))(HL:Hid (∀w:World,Calls Tryo.prog 38 #[.int .i64 y] w fun e w'=>e= .returned (.tuple #[.bool lp,.int .i64 0])/\w=w'))(hlp:lp=false):
  Calls Tryo.prog 15 #[.int .i64 y,.agg #[.int .i64 6,.bool false]] w fun e w'=>e= .returned (.tuple #[.string ⟨#[65,100,97,114]⟩,.int .i64 (0)])/\Below w.heap.size w w':=by
 subst hlp
 go_enter Tryo.func15,Tryz.ntmps15
 go_wp2_with fail
 refine(HC.out _ (Tab.below hT (by repeat(first|exact Below.refl _ _|assumption|(with_reducible refine bdrew ?_)|(with_reducible refine baa ?_ _)|(with_reducible refine bs ?_ (by first|exact Nat.le_refl _|omega|(simp;done)|(simp;omega)) _)|(with_reducible refine bt ?_ (by assumption))))) (Tab.below hL (by repeat(first|exact Below.refl _ _|assumption|(with_reducible refine bdrew ?_)|(with_reducible refine baa ?_ _)|(with_reducible refine bs ?_ (by first|exact Nat.le_refl _|omega|(simp;done)|(simp;omega)) _)|(with_reducible refine bt ?_ (by assumption)))))).mono ?_
 rintro e w1 ⟨rfl,hb1⟩
 obtain⟨hc1,hf1⟩:=bcell hb1
 have hz1:=hb1.size
 try simp at hz1
 have hs1x0:w.heap.size<w1.heap.size:=by omega
 have hs1x1:1<w1.heap.size:=by omega
 have g1x0:w1.cell? ⟨w.heap.size,0,none⟩=some (.int .i64 6):=cel hc1
 have g1x1:w1.cell? ⟨w.heap.size,1,none⟩=some (.bool false):=cel hc1
 have g1x2:w1.cell? ⟨1,5,none⟩=some (.string ⟨#[65,100,97,114]⟩):=cel hc1
 go_wp2_with fail
 refine(HL.out _).mono ?_
 rintro e w' ⟨rfl,rfl⟩
 go_wp2_with fail
 all_goals go_ret2
 all_goals refine⟨rfl, ?_⟩
 all_goals repeat(first|exact Below.refl _ _|assumption|(with_reducible refine bdrew ?_)|(with_reducible refine baa ?_ _)|(with_reducible refine bs ?_ (by first|exact Nat.le_refl _|omega|(simp;done)|(simp;omega)) _)|(with_reducible refine bt ?_ (by assumption)))
theorem name_Month_7(y v:Int)(lp:Bool)(w:World)(hT:Tab w 5 kevCells)(hL:Tab w 4 lenCells)(hlt:1<w.heap.size)(hN:w.cell? ⟨1,6,none⟩=some (.string ⟨#[78,105,115,97,110]⟩))(HC:Hid (∀w:World,Tab w 5 kevCells->Tab w 4 lenCells->Calls Tryo.prog 37 #[.int .i64 y,.agg #[.int .i64 7,.bool false]] w fun e w'=>e= .returned (.tuple #[.int .i64 (v),.int .i64 (0)])/\Below w.heap.size w w'))(HL:Hid (∀w:World,Calls Tryo.prog 38 #[.int .i64 y] w fun e w'=>e= .returned (.tuple #[.bool lp,.int .i64 0])/\w=w')):
  Calls Tryo.prog 15 #[.int .i64 y,.agg #[.int .i64 7,.bool false]] w fun e w'=>e= .returned (.tuple #[.string ⟨#[78,105,115,97,110]⟩,.int .i64 (0)])/\Below w.heap.size w w':=by
 go_enter Tryo.func15,Tryz.ntmps15
 go_wp2_with fail
 refine(HC.out _ (Tab.below hT (by repeat(first|exact Below.refl _ _|assumption|(with_reducible refine bdrew ?_)|(with_reducible refine baa ?_ _)|(with_reducible refine bs ?_ (by first|exact Nat.le_refl _|omega|(simp;done)|(simp;omega)) _)|(with_reducible refine bt ?_ (by assumption))))) (Tab.below hL (by repeat(first|exact Below.refl _ _|assumption|(with_reducible refine bdrew ?_)|(with_reducible refine baa ?_ _)|(with_reducible refine bs ?_ (by first|exact Nat.le_refl _|omega|(simp;done)|(simp;omega)) _)|(with_reducible refine bt ?_ (by assumption)))))).mono ?_
 rintro e w1 ⟨rfl,hb1⟩
 obtain⟨hc1,hf1⟩:=bcell hb1
 have hz1:=hb1.size
 try simp at hz1
 have hs1x0:w.heap.size<w1.heap.size:=by omega
 have hs1x1:1<w1.heap.size:=by omega
 have g1x0:w1.cell? ⟨w.heap.size,0,none⟩=some (.int .i64 7):=cel hc1
 have g1x1:w1.cell? ⟨w.heap.size,1,none⟩=some (.bool false):=cel hc1
 have g1x2:w1.cell? ⟨1,6,none⟩=some (.string ⟨#[78,105,115,97,110]⟩):=cel hc1
 go_wp2_with fail
 refine(HL.out _).mono ?_
 rintro e w' ⟨rfl,rfl⟩
 go_wp2_with fail
 all_goals go_ret2
 all_goals refine⟨rfl, ?_⟩
 all_goals repeat(first|exact Below.refl _ _|assumption|(with_reducible refine bdrew ?_)|(with_reducible refine baa ?_ _)|(with_reducible refine bs ?_ (by first|exact Nat.le_refl _|omega|(simp;done)|(simp;omega)) _)|(with_reducible refine bt ?_ (by assumption)))
theorem name_Month_8(y v:Int)(lp:Bool)(w:World)(hT:Tab w 5 kevCells)(hL:Tab w 4 lenCells)(hlt:1<w.heap.size)(hN:w.cell? ⟨1,7,none⟩=some (.string ⟨#[73,121,97,114]⟩))(HC:Hid (∀w:World,Tab w 5 kevCells->Tab w 4 lenCells->Calls Tryo.prog 37 #[.int .i64 y,.agg #[.int .i64 8,.bool false]] w fun e w'=>e= .returned (.tuple #[.int .i64 (v),.int .i64 (0)])/\Below w.heap.size w w'))(HL:Hid (∀w:World,Calls Tryo.prog 38 #[.int .i64 y] w fun e w'=>e= .returned (.tuple #[.bool lp,.int .i64 0])/\w=w')):
  Calls Tryo.prog 15 #[.int .i64 y,.agg #[.int .i64 8,.bool false]] w fun e w'=>e= .returned (.tuple #[.string ⟨#[73,121,97,114]⟩,.int .i64 (0)])/\Below w.heap.size w w':=by
 go_enter Tryo.func15,Tryz.ntmps15
 go_wp2_with fail
 refine(HC.out _ (Tab.below hT (by repeat(first|exact Below.refl _ _|assumption|(with_reducible refine bdrew ?_)|(with_reducible refine baa ?_ _)|(with_reducible refine bs ?_ (by first|exact Nat.le_refl _|omega|(simp;done)|(simp;omega)) _)|(with_reducible refine bt ?_ (by assumption))))) (Tab.below hL (by repeat(first|exact Below.refl _ _|assumption|(with_reducible refine bdrew ?_)|(with_reducible refine baa ?_ _)|(with_reducible refine bs ?_ (by first|exact Nat.le_refl _|omega|(simp;done)|(simp;omega)) _)|(with_reducible refine bt ?_ (by assumption)))))).mono ?_
 rintro e w1 ⟨rfl,hb1⟩
 obtain⟨hc1,hf1⟩:=bcell hb1
 have hz1:=hb1.size
 try simp at hz1
 have hs1x0:w.heap.size<w1.heap.size:=by omega
 have hs1x1:1<w1.heap.size:=by omega
 have g1x0:w1.cell? ⟨w.heap.size,0,none⟩=some (.int .i64 8):=cel hc1
 have g1x1:w1.cell? ⟨w.heap.size,1,none⟩=some (.bool false):=cel hc1
 have g1x2:w1.cell? ⟨1,7,none⟩=some (.string ⟨#[73,121,97,114]⟩):=cel hc1
 go_wp2_with fail
 refine(HL.out _).mono ?_
 rintro e w' ⟨rfl,rfl⟩
 go_wp2_with fail
 all_goals go_ret2
 all_goals refine⟨rfl, ?_⟩
 all_goals repeat(first|exact Below.refl _ _|assumption|(with_reducible refine bdrew ?_)|(with_reducible refine baa ?_ _)|(with_reducible refine bs ?_ (by first|exact Nat.le_refl _|omega|(simp;done)|(simp;omega)) _)|(with_reducible refine bt ?_ (by assumption)))
theorem name_Month_9(y v:Int)(lp:Bool)(w:World)(hT:Tab w 5 kevCells)(hL:Tab w 4 lenCells)(hlt:1<w.heap.size)(hN:w.cell? ⟨1,8,none⟩=some (.string ⟨#[83,105,118,97,110]⟩))(HC:Hid (∀w:World,Tab w 5 kevCells->Tab w 4 lenCells->Calls Tryo.prog 37 #[.int .i64 y,.agg #[.int .i64 9,.bool false]] w fun e w'=>e= .returned (.tuple #[.int .i64 (v),.int .i64 (0)])/\Below w.heap.size w w'))(HL:Hid (∀w:World,Calls Tryo.prog 38 #[.int .i64 y] w fun e w'=>e= .returned (.tuple #[.bool lp,.int .i64 0])/\w=w')):
  Calls Tryo.prog 15 #[.int .i64 y,.agg #[.int .i64 9,.bool false]] w fun e w'=>e= .returned (.tuple #[.string ⟨#[83,105,118,97,110]⟩,.int .i64 (0)])/\Below w.heap.size w w':=by
 go_enter Tryo.func15,Tryz.ntmps15
 go_wp2_with fail
 refine(HC.out _ (Tab.below hT (by repeat(first|exact Below.refl _ _|assumption|(with_reducible refine bdrew ?_)|(with_reducible refine baa ?_ _)|(with_reducible refine bs ?_ (by first|exact Nat.le_refl _|omega|(simp;done)|(simp;omega)) _)|(with_reducible refine bt ?_ (by assumption))))) (Tab.below hL (by repeat(first|exact Below.refl _ _|assumption|(with_reducible refine bdrew ?_)|(with_reducible refine baa ?_ _)|(with_reducible refine bs ?_ (by first|exact Nat.le_refl _|omega|(simp;done)|(simp;omega)) _)|(with_reducible refine bt ?_ (by assumption)))))).mono ?_
 rintro e w1 ⟨rfl,hb1⟩
 obtain⟨hc1,hf1⟩:=bcell hb1
 have hz1:=hb1.size
 try simp at hz1
 have hs1x0:w.heap.size<w1.heap.size:=by omega
 have hs1x1:1<w1.heap.size:=by omega
 have g1x0:w1.cell? ⟨w.heap.size,0,none⟩=some (.int .i64 9):=cel hc1
 have g1x1:w1.cell? ⟨w.heap.size,1,none⟩=some (.bool false):=cel hc1
 have g1x2:w1.cell? ⟨1,8,none⟩=some (.string ⟨#[83,105,118,97,110]⟩):=cel hc1
 go_wp2_with fail
 refine(HL.out _).mono ?_
 rintro e w' ⟨rfl,rfl⟩
 go_wp2_with fail
 all_goals go_ret2
 all_goals refine⟨rfl, ?_⟩
 all_goals repeat(first|exact Below.refl _ _|assumption|(with_reducible refine bdrew ?_)|(with_reducible refine baa ?_ _)|(with_reducible refine bs ?_ (by first|exact Nat.le_refl _|omega|(simp;done)|(simp;omega)) _)|(with_reducible refine bt ?_ (by assumption)))
theorem name_Month_10(y v:Int)(lp:Bool)(w:World)(hT:Tab w 5 kevCells)(hL:Tab w 4 lenCells)(hlt:1<w.heap.size)(hN:w.cell? ⟨1,9,none⟩=some (.string ⟨#[84,97,109,109,117,122]⟩))(HC:Hid (∀w:World,Tab w 5 kevCells->Tab w 4 lenCells->Calls Tryo.prog 37 #[.int .i64 y,.agg #[.int .i64 10,.bool false]] w fun e w'=>e= .returned (.tuple #[.int .i64 (v),.int .i64 (0)])/\Below w.heap.size w w'))(HL:Hid (∀w:World,Calls Tryo.prog 38 #[.int .i64 y] w fun e w'=>e= .returned (.tuple #[.bool lp,.int .i64 0])/\w=w')):
  Calls Tryo.prog 15 #[.int .i64 y,.agg #[.int .i64 10,.bool false]] w fun e w'=>e= .returned (.tuple #[.string ⟨#[84,97,109,109,117,122]⟩,.int .i64 (0)])/\Below w.heap.size w w':=by
 go_enter Tryo.func15,Tryz.ntmps15
 go_wp2_with fail
 refine(HC.out _ (Tab.below hT (by repeat(first|exact Below.refl _ _|assumption|(with_reducible refine bdrew ?_)|(with_reducible refine baa ?_ _)|(with_reducible refine bs ?_ (by first|exact Nat.le_refl _|omega|(simp;done)|(simp;omega)) _)|(with_reducible refine bt ?_ (by assumption))))) (Tab.below hL (by repeat(first|exact Below.refl _ _|assumption|(with_reducible refine bdrew ?_)|(with_reducible refine baa ?_ _)|(with_reducible refine bs ?_ (by first|exact Nat.le_refl _|omega|(simp;done)|(simp;omega)) _)|(with_reducible refine bt ?_ (by assumption)))))).mono ?_
 rintro e w1 ⟨rfl,hb1⟩
 obtain⟨hc1,hf1⟩:=bcell hb1
 have hz1:=hb1.size
 try simp at hz1
 have hs1x0:w.heap.size<w1.heap.size:=by omega
 have hs1x1:1<w1.heap.size:=by omega
 have g1x0:w1.cell? ⟨w.heap.size,0,none⟩=some (.int .i64 10):=cel hc1
 have g1x1:w1.cell? ⟨w.heap.size,1,none⟩=some (.bool false):=cel hc1
 have g1x2:w1.cell? ⟨1,9,none⟩=some (.string ⟨#[84,97,109,109,117,122]⟩):=cel hc1
 go_wp2_with fail
 refine(HL.out _).mono ?_
 rintro e w' ⟨rfl,rfl⟩
 go_wp2_with fail
 all_goals go_ret2
 all_goals refine⟨rfl, ?_⟩
 all_goals repeat(first|exact Below.refl _ _|assumption|(with_reducible refine bdrew ?_)|(with_reducible refine baa ?_ _)|(with_reducible refine bs ?_ (by first|exact Nat.le_refl _|omega|(simp;done)|(simp;omega)) _)|(with_reducible refine bt ?_ (by assumption)))
theorem name_Month_11(y v:Int)(lp:Bool)(w:World)(hT:Tab w 5 kevCells)(hL:Tab w 4 lenCells)(hlt:1<w.heap.size)(hN:w.cell? ⟨1,10,none⟩=some (.string ⟨#[65,118]⟩))(HC:Hid (∀w:World,Tab w 5 kevCells->Tab w 4 lenCells->Calls Tryo.prog 37 #[.int .i64 y,.agg #[.int .i64 11,.bool false]] w fun e w'=>e= .returned (.tuple #[.int .i64 (v),.int .i64 (0)])/\Below w.heap.size w w'))(HL:Hid (∀w:World,Calls Tryo.prog 38 #[.int .i64 y] w fun e w'=>e= .returned (.tuple #[.bool lp,.int .i64 0])/\w=w')):
  Calls Tryo.prog 15 #[.int .i64 y,.agg #[.int .i64 11,.bool false]] w fun e w'=>e= .returned (.tuple #[.string ⟨#[65,118]⟩,.int .i64 (0)])/\Below w.heap.size w w':=by
 go_enter Tryo.func15,Tryz.ntmps15
 go_wp2_with fail
 refine(HC.out _ (Tab.below hT (by repeat(first|exact Below.refl _ _|assumption|(with_reducible refine bdrew ?_)|(with_reducible refine baa ?_ _)|(with_reducible refine bs ?_ (by first|exact Nat.le_refl _|omega|(simp;done)|(simp;omega)) _)|(with_reducible refine bt ?_ (by assumption))))) (Tab.below hL (by repeat(first|exact Below.refl _ _|assumption|(with_reducible refine bdrew ?_)|(with_reducible refine baa ?_ _)|(with_reducible refine bs ?_ (by first|exact Nat.le_refl _|omega|(simp;done)|(simp;omega)) _)|(with_reducible refine bt ?_ (by assumption)))))).mono ?_
 rintro e w1 ⟨rfl,hb1⟩
 obtain⟨hc1,hf1⟩:=bcell hb1
 have hz1:=hb1.size
 try simp at hz1
 have hs1x0:w.heap.size<w1.heap.size:=by omega
 have hs1x1:1<w1.heap.size:=by omega
 have g1x0:w1.cell? ⟨w.heap.size,0,none⟩=some (.int .i64 11):=cel hc1
 have g1x1:w1.cell? ⟨w.heap.size,1,none⟩=some (.bool false):=cel hc1
 have g1x2:w1.cell? ⟨1,10,none⟩=some (.string ⟨#[65,118]⟩):=cel hc1
 go_wp2_with fail
 refine(HL.out _).mono ?_
 rintro e w' ⟨rfl,rfl⟩
 go_wp2_with fail
 all_goals go_ret2
 all_goals refine⟨rfl, ?_⟩
 all_goals repeat(first|exact Below.refl _ _|assumption|(with_reducible refine bdrew ?_)|(with_reducible refine baa ?_ _)|(with_reducible refine bs ?_ (by first|exact Nat.le_refl _|omega|(simp;done)|(simp;omega)) _)|(with_reducible refine bt ?_ (by assumption)))
theorem name_Month_12(y v:Int)(lp:Bool)(w:World)(hT:Tab w 5 kevCells)(hL:Tab w 4 lenCells)(hlt:1<w.heap.size)(hN:w.cell? ⟨1,11,none⟩=some (.string ⟨#[69,108,117,108]⟩))(HC:Hid (∀w:World,Tab w 5 kevCells->Tab w 4 lenCells->Calls Tryo.prog 37 #[.int .i64 y,.agg #[.int .i64 12,.bool false]] w fun e w'=>e= .returned (.tuple #[.int .i64 (v),.int .i64 (0)])/\Below w.heap.size w w'))(HL:Hid (∀w:World,Calls Tryo.prog 38 #[.int .i64 y] w fun e w'=>e= .returned (.tuple #[.bool lp,.int .i64 0])/\w=w')):
  Calls Tryo.prog 15 #[.int .i64 y,.agg #[.int .i64 12,.bool false]] w fun e w'=>e= .returned (.tuple #[.string ⟨#[69,108,117,108]⟩,.int .i64 (0)])/\Below w.heap.size w w':=by
 go_enter Tryo.func15,Tryz.ntmps15
 go_wp2_with fail
 refine(HC.out _ (Tab.below hT (by repeat(first|exact Below.refl _ _|assumption|(with_reducible refine bdrew ?_)|(with_reducible refine baa ?_ _)|(with_reducible refine bs ?_ (by first|exact Nat.le_refl _|omega|(simp;done)|(simp;omega)) _)|(with_reducible refine bt ?_ (by assumption))))) (Tab.below hL (by repeat(first|exact Below.refl _ _|assumption|(with_reducible refine bdrew ?_)|(with_reducible refine baa ?_ _)|(with_reducible refine bs ?_ (by first|exact Nat.le_refl _|omega|(simp;done)|(simp;omega)) _)|(with_reducible refine bt ?_ (by assumption)))))).mono ?_
 rintro e w1 ⟨rfl,hb1⟩
 obtain⟨hc1,hf1⟩:=bcell hb1
 have hz1:=hb1.size
 try simp at hz1
 have hs1x0:w.heap.size<w1.heap.size:=by omega
 have hs1x1:1<w1.heap.size:=by omega
 have g1x0:w1.cell? ⟨w.heap.size,0,none⟩=some (.int .i64 12):=cel hc1
 have g1x1:w1.cell? ⟨w.heap.size,1,none⟩=some (.bool false):=cel hc1
 have g1x2:w1.cell? ⟨1,11,none⟩=some (.string ⟨#[69,108,117,108]⟩):=cel hc1
 go_wp2_with fail
 refine(HL.out _).mono ?_
 rintro e w' ⟨rfl,rfl⟩
 go_wp2_with fail
 all_goals go_ret2
 all_goals refine⟨rfl, ?_⟩
 all_goals repeat(first|exact Below.refl _ _|assumption|(with_reducible refine bdrew ?_)|(with_reducible refine baa ?_ _)|(with_reducible refine bs ?_ (by first|exact Nat.le_refl _|omega|(simp;done)|(simp;omega)) _)|(with_reducible refine bt ?_ (by assumption)))
def nameV(y n:Int)(l:Bool):ByteArray:=if l then⟨#[65,100,97,114,32,73]⟩else if Cal.leap y&&decide (n=6)then⟨#[65,100,97,114,32,73,73]⟩else([⟨#[84,105,115,104,114,105]⟩,⟨#[72,101,115,104,118,97,110]⟩,⟨#[75,105,115,108,101,118]⟩,⟨#[84,101,118,101,116]⟩,⟨#[83,104,101,118,97,116]⟩,⟨#[65,100,97,114]⟩,⟨#[78,105,115,97,110]⟩,⟨#[73,121,97,114]⟩,⟨#[83,105,118,97,110]⟩,⟨#[84,97,109,109,117,122]⟩,⟨#[65,118]⟩,⟨#[69,108,117,108]⟩].getD (n-1).toNat ByteArray.empty)
theorem name_Month(y n:Int)(l:Bool)(w:World)(hy:I64 y)(hT:Tab w 5 kevCells)(hL:Tab w 4 lenCells)(hN:Tab w 1 nameCells):
  Calls Tryo.prog 15 #[.int .i64 y,.agg #[.int .i64 n,.bool l]] w fun e w'=>e= .returned (.tuple #[.string (if D10.lastE y n l=0 then nameV y n l else⟨#[]⟩),.int .i64 (D10.lastE y n l)])/\Below w.heap.size w w':=by
 have HC:=Lib.hid (fun w hT hL=>heb_Last y n l w hy hT hL)
 by_cases c:D10.lastE y n l=0
 ·obtain⟨y1,y2,hp,_⟩:=D10.last_date c
  rw [c]at HC
  rw [c,if_pos rfl]
  have HL:=Lib.hid (fun w=>cycle_Leap_ok y w (by omega) (by omega))
  cases l
  ·have hr:1<=n/\n<=12:=by
    simp [Cal.plOk,Cal.right]at hp;omega
   have hlt:=hN.lt
   have hn:n=1∨n=2∨n=3∨n=4∨n=5∨n=6∨n=7∨n=8∨n=9∨n=10∨n=11∨n=12:=by omega
   rcases hn with rfl|rfl|rfl|rfl|rfl|rfl|rfl|rfl|rfl|rfl|rfl|rfl
   ·rw [show nameV y 1 false=⟨#[84,105,115,104,114,105]⟩ by simp [nameV]]
    exact name_Month_1 y _ _ w hT hL hlt (hN.cell 0) HC HL
   ·rw [show nameV y 2 false=⟨#[72,101,115,104,118,97,110]⟩ by simp [nameV]]
    exact name_Month_2 y _ _ w hT hL hlt (hN.cell 1) HC HL
   ·rw [show nameV y 3 false=⟨#[75,105,115,108,101,118]⟩ by simp [nameV]]
    exact name_Month_3 y _ _ w hT hL hlt (hN.cell 2) HC HL
   ·rw [show nameV y 4 false=⟨#[84,101,118,101,116]⟩ by simp [nameV]]
    exact name_Month_4 y _ _ w hT hL hlt (hN.cell 3) HC HL
   ·rw [show nameV y 5 false=⟨#[83,104,101,118,97,116]⟩ by simp [nameV]]
    exact name_Month_5 y _ _ w hT hL hlt (hN.cell 4) HC HL
   ·cases hl:Cal.leap y
    ·rw [show nameV y 6 false=⟨#[65,100,97,114]⟩ by simp [nameV,hl]]
     rw [hl]at HL
     exact name_Month_6 y _ false w hT hL hlt (hN.cell 5) HC HL rfl
    ·rw [show nameV y 6 false=⟨#[65,100,97,114,32,73,73]⟩ by simp [nameV,hl]]
     rw [hl]at HL
     exact name_Month_II y _ w hT hL HC HL
   ·rw [show nameV y 7 false=⟨#[78,105,115,97,110]⟩ by simp [nameV]]
    exact name_Month_7 y _ _ w hT hL hlt (hN.cell 6) HC HL
   ·rw [show nameV y 8 false=⟨#[73,121,97,114]⟩ by simp [nameV]]
    exact name_Month_8 y _ _ w hT hL hlt (hN.cell 7) HC HL
   ·rw [show nameV y 9 false=⟨#[83,105,118,97,110]⟩ by simp [nameV]]
    exact name_Month_9 y _ _ w hT hL hlt (hN.cell 8) HC HL
   ·rw [show nameV y 10 false=⟨#[84,97,109,109,117,122]⟩ by simp [nameV]]
    exact name_Month_10 y _ _ w hT hL hlt (hN.cell 9) HC HL
   ·rw [show nameV y 11 false=⟨#[65,118]⟩ by simp [nameV]]
    exact name_Month_11 y _ _ w hT hL hlt (hN.cell 10) HC HL
   ·rw [show nameV y 12 false=⟨#[69,108,117,108]⟩ by simp [nameV]]
    exact name_Month_12 y _ _ w hT hL hlt (hN.cell 11) HC HL
  ·exact name_Month_I y n _ w hT hL HC
 ·rw [if_neg c]
  exact name_Month_err y n l _ _ w hT hL HC (by simpa using c)
end Go.Proofs.YthpipedifekmpaaGreatDoor
end
section
namespace Go.Proofs.YthpipedifekmpaaGreatDoor
open Go.ChangeShapes Go.WideShapes Go.ChangeAt Go.RowKit
theorem itoa_at(v:Int)(hv:I64 v)(w:World)(h:Lib.TabIs Tryo.prog w "internal/strconv.uint64pow10" .u64 Lib.pow10Tab):
  Calls Tryo.prog 16 #[.int .i64 v] w fun e w'=>e= .returned (.string ⟨(Lib.itoa v).toArray⟩)/\Below w.heap.size w w':=by
 refine(Tryz.strconv_Itoa v hv.1 hv.2 w h).mono ?_
 rintro e w1 ⟨rfl,k,os,rfl⟩
 exact⟨rfl,Lib.below_grow _ _ (Nat.le_refl _) _ _⟩
theorem pow_stays{w w':World}(h:Lib.TabIs Tryo.prog w "internal/strconv.uint64pow10" .u64 Lib.pow10Tab)(hb:Below w.heap.size w w'):Lib.TabIs Tryo.prog w' "internal/strconv.uint64pow10" .u64 Lib.pow10Tab:=
 Joins.tab_stays (g:=7) (by kernel_rfl) h hb (Nat.le_refl _)
theorem name_Print_err(y n:Int)(l:Bool)(d er:Int)(w:World)(hT:Tab w 5 kevCells)(hL:Tab w 4 lenCells)(HC:Hid (∀w:World,Tab w 5 kevCells->Tab w 4 lenCells->Calls Tryo.prog 9 #[.agg #[.int .i64 y,.int .i64 n,.bool l,.int .i64 d]] w fun e w'=>e= .returned (.int .i64 (er))/\Below w.heap.size w w'))(h:(er !=0)=true):
  Calls Tryo.prog 6 #[.agg #[.int .i64 y,.int .i64 n,.bool l,.int .i64 d]] w fun e w'=>e= .returned (.tuple #[.string ⟨#[]⟩,.int .i64 (er)])/\Below w.heap.size w w':=by
 go_enter Tryo.func6,Tryz.ntmps6
 go_wp2_with fail
 refine(HC.out _ (Tab.below hT (by repeat(first|exact Below.refl _ _|assumption|(with_reducible refine bdrew ?_)|(with_reducible refine baa ?_ _)|(with_reducible refine bs ?_ (by first|exact Nat.le_refl _|omega|(simp;done)|(simp;omega)) _)|(with_reducible refine bt ?_ (by assumption))))) (Tab.below hL (by repeat(first|exact Below.refl _ _|assumption|(with_reducible refine bdrew ?_)|(with_reducible refine baa ?_ _)|(with_reducible refine bs ?_ (by first|exact Nat.le_refl _|omega|(simp;done)|(simp;omega)) _)|(with_reducible refine bt ?_ (by assumption)))))).mono ?_
 rintro e w1 ⟨rfl,hb1⟩
 obtain⟨hc1,hf1⟩:=bcell hb1
 have hz1:=hb1.size
 try simp at hz1
 have hs1x0:w.heap.size<w1.heap.size:=by omega
 have g1x0:w1.cell? ⟨w.heap.size,0,none⟩=some (.int .i64 y):=cel hc1
 have g1x1:w1.cell? ⟨w.heap.size,1,none⟩=some (.int .i64 n):=cel hc1
 have g1x2:w1.cell? ⟨w.heap.size,2,none⟩=some (.bool l):=cel hc1
 have g1x3:w1.cell? ⟨w.heap.size,3,none⟩=some (.int .i64 d):=cel hc1
 go_wp2_with fail
 go_ret2
 refine⟨rfl, ?_⟩
 repeat(first|exact Below.refl _ _|assumption|(with_reducible refine bdrew ?_)|(with_reducible refine baa ?_ _)|(with_reducible refine bs ?_ (by first|exact Nat.le_refl _|omega|(simp;done)|(simp;omega)) _)|(with_reducible refine bt ?_ (by assumption)))
theorem name_Print_ok(y n:Int)(l:Bool)(d:Int)(sn sd sy:ByteArray)(w:World)(hT:Tab w 5 kevCells)(hL:Tab w 4 lenCells)(hN:Tab w 1 nameCells)(hI:Lib.TabIs Tryo.prog w "internal/strconv.uint64pow10" .u64 Lib.pow10Tab)(HC:Hid (∀w:World,Tab w 5 kevCells->Tab w 4 lenCells->Calls Tryo.prog 9 #[.agg #[.int .i64 y,.int .i64 n,.bool l,.int .i64 d]] w fun e w'=>e= .returned (.int .i64 (0))/\Below w.heap.size w w'))(HM:Hid (∀w:World,Tab w 5 kevCells->Tab w 4 lenCells->Tab w 1 nameCells->Calls Tryo.prog 15 #[.int .i64 y,.agg #[.int .i64 n,.bool l]] w fun e w'=>e= .returned (.tuple #[.string sn,.int .i64 0])/\Below w.heap.size w w'))(HD:Hid (∀w:World,Lib.TabIs Tryo.prog w "internal/strconv.uint64pow10" .u64 Lib.pow10Tab->Calls Tryo.prog 16 #[.int .i64 d] w fun e w'=>e= .returned (.string sd)/\Below w.heap.size w w'))(HY:Hid (∀w:World,Lib.TabIs Tryo.prog w "internal/strconv.uint64pow10" .u64 Lib.pow10Tab->Calls Tryo.prog 16 #[.int .i64 y] w fun e w'=>e= .returned (.string sy)/\Below w.heap.size w w'))(z1:sn.size<=100)(z2:sd.size<=100)(z3:sy.size<=100):
  Calls Tryo.prog 6 #[.agg #[.int .i64 y,.int .i64 n,.bool l,.int .i64 d]] w fun e w'=>e= .returned (.tuple #[.string (sd++⟨#[32]⟩++sn++⟨#[32]⟩++sy),.int .i64 (0)])/\Below w.heap.size w w':=by
 go_enter Tryo.func6,Tryz.ntmps6
 go_wp2_with fail
 refine(HC.out _ (Tab.below hT (by repeat(first|exact Below.refl _ _|assumption|(with_reducible refine bdrew ?_)|(with_reducible refine baa ?_ _)|(with_reducible refine bs ?_ (by first|exact Nat.le_refl _|omega|(simp;done)|(simp;omega)) _)|(with_reducible refine bt ?_ (by assumption))))) (Tab.below hL (by repeat(first|exact Below.refl _ _|assumption|(with_reducible refine bdrew ?_)|(with_reducible refine baa ?_ _)|(with_reducible refine bs ?_ (by first|exact Nat.le_refl _|omega|(simp;done)|(simp;omega)) _)|(with_reducible refine bt ?_ (by assumption)))))).mono ?_
 rintro e w1 ⟨rfl,hb1⟩
 obtain⟨hc1,hf1⟩:=bcell hb1
 have hz1:=hb1.size
 try simp at hz1
 have hs1x0:w.heap.size<w1.heap.size:=by omega
 have g1x0:w1.cell? ⟨w.heap.size,0,none⟩=some (.int .i64 y):=cel hc1
 have g1x1:w1.cell? ⟨w.heap.size,1,none⟩=some (.int .i64 n):=cel hc1
 have g1x2:w1.cell? ⟨w.heap.size,2,none⟩=some (.bool l):=cel hc1
 have g1x3:w1.cell? ⟨w.heap.size,3,none⟩=some (.int .i64 d):=cel hc1
 go_wp2_with fail
 refine(HM.out _ (Tab.below hT (by repeat(first|exact Below.refl _ _|assumption|(with_reducible refine bdrew ?_)|(with_reducible refine baa ?_ _)|(with_reducible refine bs ?_ (by first|exact Nat.le_refl _|omega|(simp;done)|(simp;omega)) _)|(with_reducible refine bt ?_ (by assumption))))) (Tab.below hL (by repeat(first|exact Below.refl _ _|assumption|(with_reducible refine bdrew ?_)|(with_reducible refine baa ?_ _)|(with_reducible refine bs ?_ (by first|exact Nat.le_refl _|omega|(simp;done)|(simp;omega)) _)|(with_reducible refine bt ?_ (by assumption))))) (Tab.below hN (by repeat(first|exact Below.refl _ _|assumption|(with_reducible refine bdrew ?_)|(with_reducible refine baa ?_ _)|(with_reducible refine bs ?_ (by first|exact Nat.le_refl _|omega|(simp;done)|(simp;omega)) _)|(with_reducible refine bt ?_ (by assumption)))))).mono ?_
 rintro e w2 ⟨rfl,hb2⟩
 obtain⟨hc2,hf2⟩:=bcell hb2
 have hz2:=hb2.size
 try simp at hz2
 have hs2x0:w.heap.size<w2.heap.size:=by omega
 have g2x0:w2.cell? ⟨w.heap.size,0,none⟩=some (.int .i64 y):=cel hc2
 have g2x1:w2.cell? ⟨w.heap.size,1,none⟩=some (.int .i64 n):=cel hc2
 have g2x2:w2.cell? ⟨w.heap.size,2,none⟩=some (.bool l):=cel hc2
 have g2x3:w2.cell? ⟨w.heap.size,3,none⟩=some (.int .i64 d):=cel hc2
 go_wp2_with fail
 have hW2:Below w.heap.size w w2:=bel
 refine wp_region_class (by kernel_rfl) (by kernel_rfl) (fun hall=> ?_)
 repeat(first|go_big_quiet_skip|(go_big_quiet_want;first|(refine quiet_load1 _ _ _ rfl rfl ?_ ?_ ?_;(focus (intro _;simp;done));(focus (first|assumption|omega|(simp;done)|(simp;omega)));apply Exists.intro;refine⟨?_, ?_⟩;assumption;go_simp;go_big_quiet_on)|(refine quiet_load2 _ _ _ _ rfl rfl ?_ ?_ ?_ ?_;(focus (intro _;simp;done));(focus (intro _;simp;done));(focus (first|assumption|omega|(simp;done)|(simp;omega)));apply Exists.intro;apply Exists.intro;refine⟨?_, ?_, ?_⟩;assumption;assumption;go_simp;go_big_quiet_on)|(refine quiet_load3 _ _ _ _ rfl rfl ?_ ?_ ?_ ?_;(focus (intro _;simp;done));(focus (intro _;simp;done));(focus (first|assumption|omega|(simp;done)|(simp;omega)));apply Exists.intro;apply Exists.intro;apply Exists.intro;refine⟨?_, ?_, ?_, ?_⟩;assumption;assumption;assumption;go_simp;go_big_quiet_on)|(refine quiet_load4 _ _ _ _ rfl rfl ?_ ?_ ?_ ?_;(focus (intro _;simp;done));(focus (intro _;simp;done));(focus (first|assumption|omega|(simp;done)|(simp;omega)));apply Exists.intro;apply Exists.intro;apply Exists.intro;apply Exists.intro;refine⟨?_, ?_, ?_, ?_, ?_⟩;assumption;assumption;assumption;assumption;go_simp;go_big_quiet_on)|(go_big_quiet_op;first|go_big_quiet_on|(apply Exists.intro;refine⟨fun x hx=> ?_, ?_⟩;(first|(with_reducible exact call_below hx (HD.out x (pow_stays hI (bt hW2 hx))))|(with_reducible exact call_below hx (HY.out x (pow_stays hI (bt hW2 hx))))|exact call_below hx (HD.out x (pow_stays hI (bt hW2 hx)))|exact call_below hx (HY.out x (pow_stays hI (bt hW2 hx))));go_big_quiet_on))))
 refine wpQuiet_nil ?_
 clear hall
 intro x3 hx3
 go_wp2_with fail
 go_ret2
 exact⟨rfl,bt hW2 hx3⟩
def wordsV(y n:Int)(l:Bool)(d:Int):ByteArray:=⟨(Lib.itoa d).toArray⟩++⟨#[32]⟩++nameV y n l++⟨#[32]⟩++⟨(Lib.itoa y).toArray⟩
theorem nameV_size(y n:Int)(l:Bool)(h:1<=n/\n<=12):(nameV y n l).size<=100:=by
 unfold nameV
 split
 ·decide
 ·split
  ·decide
  ·have hn:n=1∨n=2∨n=3∨n=4∨n=5∨n=6∨n=7∨n=8∨n=9∨n=10∨n=11∨n=12:=by omega
   rcases hn with rfl|rfl|rfl|rfl|rfl|rfl|rfl|rfl|rfl|rfl|rfl|rfl <;> decide
theorem name_Print(y n:Int)(l:Bool)(d:Int)(w:World)(hy:I64 y)(hd:I64 d)(hT:Tab w 5 kevCells)(hL:Tab w 4 lenCells)(hN:Tab w 1 nameCells)(hI:Lib.TabIs Tryo.prog w "internal/strconv.uint64pow10" .u64 Lib.pow10Tab):
  Calls Tryo.prog 6 #[.agg #[.int .i64 y,.int .i64 n,.bool l,.int .i64 d]] w fun e w'=>e= .returned (.tuple #[.string (if D10.dateE y n l d=0 then wordsV y n l d else⟨#[]⟩),.int .i64 (D10.dateE y n l d)])/\Below w.heap.size w w':=by
 have HC:=Lib.hid (fun w hT hL=>heb_Check y n l d w hy hT hL)
 by_cases c:D10.dateE y n l d=0
 ·rw [c]at HC
  rw [c,if_pos rfl]
  obtain⟨⟨y1,y2,_⟩,hp⟩:=D10.date_valid c
  have hL0:D10.lastE y n l=0:=by
   unfold D10.lastE
   rw [show Cal.yearIn y=true by simp [Cal.yearIn];omega,hp];rfl
  have HM:=Lib.hid (fun w hT hL hN=>name_Month y n l w hy hT hL hN)
  rw [hL0,if_pos rfl]at HM
  have hr:1<=n/\n<=12:=by
   simp [Cal.plOk,Cal.right]at hp;omega
  exact name_Print_ok y n l d _ _ _ w hT hL hN hI HC HM (Lib.hid (fun w h=>itoa_at d hd w h)) (Lib.hid (fun w h=>itoa_at y hy w h)) (nameV_size y n l hr)
   (by have:=Lib.itoa_length_le d hd.1 hd.2;simp [ByteArray.size];omega) (by have:=Lib.itoa_length_le y hy.1 hy.2;simp [ByteArray.size];omega)
 ·rw [if_neg c]
  exact name_Print_err y n l d _ w hT hL HC (by simpa using c)
end Go.Proofs.YthpipedifekmpaaGreatDoor
end
section
namespace Go.Proofs.YthpipedifekmpaaGreatDoor
open Go.ChangeShapes Go.WideShapes Go.ChangeAt Go.RowKit
theorem maxAt_of{w:World}(h:w.ShapedOpen Tryz.prog):∃m,MaxAt w m:=by
 obtain⟨m,hm⟩:=cell_of_shapedOpen_int (P:=Tryz.prog) (g:=3) (t:=3) (zero:= #[.int .i64 0]) (k:= .i64) h (of_decide_eq_true (by kernel_rfl)) (by kernel_rfl) rfl (by kernel_rfl) (by kernel_rfl) Tryz.underlying3
 refine⟨m,hm, ?_⟩
 by_cases c:3<w.heap.size
 ·exact c
 ·have e:w.heap[3]? =none:=by simp;omega
  simp [World.cell?,e]at hm
end Go.Proofs.YthpipedifekmpaaGreatDoor
end
section
namespace Go.Proofs.YthpipedifekmpaaGreatDoor
open Go.ChangeShapes Go.WideShapes Go.ChangeAt Go.RowKit
theorem run_map_look{P:Program}{w:World}(t kt et:TypeId)(b clock:Nat)(es:Array MapEntry)(s:ByteArray)(i:Nat)(v:Value)(ht:P.underlying t=some (.map kt et))(hk:P.underlying kt=some .string)
  (hb:w.heap[b]? =some (.map es clock)) (hf:Instr.findNow .string (.string s) es.toList 0=some (some (i,v))):
  (Instr.lookup t (.map (some b)) (.string s) true).run P w= .ok (.tuple #[v,.bool true]) w:=by
 have hc:∀e,(Instr.checkKey e 10000 kt (.string s)).run P w= .ok () w:=fun e=>MapKept.run_checkKey (k:= .string s) hk (by simp [MapKept.IsKey]) e 9999
 simp [Instr.lookup,run_underlying ht,MapKept.run_getObj_map hb,hc,MapKept.run_findKey hk hf,Result.andThen]
theorem run_map_none{P:Program}{w:World}(t kt et:TypeId)(b clock:Nat)(es:Array MapEntry)(s:ByteArray)(z:Value)(ht:P.underlying t=some (.map kt et))(hk:P.underlying kt=some .string)
  (hz:(zeroValue et).run P w= .ok z w)
  (hb:w.heap[b]? =some (.map es clock)) (hf:Instr.findNow .string (.string s) es.toList 0=some none):
  (Instr.lookup t (.map (some b)) (.string s) true).run P w= .ok (.tuple #[z,.bool false]) w:=by
 have hc:∀e,(Instr.checkKey e 10000 kt (.string s)).run P w= .ok () w:=fun e=>MapKept.run_checkKey (k:= .string s) hk (by simp [MapKept.IsKey]) e 9999
 simp [Instr.lookup,run_underlying ht,MapKept.run_getObj_map hb,hc,MapKept.run_findKey hk hf,hz,Result.andThen]
theorem cut_at(s sep:ByteArray)(m:Int)(w:World)(hs:s.size<4294967281)(hm:MaxAt w m):
  Calls Tryo.prog 21 #[.string s,.string sep] w fun e w'=>e= .returned (.tuple #[.string ⟨(Lib.cut s.data.toList sep.data.toList).1.toArray⟩,.string ⟨(Lib.cut s.data.toList sep.data.toList).2.1.toArray⟩,.bool (Lib.cut s.data.toList sep.data.toList).2.2])/\Below w.heap.size w w':=by
 refine(Tryz.strings_Cut s sep m w hs hm.1).mono ?_
 rintro e w1 ⟨he,n,rfl⟩
 exact⟨he,Joins.below_draws _ _ _⟩
theorem last_at(s:ByteArray)(w:World)(hs:s.size<=1000000):
  Calls Tryo.prog 22 #[.string s,.string ⟨#[32]⟩] w fun e w'=>e= .returned (.int .i64 (Go.Lib.lastIndexByte s 32))/\w=w':=
 (Tryz.strings_LastIndex_one s ⟨#[32]⟩ rfl (by omega) w).mono fun _ _ h=>⟨h.1,h.2.symm⟩
end Go.Proofs.YthpipedifekmpaaGreatDoor
end
section
namespace Go.Proofs.YthpipedifekmpaaGreatDoor
open Go.ChangeShapes Go.WideShapes Go.ChangeAt Go.RowKit
theorem name_Read_x(s fs rs:ByteArray)(fd:Bool)(m:Int)(w:World)(hT:Tab w 5 kevCells)(hL:Tab w 4 lenCells)(hN:Tab w 1 nameCells)(hm:MaxAt w m)
  (HU:Hid (∀w:World,MaxAt w m->Calls Tryo.prog 21 #[.string s,.string ⟨#[32]⟩] w fun e w'=>e= .returned (.tuple #[.string fs,.string rs,.bool fd])/\Below w.heap.size w w'))
  (HX:Hid (∀w:World,Calls Tryo.prog 22 #[.string rs,.string ⟨#[32]⟩] w fun e w'=>e= .returned (.int .i64 (-1))/\w=w'))
  :Calls Tryo.prog 8 #[.string s] w fun e w'=>e= .returned (.tuple #[.agg #[.int .i64 (0),.int .i64 (0),.bool (false),.int .i64 (0)],.int .i64 (5)])/\Below w.heap.size w w':=by
 go_enter Tryo.func8,Tryz.ntmps8
 go_wp2_with fail
 have hmA:=MaxAt.below hm (ba w (.cells #[.int .i64 0,.int .i64 0,.bool false,.int .i64 0] 25))
 refine(HU.out _ hmA).mono ?_
 rintro e w1 ⟨rfl,hb1⟩
 obtain⟨hc1,hf1⟩:=bcell hb1
 have hz1:=hb1.size
 try simp at hz1
 have hs1x0:w.heap.size<w1.heap.size:=by omega
 have g1x0:w1.cell? ⟨w.heap.size,0,none⟩=some (.int .i64 (0)):=cel hc1
 have g1x1:w1.cell? ⟨w.heap.size,1,none⟩=some (.int .i64 (0)):=cel hc1
 have g1x2:w1.cell? ⟨w.heap.size,2,none⟩=some (.bool (false)):=cel hc1
 have g1x3:w1.cell? ⟨w.heap.size,3,none⟩=some (.int .i64 (0)):=cel hc1
 have z1x0:w1.frozen? ⟨w.heap.size,0,none⟩=false:=(hf1 _ _ (by first|omega|(simp;done)|(simp;omega))).trans (by first|(with_reducible assumption)|(simp [go_sem];done)|(simp [go_sem, *];done))
 have z1x1:w1.frozen? ⟨w.heap.size,1,none⟩=false:=(hf1 _ _ (by first|omega|(simp;done)|(simp;omega))).trans (by first|(with_reducible assumption)|(simp [go_sem];done)|(simp [go_sem, *];done))
 have z1x2:w1.frozen? ⟨w.heap.size,2,none⟩=false:=(hf1 _ _ (by first|omega|(simp;done)|(simp;omega))).trans (by first|(with_reducible assumption)|(simp [go_sem];done)|(simp [go_sem, *];done))
 have z1x3:w1.frozen? ⟨w.heap.size,3,none⟩=false:=(hf1 _ _ (by first|omega|(simp;done)|(simp;omega))).trans (by first|(with_reducible assumption)|(simp [go_sem];done)|(simp [go_sem, *];done))
 clear hc1 hf1
 go_wp2_with fail
 refine(HX.out _).mono ?_
 rintro e w' ⟨rfl,rfl⟩
 go_wp2_with fail
 refine bodyPost_ret (v:= .tuple #[.agg #[.int .i64 (0),.int .i64 (0),.bool (false),.int .i64 (0)],.int .i64 (5)]) (by simp [results,Tryz.results8,go_sem, *]) rfl ⟨rfl, ?_⟩
 exact bel
theorem name_Read_s1(s fs rs:ByteArray)(fd:Bool)(k:Nat)(dd yy n:Int)(l:Bool)(o2 o3:Bool)(m:Int)(w:World)(hT:Tab w 5 kevCells)(hL:Tab w 4 lenCells)(hN:Tab w 1 nameCells)(hm:MaxAt w m)
  (HU:Hid (∀w:World,MaxAt w m->Calls Tryo.prog 21 #[.string s,.string ⟨#[32]⟩] w fun e w'=>e= .returned (.tuple #[.string fs,.string rs,.bool fd])/\Below w.heap.size w w'))
  (HX:Hid (∀w:World,Calls Tryo.prog 22 #[.string rs,.string ⟨#[32]⟩] w fun e w'=>e= .returned (.int .i64 (k:Int))/\w=w'))
  (k0:(0:Int)<=(k:Int)) (k1:(k:Int)<(rs.size:Int)) (k2:(k:Int)+1<=(rs.size:Int)) (hrs:rs.size<=1000000)
  (HD:Hid (∀w:World,Calls Tryo.prog 23 #[.string fs,.int .i64 2] w fun e w'=>e= .returned (.tuple #[.int .i64 dd,.bool false])/\w=w'))
  (HK:Hid (∀w:World,Tab w 1 nameCells->Calls Tryo.prog 24 #[] w fun e w'=>e= .returned (.map (some w.heap.size))/\w'.heap[w.heap.size]? =some (.map (codesAt 12) 14)/\Below w.heap.size w w'))
  (HL2:Hid (∀ (b:Nat) (w:World),w.heap[b]? =some (.map (codesAt 12) 14)->(Instr.lookup 58 (.map (some b)) (.string (rs.extract 0 k)) true).run Tryo.prog w= .ok (.tuple #[.agg #[.int .i64 n,.bool l],.bool o2]) w))
  (HY:Hid (∀w:World,Calls Tryo.prog 23 #[.string (rs.extract (k+1) rs.size),.int .i64 4] w fun e w'=>e= .returned (.tuple #[.int .i64 yy,.bool o3])/\w=w'))
  :Calls Tryo.prog 8 #[.string s] w fun e w'=>e= .returned (.tuple #[.agg #[.int .i64 (0),.int .i64 (0),.bool (false),.int .i64 (0)],.int .i64 (5)])/\Below w.heap.size w w':=by
 go_enter Tryo.func8,Tryz.ntmps8
 go_wp2_with fail
 have hmA:=MaxAt.below hm (ba w (.cells #[.int .i64 0,.int .i64 0,.bool false,.int .i64 0] 25))
 refine(HU.out _ hmA).mono ?_
 rintro e w1 ⟨rfl,hb1⟩
 obtain⟨hc1,hf1⟩:=bcell hb1
 have hz1:=hb1.size
 try simp at hz1
 have hs1x0:w.heap.size<w1.heap.size:=by omega
 have g1x0:w1.cell? ⟨w.heap.size,0,none⟩=some (.int .i64 (0)):=cel hc1
 have g1x1:w1.cell? ⟨w.heap.size,1,none⟩=some (.int .i64 (0)):=cel hc1
 have g1x2:w1.cell? ⟨w.heap.size,2,none⟩=some (.bool (false)):=cel hc1
 have g1x3:w1.cell? ⟨w.heap.size,3,none⟩=some (.int .i64 (0)):=cel hc1
 have z1x0:w1.frozen? ⟨w.heap.size,0,none⟩=false:=(hf1 _ _ (by first|omega|(simp;done)|(simp;omega))).trans (by first|(with_reducible assumption)|(simp [go_sem];done)|(simp [go_sem, *];done))
 have z1x1:w1.frozen? ⟨w.heap.size,1,none⟩=false:=(hf1 _ _ (by first|omega|(simp;done)|(simp;omega))).trans (by first|(with_reducible assumption)|(simp [go_sem];done)|(simp [go_sem, *];done))
 have z1x2:w1.frozen? ⟨w.heap.size,2,none⟩=false:=(hf1 _ _ (by first|omega|(simp;done)|(simp;omega))).trans (by first|(with_reducible assumption)|(simp [go_sem];done)|(simp [go_sem, *];done))
 have z1x3:w1.frozen? ⟨w.heap.size,3,none⟩=false:=(hf1 _ _ (by first|omega|(simp;done)|(simp;omega))).trans (by first|(with_reducible assumption)|(simp [go_sem];done)|(simp [go_sem, *];done))
 clear hc1 hf1
 go_wp2_with fail
 refine(HX.out _).mono ?_
 rintro e w' ⟨rfl,rfl⟩
 go_wp2_with fail
 go_region
 all_goals go_wp2_with fail
 all_goals(refine(HD.out _).mono ?_;rintro e w' ⟨rfl,rfl⟩)
 all_goals go_wp2_with fail
 all_goals(
  refine(HK.out _ (Tab.below hN bel)).mono ?_
  rintro e w2 ⟨rfl,hmp,hb2⟩
  obtain⟨hc2,hf2⟩:=bcell hb2
  have hz2:=hb2.size
  try simp at hz2
  have hs2x0:w.heap.size<w2.heap.size:=by omega
  have g2x0:w2.cell? ⟨w.heap.size,0,none⟩=some (.int .i64 (0)):=cel hc2
  have g2x1:w2.cell? ⟨w.heap.size,1,none⟩=some (.int .i64 (0)):=cel hc2
  have g2x2:w2.cell? ⟨w.heap.size,2,none⟩=some (.bool (false)):=cel hc2
  have g2x3:w2.cell? ⟨w.heap.size,3,none⟩=some (.int .i64 (0)):=cel hc2
  have z2x0:w2.frozen? ⟨w.heap.size,0,none⟩=false:=(hf2 _ _ (by first|omega|(simp;done)|(simp;omega))).trans (by first|(with_reducible assumption)|(simp [go_sem];done)|(simp [go_sem, *];done))
  have z2x1:w2.frozen? ⟨w.heap.size,1,none⟩=false:=(hf2 _ _ (by first|omega|(simp;done)|(simp;omega))).trans (by first|(with_reducible assumption)|(simp [go_sem];done)|(simp [go_sem, *];done))
  have z2x2:w2.frozen? ⟨w.heap.size,2,none⟩=false:=(hf2 _ _ (by first|omega|(simp;done)|(simp;omega))).trans (by first|(with_reducible assumption)|(simp [go_sem];done)|(simp [go_sem, *];done))
  have z2x3:w2.frozen? ⟨w.heap.size,3,none⟩=false:=(hf2 _ _ (by first|omega|(simp;done)|(simp;omega))).trans (by first|(with_reducible assumption)|(simp [go_sem];done)|(simp [go_sem, *];done))
  clear hc2 hf2
  have hlk:=HL2.out w1.heap.size w2 hmp
  have hq2:w1.heap.size<w2.heap.size:=by
   rcases Nat.lt_or_ge w1.heap.size w2.heap.size with c|c
   ·exact c
   ·have:w2.heap[w1.heap.size]? =none:=Array.getElem?_eq_none (by simpa using c)
    simp_all
  go_wp2_with fail
  clear hlk hmp hq2
 )
 all_goals(
  refine(HY.out _).mono ?_
  rintro e w' ⟨rfl,rfl⟩
  go_wp2_with fail
 )
 all_goals(
  refine bodyPost_ret (v:= .tuple #[.agg #[.int .i64 (0),.int .i64 (0),.bool (false),.int .i64 (0)],.int .i64 (5)]) (by simp [results,Tryz.results8,go_sem, *]) rfl ⟨rfl, ?_⟩
  exact bel
 )
theorem name_Read_s2(s fs rs:ByteArray)(fd:Bool)(k:Nat)(dd yy n:Int)(l:Bool)(o3:Bool)(m:Int)(w:World)(hT:Tab w 5 kevCells)(hL:Tab w 4 lenCells)(hN:Tab w 1 nameCells)(hm:MaxAt w m)
  (HU:Hid (∀w:World,MaxAt w m->Calls Tryo.prog 21 #[.string s,.string ⟨#[32]⟩] w fun e w'=>e= .returned (.tuple #[.string fs,.string rs,.bool fd])/\Below w.heap.size w w'))
  (HX:Hid (∀w:World,Calls Tryo.prog 22 #[.string rs,.string ⟨#[32]⟩] w fun e w'=>e= .returned (.int .i64 (k:Int))/\w=w'))
  (k0:(0:Int)<=(k:Int)) (k1:(k:Int)<(rs.size:Int)) (k2:(k:Int)+1<=(rs.size:Int)) (hrs:rs.size<=1000000)
  (HD:Hid (∀w:World,Calls Tryo.prog 23 #[.string fs,.int .i64 2] w fun e w'=>e= .returned (.tuple #[.int .i64 dd,.bool true])/\w=w'))
  (HK:Hid (∀w:World,Tab w 1 nameCells->Calls Tryo.prog 24 #[] w fun e w'=>e= .returned (.map (some w.heap.size))/\w'.heap[w.heap.size]? =some (.map (codesAt 12) 14)/\Below w.heap.size w w'))
  (HL2:Hid (∀ (b:Nat) (w:World),w.heap[b]? =some (.map (codesAt 12) 14)->(Instr.lookup 58 (.map (some b)) (.string (rs.extract 0 k)) true).run Tryo.prog w= .ok (.tuple #[.agg #[.int .i64 n,.bool l],.bool false]) w))
  (HY:Hid (∀w:World,Calls Tryo.prog 23 #[.string (rs.extract (k+1) rs.size),.int .i64 4] w fun e w'=>e= .returned (.tuple #[.int .i64 yy,.bool o3])/\w=w'))
  :Calls Tryo.prog 8 #[.string s] w fun e w'=>e= .returned (.tuple #[.agg #[.int .i64 (0),.int .i64 (0),.bool (false),.int .i64 (0)],.int .i64 (5)])/\Below w.heap.size w w':=by
 go_enter Tryo.func8,Tryz.ntmps8
 go_wp2_with fail
 have hmA:=MaxAt.below hm (ba w (.cells #[.int .i64 0,.int .i64 0,.bool false,.int .i64 0] 25))
 refine(HU.out _ hmA).mono ?_
 rintro e w1 ⟨rfl,hb1⟩
 obtain⟨hc1,hf1⟩:=bcell hb1
 have hz1:=hb1.size
 try simp at hz1
 have hs1x0:w.heap.size<w1.heap.size:=by omega
 have g1x0:w1.cell? ⟨w.heap.size,0,none⟩=some (.int .i64 (0)):=cel hc1
 have g1x1:w1.cell? ⟨w.heap.size,1,none⟩=some (.int .i64 (0)):=cel hc1
 have g1x2:w1.cell? ⟨w.heap.size,2,none⟩=some (.bool (false)):=cel hc1
 have g1x3:w1.cell? ⟨w.heap.size,3,none⟩=some (.int .i64 (0)):=cel hc1
 have z1x0:w1.frozen? ⟨w.heap.size,0,none⟩=false:=(hf1 _ _ (by first|omega|(simp;done)|(simp;omega))).trans (by first|(with_reducible assumption)|(simp [go_sem];done)|(simp [go_sem, *];done))
 have z1x1:w1.frozen? ⟨w.heap.size,1,none⟩=false:=(hf1 _ _ (by first|omega|(simp;done)|(simp;omega))).trans (by first|(with_reducible assumption)|(simp [go_sem];done)|(simp [go_sem, *];done))
 have z1x2:w1.frozen? ⟨w.heap.size,2,none⟩=false:=(hf1 _ _ (by first|omega|(simp;done)|(simp;omega))).trans (by first|(with_reducible assumption)|(simp [go_sem];done)|(simp [go_sem, *];done))
 have z1x3:w1.frozen? ⟨w.heap.size,3,none⟩=false:=(hf1 _ _ (by first|omega|(simp;done)|(simp;omega))).trans (by first|(with_reducible assumption)|(simp [go_sem];done)|(simp [go_sem, *];done))
 clear hc1 hf1
 go_wp2_with fail
 refine(HX.out _).mono ?_
 rintro e w' ⟨rfl,rfl⟩
 go_wp2_with fail
 go_region
 all_goals go_wp2_with fail
 all_goals(refine(HD.out _).mono ?_;rintro e w' ⟨rfl,rfl⟩)
 all_goals go_wp2_with fail
 all_goals(
  refine(HK.out _ (Tab.below hN bel)).mono ?_
  rintro e w2 ⟨rfl,hmp,hb2⟩
  obtain⟨hc2,hf2⟩:=bcell hb2
  have hz2:=hb2.size
  try simp at hz2
  have hs2x0:w.heap.size<w2.heap.size:=by omega
  have g2x0:w2.cell? ⟨w.heap.size,0,none⟩=some (.int .i64 (0)):=cel hc2
  have g2x1:w2.cell? ⟨w.heap.size,1,none⟩=some (.int .i64 (0)):=cel hc2
  have g2x2:w2.cell? ⟨w.heap.size,2,none⟩=some (.bool (false)):=cel hc2
  have g2x3:w2.cell? ⟨w.heap.size,3,none⟩=some (.int .i64 (0)):=cel hc2
  have z2x0:w2.frozen? ⟨w.heap.size,0,none⟩=false:=(hf2 _ _ (by first|omega|(simp;done)|(simp;omega))).trans (by first|(with_reducible assumption)|(simp [go_sem];done)|(simp [go_sem, *];done))
  have z2x1:w2.frozen? ⟨w.heap.size,1,none⟩=false:=(hf2 _ _ (by first|omega|(simp;done)|(simp;omega))).trans (by first|(with_reducible assumption)|(simp [go_sem];done)|(simp [go_sem, *];done))
  have z2x2:w2.frozen? ⟨w.heap.size,2,none⟩=false:=(hf2 _ _ (by first|omega|(simp;done)|(simp;omega))).trans (by first|(with_reducible assumption)|(simp [go_sem];done)|(simp [go_sem, *];done))
  have z2x3:w2.frozen? ⟨w.heap.size,3,none⟩=false:=(hf2 _ _ (by first|omega|(simp;done)|(simp;omega))).trans (by first|(with_reducible assumption)|(simp [go_sem];done)|(simp [go_sem, *];done))
  clear hc2 hf2
  have hlk:=HL2.out w1.heap.size w2 hmp
  have hq2:w1.heap.size<w2.heap.size:=by
   rcases Nat.lt_or_ge w1.heap.size w2.heap.size with c|c
   ·exact c
   ·have:w2.heap[w1.heap.size]? =none:=Array.getElem?_eq_none (by simpa using c)
    simp_all
  go_wp2_with fail
  clear hlk hmp hq2
 )
 all_goals(
  refine(HY.out _).mono ?_
  rintro e w' ⟨rfl,rfl⟩
  go_wp2_with fail
 )
 all_goals(
  refine bodyPost_ret (v:= .tuple #[.agg #[.int .i64 (0),.int .i64 (0),.bool (false),.int .i64 (0)],.int .i64 (5)]) (by simp [results,Tryz.results8,go_sem, *]) rfl ⟨rfl, ?_⟩
  exact bel
 )
theorem name_Read_s3(s fs rs:ByteArray)(fd:Bool)(k:Nat)(dd yy n:Int)(l:Bool)(m:Int)(w:World)(hT:Tab w 5 kevCells)(hL:Tab w 4 lenCells)(hN:Tab w 1 nameCells)(hm:MaxAt w m)
  (HU:Hid (∀w:World,MaxAt w m->Calls Tryo.prog 21 #[.string s,.string ⟨#[32]⟩] w fun e w'=>e= .returned (.tuple #[.string fs,.string rs,.bool fd])/\Below w.heap.size w w'))
  (HX:Hid (∀w:World,Calls Tryo.prog 22 #[.string rs,.string ⟨#[32]⟩] w fun e w'=>e= .returned (.int .i64 (k:Int))/\w=w'))
  (k0:(0:Int)<=(k:Int)) (k1:(k:Int)<(rs.size:Int)) (k2:(k:Int)+1<=(rs.size:Int)) (hrs:rs.size<=1000000)
  (HD:Hid (∀w:World,Calls Tryo.prog 23 #[.string fs,.int .i64 2] w fun e w'=>e= .returned (.tuple #[.int .i64 dd,.bool true])/\w=w'))
  (HK:Hid (∀w:World,Tab w 1 nameCells->Calls Tryo.prog 24 #[] w fun e w'=>e= .returned (.map (some w.heap.size))/\w'.heap[w.heap.size]? =some (.map (codesAt 12) 14)/\Below w.heap.size w w'))
  (HL2:Hid (∀ (b:Nat) (w:World),w.heap[b]? =some (.map (codesAt 12) 14)->(Instr.lookup 58 (.map (some b)) (.string (rs.extract 0 k)) true).run Tryo.prog w= .ok (.tuple #[.agg #[.int .i64 n,.bool l],.bool true]) w))
  (HY:Hid (∀w:World,Calls Tryo.prog 23 #[.string (rs.extract (k+1) rs.size),.int .i64 4] w fun e w'=>e= .returned (.tuple #[.int .i64 yy,.bool false])/\w=w'))
  :Calls Tryo.prog 8 #[.string s] w fun e w'=>e= .returned (.tuple #[.agg #[.int .i64 (0),.int .i64 (0),.bool (false),.int .i64 (0)],.int .i64 (5)])/\Below w.heap.size w w':=by
 go_enter Tryo.func8,Tryz.ntmps8
 go_wp2_with fail
 have hmA:=MaxAt.below hm (ba w (.cells #[.int .i64 0,.int .i64 0,.bool false,.int .i64 0] 25))
 refine(HU.out _ hmA).mono ?_
 rintro e w1 ⟨rfl,hb1⟩
 obtain⟨hc1,hf1⟩:=bcell hb1
 have hz1:=hb1.size
 try simp at hz1
 have hs1x0:w.heap.size<w1.heap.size:=by omega
 have g1x0:w1.cell? ⟨w.heap.size,0,none⟩=some (.int .i64 (0)):=cel hc1
 have g1x1:w1.cell? ⟨w.heap.size,1,none⟩=some (.int .i64 (0)):=cel hc1
 have g1x2:w1.cell? ⟨w.heap.size,2,none⟩=some (.bool (false)):=cel hc1
 have g1x3:w1.cell? ⟨w.heap.size,3,none⟩=some (.int .i64 (0)):=cel hc1
 have z1x0:w1.frozen? ⟨w.heap.size,0,none⟩=false:=(hf1 _ _ (by first|omega|(simp;done)|(simp;omega))).trans (by first|(with_reducible assumption)|(simp [go_sem];done)|(simp [go_sem, *];done))
 have z1x1:w1.frozen? ⟨w.heap.size,1,none⟩=false:=(hf1 _ _ (by first|omega|(simp;done)|(simp;omega))).trans (by first|(with_reducible assumption)|(simp [go_sem];done)|(simp [go_sem, *];done))
 have z1x2:w1.frozen? ⟨w.heap.size,2,none⟩=false:=(hf1 _ _ (by first|omega|(simp;done)|(simp;omega))).trans (by first|(with_reducible assumption)|(simp [go_sem];done)|(simp [go_sem, *];done))
 have z1x3:w1.frozen? ⟨w.heap.size,3,none⟩=false:=(hf1 _ _ (by first|omega|(simp;done)|(simp;omega))).trans (by first|(with_reducible assumption)|(simp [go_sem];done)|(simp [go_sem, *];done))
 clear hc1 hf1
 go_wp2_with fail
 refine(HX.out _).mono ?_
 rintro e w' ⟨rfl,rfl⟩
 go_wp2_with fail
 go_region
 all_goals go_wp2_with fail
 all_goals(refine(HD.out _).mono ?_;rintro e w' ⟨rfl,rfl⟩)
 all_goals go_wp2_with fail
 all_goals(
  refine(HK.out _ (Tab.below hN bel)).mono ?_
  rintro e w2 ⟨rfl,hmp,hb2⟩
  obtain⟨hc2,hf2⟩:=bcell hb2
  have hz2:=hb2.size
  try simp at hz2
  have hs2x0:w.heap.size<w2.heap.size:=by omega
  have g2x0:w2.cell? ⟨w.heap.size,0,none⟩=some (.int .i64 (0)):=cel hc2
  have g2x1:w2.cell? ⟨w.heap.size,1,none⟩=some (.int .i64 (0)):=cel hc2
  have g2x2:w2.cell? ⟨w.heap.size,2,none⟩=some (.bool (false)):=cel hc2
  have g2x3:w2.cell? ⟨w.heap.size,3,none⟩=some (.int .i64 (0)):=cel hc2
  have z2x0:w2.frozen? ⟨w.heap.size,0,none⟩=false:=(hf2 _ _ (by first|omega|(simp;done)|(simp;omega))).trans (by first|(with_reducible assumption)|(simp [go_sem];done)|(simp [go_sem, *];done))
  have z2x1:w2.frozen? ⟨w.heap.size,1,none⟩=false:=(hf2 _ _ (by first|omega|(simp;done)|(simp;omega))).trans (by first|(with_reducible assumption)|(simp [go_sem];done)|(simp [go_sem, *];done))
  have z2x2:w2.frozen? ⟨w.heap.size,2,none⟩=false:=(hf2 _ _ (by first|omega|(simp;done)|(simp;omega))).trans (by first|(with_reducible assumption)|(simp [go_sem];done)|(simp [go_sem, *];done))
  have z2x3:w2.frozen? ⟨w.heap.size,3,none⟩=false:=(hf2 _ _ (by first|omega|(simp;done)|(simp;omega))).trans (by first|(with_reducible assumption)|(simp [go_sem];done)|(simp [go_sem, *];done))
  clear hc2 hf2
  have hlk:=HL2.out w1.heap.size w2 hmp
  have hq2:w1.heap.size<w2.heap.size:=by
   rcases Nat.lt_or_ge w1.heap.size w2.heap.size with c|c
   ·exact c
   ·have:w2.heap[w1.heap.size]? =none:=Array.getElem?_eq_none (by simpa using c)
    simp_all
  go_wp2_with fail
  clear hlk hmp hq2
 )
 all_goals(
  refine(HY.out _).mono ?_
  rintro e w' ⟨rfl,rfl⟩
  go_wp2_with fail
 )
 all_goals(
  refine bodyPost_ret (v:= .tuple #[.agg #[.int .i64 (0),.int .i64 (0),.bool (false),.int .i64 (0)],.int .i64 (5)]) (by simp [results,Tryz.results8,go_sem, *]) rfl ⟨rfl, ?_⟩
  exact bel
 )
theorem name_Read_c(s fs rs:ByteArray)(fd:Bool)(k:Nat)(dd yy n:Int)(l:Bool)(er:Int)(m:Int)(w:World)(hT:Tab w 5 kevCells)(hL:Tab w 4 lenCells)(hN:Tab w 1 nameCells)(hm:MaxAt w m)
  (HU:Hid (∀w:World,MaxAt w m->Calls Tryo.prog 21 #[.string s,.string ⟨#[32]⟩] w fun e w'=>e= .returned (.tuple #[.string fs,.string rs,.bool fd])/\Below w.heap.size w w'))
  (HX:Hid (∀w:World,Calls Tryo.prog 22 #[.string rs,.string ⟨#[32]⟩] w fun e w'=>e= .returned (.int .i64 (k:Int))/\w=w'))
  (k0:(0:Int)<=(k:Int)) (k1:(k:Int)<(rs.size:Int)) (k2:(k:Int)+1<=(rs.size:Int)) (hrs:rs.size<=1000000)
  (HD:Hid (∀w:World,Calls Tryo.prog 23 #[.string fs,.int .i64 2] w fun e w'=>e= .returned (.tuple #[.int .i64 dd,.bool true])/\w=w'))
  (HK:Hid (∀w:World,Tab w 1 nameCells->Calls Tryo.prog 24 #[] w fun e w'=>e= .returned (.map (some w.heap.size))/\w'.heap[w.heap.size]? =some (.map (codesAt 12) 14)/\Below w.heap.size w w'))
  (HL2:Hid (∀ (b:Nat) (w:World),w.heap[b]? =some (.map (codesAt 12) 14)->(Instr.lookup 58 (.map (some b)) (.string (rs.extract 0 k)) true).run Tryo.prog w= .ok (.tuple #[.agg #[.int .i64 n,.bool l],.bool true]) w))
  (HY:Hid (∀w:World,Calls Tryo.prog 23 #[.string (rs.extract (k+1) rs.size),.int .i64 4] w fun e w'=>e= .returned (.tuple #[.int .i64 yy,.bool true])/\w=w'))
  (HC:Hid (∀w:World,Tab w 5 kevCells->Tab w 4 lenCells->Calls Tryo.prog 9 #[.agg #[.int .i64 (yy),.int .i64 (n),.bool (l),.int .i64 (dd)]] w fun e w'=>e= .returned (.int .i64 (er))/\Below w.heap.size w w'))
  (h0:(er !=0)=true)
  :Calls Tryo.prog 8 #[.string s] w fun e w'=>e= .returned (.tuple #[.agg #[.int .i64 (0),.int .i64 (0),.bool (false),.int .i64 (0)],.int .i64 (2)])/\Below w.heap.size w w':=by
 go_enter Tryo.func8,Tryz.ntmps8
 go_wp2_with fail
 have hmA:=MaxAt.below hm (ba w (.cells #[.int .i64 0,.int .i64 0,.bool false,.int .i64 0] 25))
 refine(HU.out _ hmA).mono ?_
 rintro e w1 ⟨rfl,hb1⟩
 obtain⟨hc1,hf1⟩:=bcell hb1
 have hz1:=hb1.size
 try simp at hz1
 have hs1x0:w.heap.size<w1.heap.size:=by omega
 have g1x0:w1.cell? ⟨w.heap.size,0,none⟩=some (.int .i64 (0)):=cel hc1
 have g1x1:w1.cell? ⟨w.heap.size,1,none⟩=some (.int .i64 (0)):=cel hc1
 have g1x2:w1.cell? ⟨w.heap.size,2,none⟩=some (.bool (false)):=cel hc1
 have g1x3:w1.cell? ⟨w.heap.size,3,none⟩=some (.int .i64 (0)):=cel hc1
 have z1x0:w1.frozen? ⟨w.heap.size,0,none⟩=false:=(hf1 _ _ (by first|omega|(simp;done)|(simp;omega))).trans (by first|(with_reducible assumption)|(simp [go_sem];done)|(simp [go_sem, *];done))
 have z1x1:w1.frozen? ⟨w.heap.size,1,none⟩=false:=(hf1 _ _ (by first|omega|(simp;done)|(simp;omega))).trans (by first|(with_reducible assumption)|(simp [go_sem];done)|(simp [go_sem, *];done))
 have z1x2:w1.frozen? ⟨w.heap.size,2,none⟩=false:=(hf1 _ _ (by first|omega|(simp;done)|(simp;omega))).trans (by first|(with_reducible assumption)|(simp [go_sem];done)|(simp [go_sem, *];done))
 have z1x3:w1.frozen? ⟨w.heap.size,3,none⟩=false:=(hf1 _ _ (by first|omega|(simp;done)|(simp;omega))).trans (by first|(with_reducible assumption)|(simp [go_sem];done)|(simp [go_sem, *];done))
 clear hc1 hf1
 go_wp2_with fail
 refine(HX.out _).mono ?_
 rintro e w' ⟨rfl,rfl⟩
 go_wp2_with fail
 go_region
 all_goals go_wp2_with fail
 all_goals(refine(HD.out _).mono ?_;rintro e w' ⟨rfl,rfl⟩)
 all_goals go_wp2_with fail
 all_goals(
  refine(HK.out _ (Tab.below hN bel)).mono ?_
  rintro e w2 ⟨rfl,hmp,hb2⟩
  obtain⟨hc2,hf2⟩:=bcell hb2
  have hz2:=hb2.size
  try simp at hz2
  have hs2x0:w.heap.size<w2.heap.size:=by omega
  have g2x0:w2.cell? ⟨w.heap.size,0,none⟩=some (.int .i64 (0)):=cel hc2
  have g2x1:w2.cell? ⟨w.heap.size,1,none⟩=some (.int .i64 (0)):=cel hc2
  have g2x2:w2.cell? ⟨w.heap.size,2,none⟩=some (.bool (false)):=cel hc2
  have g2x3:w2.cell? ⟨w.heap.size,3,none⟩=some (.int .i64 (0)):=cel hc2
  have z2x0:w2.frozen? ⟨w.heap.size,0,none⟩=false:=(hf2 _ _ (by first|omega|(simp;done)|(simp;omega))).trans (by first|(with_reducible assumption)|(simp [go_sem];done)|(simp [go_sem, *];done))
  have z2x1:w2.frozen? ⟨w.heap.size,1,none⟩=false:=(hf2 _ _ (by first|omega|(simp;done)|(simp;omega))).trans (by first|(with_reducible assumption)|(simp [go_sem];done)|(simp [go_sem, *];done))
  have z2x2:w2.frozen? ⟨w.heap.size,2,none⟩=false:=(hf2 _ _ (by first|omega|(simp;done)|(simp;omega))).trans (by first|(with_reducible assumption)|(simp [go_sem];done)|(simp [go_sem, *];done))
  have z2x3:w2.frozen? ⟨w.heap.size,3,none⟩=false:=(hf2 _ _ (by first|omega|(simp;done)|(simp;omega))).trans (by first|(with_reducible assumption)|(simp [go_sem];done)|(simp [go_sem, *];done))
  clear hc2 hf2
  have hlk:=HL2.out w1.heap.size w2 hmp
  have hq2:w1.heap.size<w2.heap.size:=by
   rcases Nat.lt_or_ge w1.heap.size w2.heap.size with c|c
   ·exact c
   ·have:w2.heap[w1.heap.size]? =none:=Array.getElem?_eq_none (by simpa using c)
    simp_all
  go_wp2_with fail
  clear hlk hmp hq2
 )
 all_goals(
  refine(HY.out _).mono ?_
  rintro e w' ⟨rfl,rfl⟩
  go_wp2_with fail
 )
 all_goals(
  have hq5:w.heap.size<w2.heap.size+1+1:=by omega
  refine(HC.out _ (Tab.below hT bel) (Tab.below hL bel)).mono ?_
  rintro e w3 ⟨rfl,hb3⟩
  obtain⟨hc3,hf3⟩:=bcell hb3
  have hz3:=hb3.size
  try simp at hz3
  have hs3x0:w.heap.size<w3.heap.size:=by omega
  have hs3x1:w2.heap.size<w3.heap.size:=by omega
  have hs3x2:(w2.heap.size+1)<w3.heap.size:=by omega
  have g3x0:w3.cell? ⟨w.heap.size,0,none⟩=some (.int .i64 (0)):=cel hc3
  have g3x1:w3.cell? ⟨w.heap.size,1,none⟩=some (.int .i64 (0)):=cel hc3
  have g3x2:w3.cell? ⟨w.heap.size,2,none⟩=some (.bool (false)):=cel hc3
  have g3x3:w3.cell? ⟨w.heap.size,3,none⟩=some (.int .i64 (0)):=cel hc3
  have g3x4:w3.cell? ⟨w2.heap.size,0,none⟩=some (.int .i64 (n)):=cel hc3
  have g3x5:w3.cell? ⟨w2.heap.size,1,none⟩=some (.bool (l)):=cel hc3
  have g3x6:w3.cell? ⟨(w2.heap.size+1),0,none⟩=some (.int .i64 (yy)):=cel hc3
  have g3x7:w3.cell? ⟨(w2.heap.size+1),1,none⟩=some (.int .i64 (n)):=cel hc3
  have g3x8:w3.cell? ⟨(w2.heap.size+1),2,none⟩=some (.bool (l)):=cel hc3
  have g3x9:w3.cell? ⟨(w2.heap.size+1),3,none⟩=some (.int .i64 (dd)):=cel hc3
  have z3x0:w3.frozen? ⟨w.heap.size,0,none⟩=false:=(hf3 _ _ (by first|omega|(simp;done)|(simp;omega))).trans (by first|(with_reducible assumption)|(simp [go_sem];done)|(simp [go_sem, *];done))
  have z3x1:w3.frozen? ⟨w.heap.size,1,none⟩=false:=(hf3 _ _ (by first|omega|(simp;done)|(simp;omega))).trans (by first|(with_reducible assumption)|(simp [go_sem];done)|(simp [go_sem, *];done))
  have z3x2:w3.frozen? ⟨w.heap.size,2,none⟩=false:=(hf3 _ _ (by first|omega|(simp;done)|(simp;omega))).trans (by first|(with_reducible assumption)|(simp [go_sem];done)|(simp [go_sem, *];done))
  have z3x3:w3.frozen? ⟨w.heap.size,3,none⟩=false:=(hf3 _ _ (by first|omega|(simp;done)|(simp;omega))).trans (by first|(with_reducible assumption)|(simp [go_sem];done)|(simp [go_sem, *];done))
  clear hc3 hf3
  go_wp2_with fail
 )
 all_goals(
  refine bodyPost_ret (v:= .tuple #[.agg #[.int .i64 (0),.int .i64 (0),.bool (false),.int .i64 (0)],.int .i64 (2)]) (by simp [results,Tryz.results8,go_sem, *]) rfl ⟨rfl, ?_⟩
  exact bel
 )
theorem name_Read_d(s fs rs:ByteArray)(fd:Bool)(k:Nat)(dd yy n:Int)(l:Bool)(sn:ByteArray)(me:Int)(m:Int)(w:World)(hT:Tab w 5 kevCells)(hL:Tab w 4 lenCells)(hN:Tab w 1 nameCells)(hm:MaxAt w m)
  (HU:Hid (∀w:World,MaxAt w m->Calls Tryo.prog 21 #[.string s,.string ⟨#[32]⟩] w fun e w'=>e= .returned (.tuple #[.string fs,.string rs,.bool fd])/\Below w.heap.size w w'))
  (HX:Hid (∀w:World,Calls Tryo.prog 22 #[.string rs,.string ⟨#[32]⟩] w fun e w'=>e= .returned (.int .i64 (k:Int))/\w=w'))
  (k0:(0:Int)<=(k:Int)) (k1:(k:Int)<(rs.size:Int)) (k2:(k:Int)+1<=(rs.size:Int)) (hrs:rs.size<=1000000)
  (HD:Hid (∀w:World,Calls Tryo.prog 23 #[.string fs,.int .i64 2] w fun e w'=>e= .returned (.tuple #[.int .i64 dd,.bool true])/\w=w'))
  (HK:Hid (∀w:World,Tab w 1 nameCells->Calls Tryo.prog 24 #[] w fun e w'=>e= .returned (.map (some w.heap.size))/\w'.heap[w.heap.size]? =some (.map (codesAt 12) 14)/\Below w.heap.size w w'))
  (HL2:Hid (∀ (b:Nat) (w:World),w.heap[b]? =some (.map (codesAt 12) 14)->(Instr.lookup 58 (.map (some b)) (.string (rs.extract 0 k)) true).run Tryo.prog w= .ok (.tuple #[.agg #[.int .i64 n,.bool l],.bool true]) w))
  (HY:Hid (∀w:World,Calls Tryo.prog 23 #[.string (rs.extract (k+1) rs.size),.int .i64 4] w fun e w'=>e= .returned (.tuple #[.int .i64 yy,.bool true])/\w=w'))
  (HC:Hid (∀w:World,Tab w 5 kevCells->Tab w 4 lenCells->Calls Tryo.prog 9 #[.agg #[.int .i64 (yy),.int .i64 (n),.bool (l),.int .i64 (dd)]] w fun e w'=>e= .returned (.int .i64 (0))/\Below w.heap.size w w'))
  (HM:Hid (∀w:World,Tab w 5 kevCells->Tab w 4 lenCells->Tab w 1 nameCells->Calls Tryo.prog 15 #[.int .i64 yy,.agg #[.int .i64 n,.bool l]] w fun e w'=>e= .returned (.tuple #[.string sn,.int .i64 me])/\Below w.heap.size w w'))
  (b1:(sn.toList==(rs.extract 0 k).toList)=false)
  (a1:((rs.extract 0 k).toList==(⟨#[65,100,97,114]⟩:ByteArray).toList)=false) (a2:((rs.extract 0 k).toList== [65,100,97,114])=false)
  :Calls Tryo.prog 8 #[.string s] w fun e w'=>e= .returned (.tuple #[.agg #[.int .i64 (0),.int .i64 (0),.bool (false),.int .i64 (0)],.int .i64 (2)])/\Below w.heap.size w w':=by
 go_enter Tryo.func8,Tryz.ntmps8
 go_wp2_with fail
 have hmA:=MaxAt.below hm (ba w (.cells #[.int .i64 0,.int .i64 0,.bool false,.int .i64 0] 25))
 refine(HU.out _ hmA).mono ?_
 rintro e w1 ⟨rfl,hb1⟩
 obtain⟨hc1,hf1⟩:=bcell hb1
 have hz1:=hb1.size
 try simp at hz1
 have hs1x0:w.heap.size<w1.heap.size:=by omega
 have g1x0:w1.cell? ⟨w.heap.size,0,none⟩=some (.int .i64 (0)):=cel hc1
 have g1x1:w1.cell? ⟨w.heap.size,1,none⟩=some (.int .i64 (0)):=cel hc1
 have g1x2:w1.cell? ⟨w.heap.size,2,none⟩=some (.bool (false)):=cel hc1
 have g1x3:w1.cell? ⟨w.heap.size,3,none⟩=some (.int .i64 (0)):=cel hc1
 have z1x0:w1.frozen? ⟨w.heap.size,0,none⟩=false:=(hf1 _ _ (by first|omega|(simp;done)|(simp;omega))).trans (by first|(with_reducible assumption)|(simp [go_sem];done)|(simp [go_sem, *];done))
 have z1x1:w1.frozen? ⟨w.heap.size,1,none⟩=false:=(hf1 _ _ (by first|omega|(simp;done)|(simp;omega))).trans (by first|(with_reducible assumption)|(simp [go_sem];done)|(simp [go_sem, *];done))
 have z1x2:w1.frozen? ⟨w.heap.size,2,none⟩=false:=(hf1 _ _ (by first|omega|(simp;done)|(simp;omega))).trans (by first|(with_reducible assumption)|(simp [go_sem];done)|(simp [go_sem, *];done))
 have z1x3:w1.frozen? ⟨w.heap.size,3,none⟩=false:=(hf1 _ _ (by first|omega|(simp;done)|(simp;omega))).trans (by first|(with_reducible assumption)|(simp [go_sem];done)|(simp [go_sem, *];done))
 clear hc1 hf1
 go_wp2_with fail
 refine(HX.out _).mono ?_
 rintro e w' ⟨rfl,rfl⟩
 go_wp2_with fail
 go_region
 all_goals go_wp2_with fail
 all_goals(refine(HD.out _).mono ?_;rintro e w' ⟨rfl,rfl⟩)
 all_goals go_wp2_with fail
 all_goals(
  refine(HK.out _ (Tab.below hN bel)).mono ?_
  rintro e w2 ⟨rfl,hmp,hb2⟩
  obtain⟨hc2,hf2⟩:=bcell hb2
  have hz2:=hb2.size
  try simp at hz2
  have hs2x0:w.heap.size<w2.heap.size:=by omega
  have g2x0:w2.cell? ⟨w.heap.size,0,none⟩=some (.int .i64 (0)):=cel hc2
  have g2x1:w2.cell? ⟨w.heap.size,1,none⟩=some (.int .i64 (0)):=cel hc2
  have g2x2:w2.cell? ⟨w.heap.size,2,none⟩=some (.bool (false)):=cel hc2
  have g2x3:w2.cell? ⟨w.heap.size,3,none⟩=some (.int .i64 (0)):=cel hc2
  have z2x0:w2.frozen? ⟨w.heap.size,0,none⟩=false:=(hf2 _ _ (by first|omega|(simp;done)|(simp;omega))).trans (by first|(with_reducible assumption)|(simp [go_sem];done)|(simp [go_sem, *];done))
  have z2x1:w2.frozen? ⟨w.heap.size,1,none⟩=false:=(hf2 _ _ (by first|omega|(simp;done)|(simp;omega))).trans (by first|(with_reducible assumption)|(simp [go_sem];done)|(simp [go_sem, *];done))
  have z2x2:w2.frozen? ⟨w.heap.size,2,none⟩=false:=(hf2 _ _ (by first|omega|(simp;done)|(simp;omega))).trans (by first|(with_reducible assumption)|(simp [go_sem];done)|(simp [go_sem, *];done))
  have z2x3:w2.frozen? ⟨w.heap.size,3,none⟩=false:=(hf2 _ _ (by first|omega|(simp;done)|(simp;omega))).trans (by first|(with_reducible assumption)|(simp [go_sem];done)|(simp [go_sem, *];done))
  clear hc2 hf2
  have hlk:=HL2.out w1.heap.size w2 hmp
  have hq2:w1.heap.size<w2.heap.size:=by
   rcases Nat.lt_or_ge w1.heap.size w2.heap.size with c|c
   ·exact c
   ·have:w2.heap[w1.heap.size]? =none:=Array.getElem?_eq_none (by simpa using c)
    simp_all
  go_wp2_with fail
  clear hlk hmp hq2
 )
 all_goals(
  refine(HY.out _).mono ?_
  rintro e w' ⟨rfl,rfl⟩
  go_wp2_with fail
 )
 all_goals(
  have hq5:w.heap.size<w2.heap.size+1+1:=by omega
  refine(HC.out _ (Tab.below hT bel) (Tab.below hL bel)).mono ?_
  rintro e w3 ⟨rfl,hb3⟩
  obtain⟨hc3,hf3⟩:=bcell hb3
  have hz3:=hb3.size
  try simp at hz3
  have hs3x0:w.heap.size<w3.heap.size:=by omega
  have hs3x1:w2.heap.size<w3.heap.size:=by omega
  have hs3x2:(w2.heap.size+1)<w3.heap.size:=by omega
  have g3x0:w3.cell? ⟨w.heap.size,0,none⟩=some (.int .i64 (0)):=cel hc3
  have g3x1:w3.cell? ⟨w.heap.size,1,none⟩=some (.int .i64 (0)):=cel hc3
  have g3x2:w3.cell? ⟨w.heap.size,2,none⟩=some (.bool (false)):=cel hc3
  have g3x3:w3.cell? ⟨w.heap.size,3,none⟩=some (.int .i64 (0)):=cel hc3
  have g3x4:w3.cell? ⟨w2.heap.size,0,none⟩=some (.int .i64 (n)):=cel hc3
  have g3x5:w3.cell? ⟨w2.heap.size,1,none⟩=some (.bool (l)):=cel hc3
  have g3x6:w3.cell? ⟨(w2.heap.size+1),0,none⟩=some (.int .i64 (yy)):=cel hc3
  have g3x7:w3.cell? ⟨(w2.heap.size+1),1,none⟩=some (.int .i64 (n)):=cel hc3
  have g3x8:w3.cell? ⟨(w2.heap.size+1),2,none⟩=some (.bool (l)):=cel hc3
  have g3x9:w3.cell? ⟨(w2.heap.size+1),3,none⟩=some (.int .i64 (dd)):=cel hc3
  have z3x0:w3.frozen? ⟨w.heap.size,0,none⟩=false:=(hf3 _ _ (by first|omega|(simp;done)|(simp;omega))).trans (by first|(with_reducible assumption)|(simp [go_sem];done)|(simp [go_sem, *];done))
  have z3x1:w3.frozen? ⟨w.heap.size,1,none⟩=false:=(hf3 _ _ (by first|omega|(simp;done)|(simp;omega))).trans (by first|(with_reducible assumption)|(simp [go_sem];done)|(simp [go_sem, *];done))
  have z3x2:w3.frozen? ⟨w.heap.size,2,none⟩=false:=(hf3 _ _ (by first|omega|(simp;done)|(simp;omega))).trans (by first|(with_reducible assumption)|(simp [go_sem];done)|(simp [go_sem, *];done))
  have z3x3:w3.frozen? ⟨w.heap.size,3,none⟩=false:=(hf3 _ _ (by first|omega|(simp;done)|(simp;omega))).trans (by first|(with_reducible assumption)|(simp [go_sem];done)|(simp [go_sem, *];done))
  clear hc3 hf3
  go_wp2_with fail
 )
 all_goals(
  refine(HM.out _ (Tab.below hT bel) (Tab.below hL bel) (Tab.below hN bel)).mono ?_
  rintro e w4 ⟨rfl,hb4⟩
  obtain⟨hc4,hf4⟩:=bcell hb4
  have hz4:=hb4.size
  try simp at hz4
  have hs4x0:w.heap.size<w4.heap.size:=by omega
  have hs4x1:w2.heap.size<w4.heap.size:=by omega
  have hs4x2:(w2.heap.size+1)<w4.heap.size:=by omega
  have g4x0:w4.cell? ⟨w.heap.size,0,none⟩=some (.int .i64 (0)):=cel hc4
  have g4x1:w4.cell? ⟨w.heap.size,1,none⟩=some (.int .i64 (0)):=cel hc4
  have g4x2:w4.cell? ⟨w.heap.size,2,none⟩=some (.bool (false)):=cel hc4
  have g4x3:w4.cell? ⟨w.heap.size,3,none⟩=some (.int .i64 (0)):=cel hc4
  have g4x4:w4.cell? ⟨w2.heap.size,0,none⟩=some (.int .i64 (n)):=cel hc4
  have g4x5:w4.cell? ⟨w2.heap.size,1,none⟩=some (.bool (l)):=cel hc4
  have g4x6:w4.cell? ⟨(w2.heap.size+1),0,none⟩=some (.int .i64 (yy)):=cel hc4
  have g4x7:w4.cell? ⟨(w2.heap.size+1),1,none⟩=some (.int .i64 (n)):=cel hc4
  have g4x8:w4.cell? ⟨(w2.heap.size+1),2,none⟩=some (.bool (l)):=cel hc4
  have g4x9:w4.cell? ⟨(w2.heap.size+1),3,none⟩=some (.int .i64 (dd)):=cel hc4
  have z4x0:w4.frozen? ⟨w.heap.size,0,none⟩=false:=(hf4 _ _ (by first|omega|(simp;done)|(simp;omega))).trans (by first|(with_reducible assumption)|(simp [go_sem];done)|(simp [go_sem, *];done))
  have z4x1:w4.frozen? ⟨w.heap.size,1,none⟩=false:=(hf4 _ _ (by first|omega|(simp;done)|(simp;omega))).trans (by first|(with_reducible assumption)|(simp [go_sem];done)|(simp [go_sem, *];done))
  have z4x2:w4.frozen? ⟨w.heap.size,2,none⟩=false:=(hf4 _ _ (by first|omega|(simp;done)|(simp;omega))).trans (by first|(with_reducible assumption)|(simp [go_sem];done)|(simp [go_sem, *];done))
  have z4x3:w4.frozen? ⟨w.heap.size,3,none⟩=false:=(hf4 _ _ (by first|omega|(simp;done)|(simp;omega))).trans (by first|(with_reducible assumption)|(simp [go_sem];done)|(simp [go_sem, *];done))
  clear hc4 hf4
  go_wp2_with fail
 )
 all_goals(
  refine bodyPost_ret (v:= .tuple #[.agg #[.int .i64 (0),.int .i64 (0),.bool (false),.int .i64 (0)],.int .i64 (2)]) (by simp [results,Tryz.results8,go_sem, *]) rfl ⟨rfl, ?_⟩
  exact bel
 )
theorem name_Read_e1(s fs rs:ByteArray)(fd:Bool)(k:Nat)(dd yy n:Int)(l:Bool)(me:Int)(m:Int)(w:World)(hT:Tab w 5 kevCells)(hL:Tab w 4 lenCells)(hN:Tab w 1 nameCells)(hm:MaxAt w m)
  (HU:Hid (∀w:World,MaxAt w m->Calls Tryo.prog 21 #[.string s,.string ⟨#[32]⟩] w fun e w'=>e= .returned (.tuple #[.string fs,.string rs,.bool fd])/\Below w.heap.size w w'))
  (HX:Hid (∀w:World,Calls Tryo.prog 22 #[.string rs,.string ⟨#[32]⟩] w fun e w'=>e= .returned (.int .i64 (k:Int))/\w=w'))
  (k0:(0:Int)<=(k:Int)) (k1:(k:Int)<(rs.size:Int)) (k2:(k:Int)+1<=(rs.size:Int)) (hrs:rs.size<=1000000)
  (HD:Hid (∀w:World,Calls Tryo.prog 23 #[.string fs,.int .i64 2] w fun e w'=>e= .returned (.tuple #[.int .i64 dd,.bool true])/\w=w'))
  (HK:Hid (∀w:World,Tab w 1 nameCells->Calls Tryo.prog 24 #[] w fun e w'=>e= .returned (.map (some w.heap.size))/\w'.heap[w.heap.size]? =some (.map (codesAt 12) 14)/\Below w.heap.size w w'))
  (HL2:Hid (∀ (b:Nat) (w:World),w.heap[b]? =some (.map (codesAt 12) 14)->(Instr.lookup 58 (.map (some b)) (.string (rs.extract 0 k)) true).run Tryo.prog w= .ok (.tuple #[.agg #[.int .i64 n,.bool l],.bool true]) w))
  (HY:Hid (∀w:World,Calls Tryo.prog 23 #[.string (rs.extract (k+1) rs.size),.int .i64 4] w fun e w'=>e= .returned (.tuple #[.int .i64 yy,.bool true])/\w=w'))
  (HC:Hid (∀w:World,Tab w 5 kevCells->Tab w 4 lenCells->Calls Tryo.prog 9 #[.agg #[.int .i64 (yy),.int .i64 (n),.bool (l),.int .i64 (dd)]] w fun e w'=>e= .returned (.int .i64 (0))/\Below w.heap.size w w'))
  (HM:Hid (∀w:World,Tab w 5 kevCells->Tab w 4 lenCells->Tab w 1 nameCells->Calls Tryo.prog 15 #[.int .i64 yy,.agg #[.int .i64 n,.bool l]] w fun e w'=>e= .returned (.tuple #[.string (rs.extract 0 k),.int .i64 me])/\Below w.heap.size w w'))
  :Calls Tryo.prog 8 #[.string s] w fun e w'=>e= .returned (.tuple #[.agg #[.int .i64 (yy),.int .i64 (n),.bool (l),.int .i64 (dd)],.int .i64 (0)])/\Below w.heap.size w w':=by
 go_enter Tryo.func8,Tryz.ntmps8
 go_wp2_with fail
 have hmA:=MaxAt.below hm (ba w (.cells #[.int .i64 0,.int .i64 0,.bool false,.int .i64 0] 25))
 refine(HU.out _ hmA).mono ?_
 rintro e w1 ⟨rfl,hb1⟩
 obtain⟨hc1,hf1⟩:=bcell hb1
 have hz1:=hb1.size
 try simp at hz1
 have hs1x0:w.heap.size<w1.heap.size:=by omega
 have g1x0:w1.cell? ⟨w.heap.size,0,none⟩=some (.int .i64 (0)):=cel hc1
 have g1x1:w1.cell? ⟨w.heap.size,1,none⟩=some (.int .i64 (0)):=cel hc1
 have g1x2:w1.cell? ⟨w.heap.size,2,none⟩=some (.bool (false)):=cel hc1
 have g1x3:w1.cell? ⟨w.heap.size,3,none⟩=some (.int .i64 (0)):=cel hc1
 have z1x0:w1.frozen? ⟨w.heap.size,0,none⟩=false:=(hf1 _ _ (by first|omega|(simp;done)|(simp;omega))).trans (by first|(with_reducible assumption)|(simp [go_sem];done)|(simp [go_sem, *];done))
 have z1x1:w1.frozen? ⟨w.heap.size,1,none⟩=false:=(hf1 _ _ (by first|omega|(simp;done)|(simp;omega))).trans (by first|(with_reducible assumption)|(simp [go_sem];done)|(simp [go_sem, *];done))
 have z1x2:w1.frozen? ⟨w.heap.size,2,none⟩=false:=(hf1 _ _ (by first|omega|(simp;done)|(simp;omega))).trans (by first|(with_reducible assumption)|(simp [go_sem];done)|(simp [go_sem, *];done))
 have z1x3:w1.frozen? ⟨w.heap.size,3,none⟩=false:=(hf1 _ _ (by first|omega|(simp;done)|(simp;omega))).trans (by first|(with_reducible assumption)|(simp [go_sem];done)|(simp [go_sem, *];done))
 clear hc1 hf1
 go_wp2_with fail
 refine(HX.out _).mono ?_
 rintro e w' ⟨rfl,rfl⟩
 go_wp2_with fail
 go_region
 all_goals go_wp2_with fail
 all_goals(refine(HD.out _).mono ?_;rintro e w' ⟨rfl,rfl⟩)
 all_goals go_wp2_with fail
 all_goals(
  refine(HK.out _ (Tab.below hN bel)).mono ?_
  rintro e w2 ⟨rfl,hmp,hb2⟩
  obtain⟨hc2,hf2⟩:=bcell hb2
  have hz2:=hb2.size
  try simp at hz2
  have hs2x0:w.heap.size<w2.heap.size:=by omega
  have g2x0:w2.cell? ⟨w.heap.size,0,none⟩=some (.int .i64 (0)):=cel hc2
  have g2x1:w2.cell? ⟨w.heap.size,1,none⟩=some (.int .i64 (0)):=cel hc2
  have g2x2:w2.cell? ⟨w.heap.size,2,none⟩=some (.bool (false)):=cel hc2
  have g2x3:w2.cell? ⟨w.heap.size,3,none⟩=some (.int .i64 (0)):=cel hc2
  have z2x0:w2.frozen? ⟨w.heap.size,0,none⟩=false:=(hf2 _ _ (by first|omega|(simp;done)|(simp;omega))).trans (by first|(with_reducible assumption)|(simp [go_sem];done)|(simp [go_sem, *];done))
  have z2x1:w2.frozen? ⟨w.heap.size,1,none⟩=false:=(hf2 _ _ (by first|omega|(simp;done)|(simp;omega))).trans (by first|(with_reducible assumption)|(simp [go_sem];done)|(simp [go_sem, *];done))
  have z2x2:w2.frozen? ⟨w.heap.size,2,none⟩=false:=(hf2 _ _ (by first|omega|(simp;done)|(simp;omega))).trans (by first|(with_reducible assumption)|(simp [go_sem];done)|(simp [go_sem, *];done))
  have z2x3:w2.frozen? ⟨w.heap.size,3,none⟩=false:=(hf2 _ _ (by first|omega|(simp;done)|(simp;omega))).trans (by first|(with_reducible assumption)|(simp [go_sem];done)|(simp [go_sem, *];done))
  clear hc2 hf2
  have hlk:=HL2.out w1.heap.size w2 hmp
  have hq2:w1.heap.size<w2.heap.size:=by
   rcases Nat.lt_or_ge w1.heap.size w2.heap.size with c|c
   ·exact c
   ·have:w2.heap[w1.heap.size]? =none:=Array.getElem?_eq_none (by simpa using c)
    simp_all
  go_wp2_with fail
  clear hlk hmp hq2
 )
 all_goals(
  refine(HY.out _).mono ?_
  rintro e w' ⟨rfl,rfl⟩
  go_wp2_with fail
 )
 all_goals(
  have hq5:w.heap.size<w2.heap.size+1+1:=by omega
  refine(HC.out _ (Tab.below hT bel) (Tab.below hL bel)).mono ?_
  rintro e w3 ⟨rfl,hb3⟩
  obtain⟨hc3,hf3⟩:=bcell hb3
  have hz3:=hb3.size
  try simp at hz3
  have hs3x0:w.heap.size<w3.heap.size:=by omega
  have hs3x1:w2.heap.size<w3.heap.size:=by omega
  have hs3x2:(w2.heap.size+1)<w3.heap.size:=by omega
  have g3x0:w3.cell? ⟨w.heap.size,0,none⟩=some (.int .i64 (0)):=cel hc3
  have g3x1:w3.cell? ⟨w.heap.size,1,none⟩=some (.int .i64 (0)):=cel hc3
  have g3x2:w3.cell? ⟨w.heap.size,2,none⟩=some (.bool (false)):=cel hc3
  have g3x3:w3.cell? ⟨w.heap.size,3,none⟩=some (.int .i64 (0)):=cel hc3
  have g3x4:w3.cell? ⟨w2.heap.size,0,none⟩=some (.int .i64 (n)):=cel hc3
  have g3x5:w3.cell? ⟨w2.heap.size,1,none⟩=some (.bool (l)):=cel hc3
  have g3x6:w3.cell? ⟨(w2.heap.size+1),0,none⟩=some (.int .i64 (yy)):=cel hc3
  have g3x7:w3.cell? ⟨(w2.heap.size+1),1,none⟩=some (.int .i64 (n)):=cel hc3
  have g3x8:w3.cell? ⟨(w2.heap.size+1),2,none⟩=some (.bool (l)):=cel hc3
  have g3x9:w3.cell? ⟨(w2.heap.size+1),3,none⟩=some (.int .i64 (dd)):=cel hc3
  have z3x0:w3.frozen? ⟨w.heap.size,0,none⟩=false:=(hf3 _ _ (by first|omega|(simp;done)|(simp;omega))).trans (by first|(with_reducible assumption)|(simp [go_sem];done)|(simp [go_sem, *];done))
  have z3x1:w3.frozen? ⟨w.heap.size,1,none⟩=false:=(hf3 _ _ (by first|omega|(simp;done)|(simp;omega))).trans (by first|(with_reducible assumption)|(simp [go_sem];done)|(simp [go_sem, *];done))
  have z3x2:w3.frozen? ⟨w.heap.size,2,none⟩=false:=(hf3 _ _ (by first|omega|(simp;done)|(simp;omega))).trans (by first|(with_reducible assumption)|(simp [go_sem];done)|(simp [go_sem, *];done))
  have z3x3:w3.frozen? ⟨w.heap.size,3,none⟩=false:=(hf3 _ _ (by first|omega|(simp;done)|(simp;omega))).trans (by first|(with_reducible assumption)|(simp [go_sem];done)|(simp [go_sem, *];done))
  clear hc3 hf3
  go_wp2_with fail
 )
 all_goals(
  refine(HM.out _ (Tab.below hT bel) (Tab.below hL bel) (Tab.below hN bel)).mono ?_
  rintro e w4 ⟨rfl,hb4⟩
  obtain⟨hc4,hf4⟩:=bcell hb4
  have hz4:=hb4.size
  try simp at hz4
  have hs4x0:w.heap.size<w4.heap.size:=by omega
  have hs4x1:w2.heap.size<w4.heap.size:=by omega
  have hs4x2:(w2.heap.size+1)<w4.heap.size:=by omega
  have g4x0:w4.cell? ⟨w.heap.size,0,none⟩=some (.int .i64 (0)):=cel hc4
  have g4x1:w4.cell? ⟨w.heap.size,1,none⟩=some (.int .i64 (0)):=cel hc4
  have g4x2:w4.cell? ⟨w.heap.size,2,none⟩=some (.bool (false)):=cel hc4
  have g4x3:w4.cell? ⟨w.heap.size,3,none⟩=some (.int .i64 (0)):=cel hc4
  have g4x4:w4.cell? ⟨w2.heap.size,0,none⟩=some (.int .i64 (n)):=cel hc4
  have g4x5:w4.cell? ⟨w2.heap.size,1,none⟩=some (.bool (l)):=cel hc4
  have g4x6:w4.cell? ⟨(w2.heap.size+1),0,none⟩=some (.int .i64 (yy)):=cel hc4
  have g4x7:w4.cell? ⟨(w2.heap.size+1),1,none⟩=some (.int .i64 (n)):=cel hc4
  have g4x8:w4.cell? ⟨(w2.heap.size+1),2,none⟩=some (.bool (l)):=cel hc4
  have g4x9:w4.cell? ⟨(w2.heap.size+1),3,none⟩=some (.int .i64 (dd)):=cel hc4
  have z4x0:w4.frozen? ⟨w.heap.size,0,none⟩=false:=(hf4 _ _ (by first|omega|(simp;done)|(simp;omega))).trans (by first|(with_reducible assumption)|(simp [go_sem];done)|(simp [go_sem, *];done))
  have z4x1:w4.frozen? ⟨w.heap.size,1,none⟩=false:=(hf4 _ _ (by first|omega|(simp;done)|(simp;omega))).trans (by first|(with_reducible assumption)|(simp [go_sem];done)|(simp [go_sem, *];done))
  have z4x2:w4.frozen? ⟨w.heap.size,2,none⟩=false:=(hf4 _ _ (by first|omega|(simp;done)|(simp;omega))).trans (by first|(with_reducible assumption)|(simp [go_sem];done)|(simp [go_sem, *];done))
  have z4x3:w4.frozen? ⟨w.heap.size,3,none⟩=false:=(hf4 _ _ (by first|omega|(simp;done)|(simp;omega))).trans (by first|(with_reducible assumption)|(simp [go_sem];done)|(simp [go_sem, *];done))
  clear hc4 hf4
  go_wp2_with fail
 )
 all_goals(
  refine bodyPost_ret (v:= .tuple #[.agg #[.int .i64 (yy),.int .i64 (n),.bool (l),.int .i64 (dd)],.int .i64 (0)]) (by simp [results,Tryz.results8,go_sem, *]) rfl ⟨rfl, ?_⟩
  exact bel
 )
theorem name_Read_e2(s fs rs:ByteArray)(fd:Bool)(k:Nat)(dd yy n:Int)(l:Bool)(sn:ByteArray)(me:Int)(m:Int)(w:World)(hT:Tab w 5 kevCells)(hL:Tab w 4 lenCells)(hN:Tab w 1 nameCells)(hm:MaxAt w m)
  (HU:Hid (∀w:World,MaxAt w m->Calls Tryo.prog 21 #[.string s,.string ⟨#[32]⟩] w fun e w'=>e= .returned (.tuple #[.string fs,.string rs,.bool fd])/\Below w.heap.size w w'))
  (HX:Hid (∀w:World,Calls Tryo.prog 22 #[.string rs,.string ⟨#[32]⟩] w fun e w'=>e= .returned (.int .i64 (k:Int))/\w=w'))
  (k0:(0:Int)<=(k:Int)) (k1:(k:Int)<(rs.size:Int)) (k2:(k:Int)+1<=(rs.size:Int)) (hrs:rs.size<=1000000)
  (HD:Hid (∀w:World,Calls Tryo.prog 23 #[.string fs,.int .i64 2] w fun e w'=>e= .returned (.tuple #[.int .i64 dd,.bool true])/\w=w'))
  (HK:Hid (∀w:World,Tab w 1 nameCells->Calls Tryo.prog 24 #[] w fun e w'=>e= .returned (.map (some w.heap.size))/\w'.heap[w.heap.size]? =some (.map (codesAt 12) 14)/\Below w.heap.size w w'))
  (HL2:Hid (∀ (b:Nat) (w:World),w.heap[b]? =some (.map (codesAt 12) 14)->(Instr.lookup 58 (.map (some b)) (.string (rs.extract 0 k)) true).run Tryo.prog w= .ok (.tuple #[.agg #[.int .i64 n,.bool l],.bool true]) w))
  (HY:Hid (∀w:World,Calls Tryo.prog 23 #[.string (rs.extract (k+1) rs.size),.int .i64 4] w fun e w'=>e= .returned (.tuple #[.int .i64 yy,.bool true])/\w=w'))
  (HC:Hid (∀w:World,Tab w 5 kevCells->Tab w 4 lenCells->Calls Tryo.prog 9 #[.agg #[.int .i64 (yy),.int .i64 (n),.bool (l),.int .i64 (dd)]] w fun e w'=>e= .returned (.int .i64 (0))/\Below w.heap.size w w'))
  (HM:Hid (∀w:World,Tab w 5 kevCells->Tab w 4 lenCells->Tab w 1 nameCells->Calls Tryo.prog 15 #[.int .i64 yy,.agg #[.int .i64 n,.bool l]] w fun e w'=>e= .returned (.tuple #[.string sn,.int .i64 me])/\Below w.heap.size w w'))
  (b1:(sn.toList==(rs.extract 0 k).toList)=false)
  (a1:((rs.extract 0 k).toList==(⟨#[65,100,97,114]⟩:ByteArray).toList)=true) (a2:((rs.extract 0 k).toList== [65,100,97,114])=true)
  :Calls Tryo.prog 8 #[.string s] w fun e w'=>e= .returned (.tuple #[.agg #[.int .i64 (yy),.int .i64 (n),.bool (l),.int .i64 (dd)],.int .i64 (0)])/\Below w.heap.size w w':=by
 go_enter Tryo.func8,Tryz.ntmps8
 go_wp2_with fail
 have hmA:=MaxAt.below hm (ba w (.cells #[.int .i64 0,.int .i64 0,.bool false,.int .i64 0] 25))
 refine(HU.out _ hmA).mono ?_
 rintro e w1 ⟨rfl,hb1⟩
 obtain⟨hc1,hf1⟩:=bcell hb1
 have hz1:=hb1.size
 try simp at hz1
 have hs1x0:w.heap.size<w1.heap.size:=by omega
 have g1x0:w1.cell? ⟨w.heap.size,0,none⟩=some (.int .i64 (0)):=cel hc1
 have g1x1:w1.cell? ⟨w.heap.size,1,none⟩=some (.int .i64 (0)):=cel hc1
 have g1x2:w1.cell? ⟨w.heap.size,2,none⟩=some (.bool (false)):=cel hc1
 have g1x3:w1.cell? ⟨w.heap.size,3,none⟩=some (.int .i64 (0)):=cel hc1
 have z1x0:w1.frozen? ⟨w.heap.size,0,none⟩=false:=(hf1 _ _ (by first|omega|(simp;done)|(simp;omega))).trans (by first|(with_reducible assumption)|(simp [go_sem];done)|(simp [go_sem, *];done))
 have z1x1:w1.frozen? ⟨w.heap.size,1,none⟩=false:=(hf1 _ _ (by first|omega|(simp;done)|(simp;omega))).trans (by first|(with_reducible assumption)|(simp [go_sem];done)|(simp [go_sem, *];done))
 have z1x2:w1.frozen? ⟨w.heap.size,2,none⟩=false:=(hf1 _ _ (by first|omega|(simp;done)|(simp;omega))).trans (by first|(with_reducible assumption)|(simp [go_sem];done)|(simp [go_sem, *];done))
 have z1x3:w1.frozen? ⟨w.heap.size,3,none⟩=false:=(hf1 _ _ (by first|omega|(simp;done)|(simp;omega))).trans (by first|(with_reducible assumption)|(simp [go_sem];done)|(simp [go_sem, *];done))
 clear hc1 hf1
 go_wp2_with fail
 refine(HX.out _).mono ?_
 rintro e w' ⟨rfl,rfl⟩
 go_wp2_with fail
 go_region
 all_goals go_wp2_with fail
 all_goals(refine(HD.out _).mono ?_;rintro e w' ⟨rfl,rfl⟩)
 all_goals go_wp2_with fail
 all_goals(
  refine(HK.out _ (Tab.below hN bel)).mono ?_
  rintro e w2 ⟨rfl,hmp,hb2⟩
  obtain⟨hc2,hf2⟩:=bcell hb2
  have hz2:=hb2.size
  try simp at hz2
  have hs2x0:w.heap.size<w2.heap.size:=by omega
  have g2x0:w2.cell? ⟨w.heap.size,0,none⟩=some (.int .i64 (0)):=cel hc2
  have g2x1:w2.cell? ⟨w.heap.size,1,none⟩=some (.int .i64 (0)):=cel hc2
  have g2x2:w2.cell? ⟨w.heap.size,2,none⟩=some (.bool (false)):=cel hc2
  have g2x3:w2.cell? ⟨w.heap.size,3,none⟩=some (.int .i64 (0)):=cel hc2
  have z2x0:w2.frozen? ⟨w.heap.size,0,none⟩=false:=(hf2 _ _ (by first|omega|(simp;done)|(simp;omega))).trans (by first|(with_reducible assumption)|(simp [go_sem];done)|(simp [go_sem, *];done))
  have z2x1:w2.frozen? ⟨w.heap.size,1,none⟩=false:=(hf2 _ _ (by first|omega|(simp;done)|(simp;omega))).trans (by first|(with_reducible assumption)|(simp [go_sem];done)|(simp [go_sem, *];done))
  have z2x2:w2.frozen? ⟨w.heap.size,2,none⟩=false:=(hf2 _ _ (by first|omega|(simp;done)|(simp;omega))).trans (by first|(with_reducible assumption)|(simp [go_sem];done)|(simp [go_sem, *];done))
  have z2x3:w2.frozen? ⟨w.heap.size,3,none⟩=false:=(hf2 _ _ (by first|omega|(simp;done)|(simp;omega))).trans (by first|(with_reducible assumption)|(simp [go_sem];done)|(simp [go_sem, *];done))
  clear hc2 hf2
  have hlk:=HL2.out w1.heap.size w2 hmp
  have hq2:w1.heap.size<w2.heap.size:=by
   rcases Nat.lt_or_ge w1.heap.size w2.heap.size with c|c
   ·exact c
   ·have:w2.heap[w1.heap.size]? =none:=Array.getElem?_eq_none (by simpa using c)
    simp_all
  go_wp2_with fail
  clear hlk hmp hq2
 )
 all_goals(
  refine(HY.out _).mono ?_
  rintro e w' ⟨rfl,rfl⟩
  go_wp2_with fail
 )
 all_goals(
  have hq5:w.heap.size<w2.heap.size+1+1:=by omega
  refine(HC.out _ (Tab.below hT bel) (Tab.below hL bel)).mono ?_
  rintro e w3 ⟨rfl,hb3⟩
  obtain⟨hc3,hf3⟩:=bcell hb3
  have hz3:=hb3.size
  try simp at hz3
  have hs3x0:w.heap.size<w3.heap.size:=by omega
  have hs3x1:w2.heap.size<w3.heap.size:=by omega
  have hs3x2:(w2.heap.size+1)<w3.heap.size:=by omega
  have g3x0:w3.cell? ⟨w.heap.size,0,none⟩=some (.int .i64 (0)):=cel hc3
  have g3x1:w3.cell? ⟨w.heap.size,1,none⟩=some (.int .i64 (0)):=cel hc3
  have g3x2:w3.cell? ⟨w.heap.size,2,none⟩=some (.bool (false)):=cel hc3
  have g3x3:w3.cell? ⟨w.heap.size,3,none⟩=some (.int .i64 (0)):=cel hc3
  have g3x4:w3.cell? ⟨w2.heap.size,0,none⟩=some (.int .i64 (n)):=cel hc3
  have g3x5:w3.cell? ⟨w2.heap.size,1,none⟩=some (.bool (l)):=cel hc3
  have g3x6:w3.cell? ⟨(w2.heap.size+1),0,none⟩=some (.int .i64 (yy)):=cel hc3
  have g3x7:w3.cell? ⟨(w2.heap.size+1),1,none⟩=some (.int .i64 (n)):=cel hc3
  have g3x8:w3.cell? ⟨(w2.heap.size+1),2,none⟩=some (.bool (l)):=cel hc3
  have g3x9:w3.cell? ⟨(w2.heap.size+1),3,none⟩=some (.int .i64 (dd)):=cel hc3
  have z3x0:w3.frozen? ⟨w.heap.size,0,none⟩=false:=(hf3 _ _ (by first|omega|(simp;done)|(simp;omega))).trans (by first|(with_reducible assumption)|(simp [go_sem];done)|(simp [go_sem, *];done))
  have z3x1:w3.frozen? ⟨w.heap.size,1,none⟩=false:=(hf3 _ _ (by first|omega|(simp;done)|(simp;omega))).trans (by first|(with_reducible assumption)|(simp [go_sem];done)|(simp [go_sem, *];done))
  have z3x2:w3.frozen? ⟨w.heap.size,2,none⟩=false:=(hf3 _ _ (by first|omega|(simp;done)|(simp;omega))).trans (by first|(with_reducible assumption)|(simp [go_sem];done)|(simp [go_sem, *];done))
  have z3x3:w3.frozen? ⟨w.heap.size,3,none⟩=false:=(hf3 _ _ (by first|omega|(simp;done)|(simp;omega))).trans (by first|(with_reducible assumption)|(simp [go_sem];done)|(simp [go_sem, *];done))
  clear hc3 hf3
  go_wp2_with fail
 )
 all_goals(
  refine(HM.out _ (Tab.below hT bel) (Tab.below hL bel) (Tab.below hN bel)).mono ?_
  rintro e w4 ⟨rfl,hb4⟩
  obtain⟨hc4,hf4⟩:=bcell hb4
  have hz4:=hb4.size
  try simp at hz4
  have hs4x0:w.heap.size<w4.heap.size:=by omega
  have hs4x1:w2.heap.size<w4.heap.size:=by omega
  have hs4x2:(w2.heap.size+1)<w4.heap.size:=by omega
  have g4x0:w4.cell? ⟨w.heap.size,0,none⟩=some (.int .i64 (0)):=cel hc4
  have g4x1:w4.cell? ⟨w.heap.size,1,none⟩=some (.int .i64 (0)):=cel hc4
  have g4x2:w4.cell? ⟨w.heap.size,2,none⟩=some (.bool (false)):=cel hc4
  have g4x3:w4.cell? ⟨w.heap.size,3,none⟩=some (.int .i64 (0)):=cel hc4
  have g4x4:w4.cell? ⟨w2.heap.size,0,none⟩=some (.int .i64 (n)):=cel hc4
  have g4x5:w4.cell? ⟨w2.heap.size,1,none⟩=some (.bool (l)):=cel hc4
  have g4x6:w4.cell? ⟨(w2.heap.size+1),0,none⟩=some (.int .i64 (yy)):=cel hc4
  have g4x7:w4.cell? ⟨(w2.heap.size+1),1,none⟩=some (.int .i64 (n)):=cel hc4
  have g4x8:w4.cell? ⟨(w2.heap.size+1),2,none⟩=some (.bool (l)):=cel hc4
  have g4x9:w4.cell? ⟨(w2.heap.size+1),3,none⟩=some (.int .i64 (dd)):=cel hc4
  have z4x0:w4.frozen? ⟨w.heap.size,0,none⟩=false:=(hf4 _ _ (by first|omega|(simp;done)|(simp;omega))).trans (by first|(with_reducible assumption)|(simp [go_sem];done)|(simp [go_sem, *];done))
  have z4x1:w4.frozen? ⟨w.heap.size,1,none⟩=false:=(hf4 _ _ (by first|omega|(simp;done)|(simp;omega))).trans (by first|(with_reducible assumption)|(simp [go_sem];done)|(simp [go_sem, *];done))
  have z4x2:w4.frozen? ⟨w.heap.size,2,none⟩=false:=(hf4 _ _ (by first|omega|(simp;done)|(simp;omega))).trans (by first|(with_reducible assumption)|(simp [go_sem];done)|(simp [go_sem, *];done))
  have z4x3:w4.frozen? ⟨w.heap.size,3,none⟩=false:=(hf4 _ _ (by first|omega|(simp;done)|(simp;omega))).trans (by first|(with_reducible assumption)|(simp [go_sem];done)|(simp [go_sem, *];done))
  clear hc4 hf4
  go_wp2_with fail
 )
 all_goals(
  refine bodyPost_ret (v:= .tuple #[.agg #[.int .i64 (yy),.int .i64 (n),.bool (l),.int .i64 (dd)],.int .i64 (0)]) (by simp [results,Tryz.results8,go_sem, *]) rfl ⟨rfl, ?_⟩
  exact bel
 )
end Go.Proofs.YthpipedifekmpaaGreatDoor
end
section
namespace Go.Proofs.YthpipedifekmpaaGreatDoor
open Go.ChangeShapes Go.WideShapes Go.ChangeAt Go.RowKit
namespace D14
theorem index_of:∀ (a r:List UInt8),(∀x∈a,¬ x=32)->Go.Lib.index (a++32 :: r) [32]=(a.length:Int)
 | [],r,_=>by simpa using Rep.index_same 32 r
 |x :: a,r,h=>by
  have ih:=index_of a r (fun y hy=>h y (List.mem_cons_of_mem _ hy))
  rw [List.cons_append,Rep.index_other _ _ _ (h x List.mem_cons_self),ih,if_neg (by simp),List.length_cons]
  omega
theorem index_none:∀ (a:List UInt8),(∀x∈a,¬ x=32)->Go.Lib.index a [32]= -1
 | [],_=>Rep.index_nil _
 |x :: a,h=>by
  have ih:=index_none a (fun y hy=>h y (List.mem_cons_of_mem _ hy))
  rw [Rep.index_other _ _ _ (h x List.mem_cons_self),ih];rfl
theorem cut_some(a r:List UInt8)(h:∀x∈a,¬ x=32):Go.Lib.cut (a++32 :: r) [32]=(a,r,true):=by
 unfold Go.Lib.cut
 rw [index_of a r h,if_pos (by omega)]
 simp
theorem cut_none(a:List UInt8)(h:∀x∈a,¬ x=32):Go.Lib.cut a [32]=(a,[],false):=by
 unfold Go.Lib.cut
 rw [index_none a h,if_neg (by omega)]
theorem split_first:∀l:List UInt8,(∃a r,l=a++32 :: r/\∀x∈a,¬ x=32)∨(∀x∈l,¬ x=32)
 | []=> .inr (by simp)
 | x :: l=>by
  by_cases c:x=32
  ·exact .inl ⟨[],l,by rw [c];rfl,by simp⟩
  ·rcases split_first l with ⟨a,r,rfl,h⟩|h
   ·exact .inl ⟨x :: a,r,rfl,by simpa [c]using h⟩
   ·exact .inr (by simpa [c]using h)
theorem split_last:∀l:List UInt8,(∃b c,l=b++32 :: c/\∀x∈c,¬ x=32)∨(∀x∈l,¬ x=32)
 | []=> .inr (by simp)
 | x :: l=>by
  rcases split_last l with ⟨b,c,rfl,h⟩|h
  ·exact .inl ⟨x :: b,c,rfl,h⟩
  ·by_cases e:x=32
   ·exact .inl ⟨[],l,by rw [e];rfl,h⟩
   ·exact .inr (by simpa [e]using h)
theorem get_at(l:List UInt8)(i:Nat)(h:i<l.length):(⟨l.toArray⟩:ByteArray).data[i]! =l[i]:=by
 show l.toArray[i]! =l[i]
 simp [h]
theorem last_some(b c:List UInt8)(h:∀x∈c,¬ x=32):Go.Lib.lastIndexByte ⟨(b++32 :: c).toArray⟩ 32=(b.length:Int):=by
 have hsz:(⟨(b++32 :: c).toArray⟩:ByteArray).size=b.length+1+c.length:=by simp [ByteArray.size];omega
 have hat:(b++32 :: c)[b.length]'(by simp)=32:=by simp
 rcases Go.Lib.lastIndexByte_spec ⟨(b++32 :: c).toArray⟩ 32 with ⟨_,e⟩|⟨i,hi,e,e1,e2⟩
 ·have:=e b.length (by rw [hsz];omega)
  rw [get_at _ _ (by simp),hat]at this
  exact absurd rfl this
 ·rw [e]
  rw [hsz]at hi e2
  rcases Nat.lt_trichotomy i b.length with g|g|g
  ·have:=e2 b.length g (by omega)
   rw [get_at _ _ (by simp),hat]at this
   exact absurd rfl this
  ·rw [g]
  ·rw [get_at _ _ (by simp;omega)]at e1
   have hx:(b++32 :: c)[i]'(by simp;omega)∈c:=by
    rw [List.getElem_append_right (by omega)]
    obtain⟨j,hj⟩:∃j,i-b.length=j+1:=⟨i-b.length-1,by omega⟩
    simp only [hj,List.getElem_cons_succ]
    exact List.getElem_mem _
   exact absurd (by rw [←UInt8.toNat_inj];show _=32;omega) (h _ hx)
theorem last_none(a:List UInt8)(h:∀x∈a,¬ x=32):Go.Lib.lastIndexByte ⟨a.toArray⟩ 32= -1:=by
 rcases Go.Lib.lastIndexByte_spec ⟨a.toArray⟩ 32 with ⟨e,_⟩|⟨i,hi,e,e1,e2⟩
 ·exact e
 ·have hi':i<a.length:=by simpa [ByteArray.size]using hi
  rw [get_at _ _ hi']at e1
  exact absurd (by rw [←UInt8.toNat_inj];show _=32;omega) (h _ (List.getElem_mem hi'))
theorem first_one{a a' r r':List UInt8}(h:∀x∈a,¬ x=32)(h':∀x∈a',¬ x=32)(e:a++32 :: r=a'++32 :: r'):a=a'/\r=r':=by
 have c:=cut_some a r h
 rw [e,cut_some a' r' h']at c
 simp only [Prod.mk.injEq]at c
 exact⟨c.1.symm,c.2.1.symm⟩
theorem last_one{b b' c c':List UInt8}(h:∀x∈c,¬ x=32)(h':∀x∈c',¬ x=32)(e:b++32 :: c=b'++32 :: c'):b=b'/\c=c':=by
 have g:=last_some b c h
 rw [e,last_some b' c' h']at g
 have hl:b'.length=b.length:=by omega
 have:=List.append_inj e hl.symm
 exact⟨this.1,by simpa using this.2⟩
theorem dig_ne{x:UInt8}(h:isDig x=true):¬ x=32:=by rintro rfl;revert h;decide
theorem dd_step{u:Nat}(h:¬ u<10):Go.Lib.decDigits u=Go.Lib.decDigits (u / 10)++ [UInt8.ofNat (48+u % 10)]:=by rw [Go.Lib.decDigits,dif_neg h]
theorem dd_one{u:Nat}(h:u<10):Go.Lib.decDigits u= [UInt8.ofNat (48+u)]:=Go.Lib.decDigits_one h
theorem dg(k:Nat)(h:k<10):isDig (UInt8.ofNat (48+k))=true/\((UInt8.ofNat (48+k)).toNat:Int)=48+k:=by
 have:(UInt8.ofNat (48+k)).toNat=48+k:=by simp;omega
 refine⟨by unfold isDig;rw [this];simp;omega,by omega⟩
theorem dd_all(u:Nat):(Go.Lib.decDigits u).all isDig=true:=by
 induction u using Nat.strongRecOn with
 |ind u ih=>
  by_cases h:u<10
  ·rw [dd_one h];show(isDig _&&true)=true;rw [(dg u h).1];rfl
  ·rw [dd_step h,List.all_append,ih (u / 10) (by omega)];show(true&&(isDig _&&true))=true;rw [(dg (u % 10) (by omega)).1];rfl
theorem dd_fold(u:Nat):numFold (Go.Lib.decDigits u)=u:=by
 induction u using Nat.strongRecOn with
 | ind u ih=>
  by_cases h:u<10
  ·rw [dd_one h]
   have:=(dg u h).2
   simp [numFold];omega
  ·rw [dd_step h,numFold_snoc,ih (u / 10) (by omega),(dg (u % 10) (by omega)).2]
   omega
theorem dd_head(u:Nat)(h1:1<=u):¬ (Go.Lib.decDigits u).head?=some 48/\1<=(Go.Lib.decDigits u).length:=by
 induction u using Nat.strongRecOn with
 | ind u ih=>
  by_cases h:u<10
  ·rw [dd_one h]
   refine⟨?_,by simp⟩
   intro e
   have e2:UInt8.ofNat (48+u)=48:=by simpa using e
   have e1:=(dg u h).2
   rw [e2]at e1
   have:((48:UInt8).toNat:Int)=48:=rfl
   omega
  ·rw [dd_step h]
   obtain⟨i1,i2⟩:=ih (u / 10) (by omega) (by omega)
   cases hl:Go.Lib.decDigits (u / 10)with
   |nil=>rw [hl]at i2;simp at i2
   |cons x t=>rw [hl]at i1;exact⟨by simpa using i1,by simp⟩
theorem dd_len(k:Nat):∀u:Nat,u<10 ^ (k+1)->(Go.Lib.decDigits u).length<=k+1:=by
 induction k with
 |zero=>intro u h;rw [dd_one (by simpa using h)];simp
 | succ k ih=>
  intro u h
  by_cases h9:u<10
  ·rw [dd_one h9];simp
  ·rw [dd_step h9]
   have:=ih (u / 10) (by rw [Nat.pow_succ]at h;omega)
   simp;omega
def num(v:Int):ByteArray:=⟨(Go.Lib.itoa v).toArray⟩
theorem itoa_dd{v:Int}(h:0<=v):Go.Lib.itoa v=Go.Lib.decDigits v.toNat:=by unfold Go.Lib.itoa;rw [if_neg (by omega)]
theorem num_ok{v:Int}{k:Nat}(h1:1<=v)(h2:v<10 ^ (k+1)):nOk (num v) (k+1:Nat)=true/\nVal (num v) (k+1:Nat)=v/\∀x∈(num v).data.toList,¬ x=32:=by
 have hu:v.toNat<10 ^ (k+1):=by
  have:((10 ^ (k+1):Nat):Int)=(10:Int) ^ (k+1):=by simp
  omega
 obtain⟨a1,a2⟩:=dd_head v.toNat (by omega)
 have a3:=dd_len k v.toNat hu
 have a4:=dd_all v.toNat
 have hl:(num v).data.toList=Go.Lib.decDigits v.toNat:=by unfold num;rw [itoa_dd (by omega)]
 have hs0:(num v).data.toList.length=(num v).size:=by simp
 have hs:(num v).size=(Go.Lib.decDigits v.toNat).length:=by rw [←hl];exact hs0.symm
 have ok:nOk (num v) (k+1:Nat)=true:=by
  unfold nOk
  rw [hl,hs,decide_eq_true (by omega),decide_eq_true (by omega),decide_eq_true a1,a4];rfl
 refine⟨ok, ?_, ?_⟩
 ·unfold nVal;rw [if_pos ok,hl,dd_fold];omega
 ·rw [hl];intro x hx;exact dig_ne (List.all_eq_true.1 a4 x hx)
def rows:List (ByteArray×Int×Bool):= [(⟨#[65,100,97,114,32,73]⟩,5,true),(⟨#[65,100,97,114,32,73,73]⟩,6,false),(⟨#[84,105,115,104,114,105]⟩,1,false),(⟨#[72,101,115,104,118,97,110]⟩,2,false),(⟨#[75,105,115,108,101,118]⟩,3,false),(⟨#[84,101,118,101,116]⟩,4,false),(⟨#[83,104,101,118,97,116]⟩,5,false),(⟨#[65,100,97,114]⟩,6,false),(⟨#[78,105,115,97,110]⟩,7,false),(⟨#[73,121,97,114]⟩,8,false),(⟨#[83,105,118,97,110]⟩,9,false),(⟨#[84,97,109,109,117,122]⟩,10,false),(⟨#[65,118]⟩,11,false),(⟨#[69,108,117,108]⟩,12,false)]
def isRow(mt:ByteArray)(n:Int)(l:Bool):Prop:=(mt,n,l)∈rows
theorem rows_one:(rows.all fun p=>rows.all fun q=> !(decide (p.1=q.1))||decide (p.2=q.2))=true:=by decide+kernel
theorem row_one{mt:ByteArray}{n k:Int}{l h:Bool}(a:isRow mt n l)(b:isRow mt k h):n=k/\l=h:=by
 have:=List.all_eq_true.1 (List.all_eq_true.1 rows_one _ a) _ b
 simpa using this
theorem row_in{mt:ByteArray}{n:Int}{l:Bool}(a:isRow mt n l):mt.size<=100/\1<=mt.size/\1<=n/\n<=12:=by
 have:(rows.all fun p=>decide (p.1.size<=100)&&(decide (1<=p.1.size)&&(decide (1<=p.2.1)&&decide (p.2.1<=12))))=true:=by decide+kernel
 have:=List.all_eq_true.1 this _ a
 simpa using this
theorem nameV_row(y n:Int)(l:Bool)(h:Cal.right n l=true):isRow (nameV y n l) n l:=by
 have hr:1<=n/\n<=12:=by simp [Cal.right]at h;omega
 have hn:n=1∨n=2∨n=3∨n=4∨n=5∨n=6∨n=7∨n=8∨n=9∨n=10∨n=11∨n=12:=by omega
 unfold isRow nameV
 rcases hn with rfl|rfl|rfl|rfl|rfl|rfl|rfl|rfl|rfl|rfl|rfl|rfl <;> cases l <;> cases Cal.leap y <;> first|(exfalso;revert h;decide)|(simp [rows];done)|decide+kernel
theorem look(mt:ByteArray):∃ (n:Int) (l ok:Bool),((ok=true/\isRow mt n l)∨(ok=false/\n=0/\l=false/\∀n' l',¬ isRow mt n' l'))/\
  ∀ (b:Nat) (w:World),w.heap[b]? =some (.map (codesAt 12) 14)->(Instr.lookup 58 (.map (some b)) (.string mt) true).run Tryo.prog w= .ok (.tuple #[.agg #[.int .i64 n,.bool l],.bool ok]) w:=by
 have hks:∀x∈(codesAt 12).toList,MapKept.IsKey .string x.key:=by
  intro x hx
  simp [codesAt,codeRow]at hx
  rcases hx with rfl|rfl|rfl|rfl|rfl|rfl|rfl|rfl|rfl|rfl|rfl|rfl|rfl|rfl <;> simp [MapKept.IsKey]
 rcases MapKept.findNow_spec (d:= .string) (k:= .string mt) (by simp [MapKept.IsKey]) (codesAt 12).toList 0 hks with ⟨h1,h2⟩|⟨j,e,h1,h2,h3⟩
 ·refine⟨0,false,false,.inr ⟨rfl,rfl,rfl, ?_⟩,fun b w hb=>run_map_none _ 9 23 b 14 (codesAt 12) mt _ (und_o Tryz.underlying58) (und_o Tryz.underlying9) (by first|exact(run_o (Tryo.zeroValue 23) Tryz.zeroValue23) w|exact(run_o (Tryo.zeroValue 23) Tryz.zeroValue23)|(simp [go_sem];done)|kernel_rfl) hb h1⟩
  intro n' l' hr
  simp only [isRow,rows,List.mem_cons,Prod.mk.injEq,List.not_mem_nil,or_false]at hr
  rcases hr with ⟨rfl,_⟩|⟨rfl,_⟩|⟨rfl,_⟩|⟨rfl,_⟩|⟨rfl,_⟩|⟨rfl,_⟩|⟨rfl,_⟩|⟨rfl,_⟩|⟨rfl,_⟩|⟨rfl,_⟩|⟨rfl,_⟩|⟨rfl,_⟩|⟨rfl,_⟩|⟨rfl,_⟩
  ·exact h2 (codeRow 0 ⟨#[65,100,97,114,32,73]⟩ 5 true) (by simp [codesAt]) rfl
  ·exact h2 (codeRow 1 ⟨#[65,100,97,114,32,73,73]⟩ 6 false) (by simp [codesAt]) rfl
  ·exact h2 (codeRow 2 ⟨#[84,105,115,104,114,105]⟩ 1 false) (by simp [codesAt]) rfl
  ·exact h2 (codeRow 3 ⟨#[72,101,115,104,118,97,110]⟩ 2 false) (by simp [codesAt]) rfl
  ·exact h2 (codeRow 4 ⟨#[75,105,115,108,101,118]⟩ 3 false) (by simp [codesAt]) rfl
  ·exact h2 (codeRow 5 ⟨#[84,101,118,101,116]⟩ 4 false) (by simp [codesAt]) rfl
  ·exact h2 (codeRow 6 ⟨#[83,104,101,118,97,116]⟩ 5 false) (by simp [codesAt]) rfl
  ·exact h2 (codeRow 7 ⟨#[65,100,97,114]⟩ 6 false) (by simp [codesAt]) rfl
  ·exact h2 (codeRow 8 ⟨#[78,105,115,97,110]⟩ 7 false) (by simp [codesAt]) rfl
  ·exact h2 (codeRow 9 ⟨#[73,121,97,114]⟩ 8 false) (by simp [codesAt]) rfl
  ·exact h2 (codeRow 10 ⟨#[83,105,118,97,110]⟩ 9 false) (by simp [codesAt]) rfl
  ·exact h2 (codeRow 11 ⟨#[84,97,109,109,117,122]⟩ 10 false) (by simp [codesAt]) rfl
  ·exact h2 (codeRow 12 ⟨#[65,118]⟩ 11 false) (by simp [codesAt]) rfl
  ·exact h2 (codeRow 13 ⟨#[69,108,117,108]⟩ 12 false) (by simp [codesAt]) rfl
 ·have hm:e∈(codesAt 12).toList:=List.mem_of_getElem? h2
  have key:∃n l,e.val= .agg #[.int .i64 n,.bool l]/\∃t,e.key= .string t/\isRow t n l:=by
   simp [codesAt]at hm
   rcases hm with rfl|rfl|rfl|rfl|rfl|rfl|rfl|rfl|rfl|rfl|rfl|rfl|rfl|rfl <;> exact⟨_,_,rfl,_,rfl,by simp [isRow,rows]⟩
  obtain⟨n,l,hv,t,ht,hr⟩:=key
  rw [ht]at h3
  obtain rfl:t=mt:=by simpa using h3
  rw [hv]at h1
  exact⟨n,l,true,.inl ⟨rfl,hr⟩,fun b w hb=>run_map_look _ 9 23 b 14 (codesAt 12) t _ _ (und_o Tryz.underlying58) (und_o Tryz.underlying9) hb h1⟩
end D14
end Go.Proofs.YthpipedifekmpaaGreatDoor
end
section
namespace Go.Proofs.YthpipedifekmpaaGreatDoor
open Go.ChangeShapes Go.WideShapes Go.ChangeAt Go.RowKit
namespace D14
theorem ba_ext{a b:ByteArray}(h:a.data.toList=b.data.toList):a=b:=by
 cases a;cases b
 simp only [ByteArray.mk.injEq]
 exact Array.toList_inj.1 h
theorem str_ne{a b:ByteArray}(h:¬ a=b):(a.toList==b.toList)=false:=by
 have:¬ a.toList=b.toList:=fun e=>h (ba_ext (by rw [←Lib.toList_data,←Lib.toList_data];exact e))
 simpa using this
def Parts(s fs mt ls:ByteArray):Prop:=s.data.toList=fs.data.toList++32 :: (mt.data.toList++32 :: ls.data.toList)/\(∀x∈fs.data.toList,¬ x=32)/\(∀x∈ls.data.toList,¬ x=32)
theorem parts_one{s fs mt ls fs' mt' ls':ByteArray}(h:Parts s fs mt ls)(h':Parts s fs' mt' ls'):fs=fs'/\mt=mt'/\ls=ls':=by
 obtain⟨e,a,b⟩:=h
 obtain⟨e',a',b'⟩:=h'
 obtain⟨p,q⟩:=first_one a a' (e.symm.trans e')
 obtain⟨p',q'⟩:=last_one b b' q
 exact⟨ba_ext p,ba_ext p',ba_ext q'⟩
def ReadIs(s:ByteArray)(ry rn:Int)(rl:Bool)(rd er:Int):Prop:=
 (er=5/\ry=0/\rn=0/\rl=false/\rd=0/\¬ ∃fs mt ls n l,Parts s fs mt ls/\nOk fs 2=true/\nOk ls 4=true/\isRow mt n l)∨
 (∃fs mt ls n l,Parts s fs mt ls/\nOk fs 2=true/\nOk ls 4=true/\isRow mt n l/\
  ((er=2/\ry=0/\rn=0/\rl=false/\rd=0/\¬ (D10.dateE (nVal ls 4) n l (nVal fs 2)=0/\(nameV (nVal ls 4) n l=mt∨mt=(⟨#[65,100,97,114]⟩:ByteArray))))∨
   (er=0/\ry=nVal ls 4/\rn=n/\rl=l/\rd=nVal fs 2/\D10.dateE (nVal ls 4) n l (nVal fs 2)=0/\(nameV (nVal ls 4) n l=mt∨mt=(⟨#[65,100,97,114]⟩:ByteArray)))))
theorem ReadIs.parts{s fs mt ls:ByteArray}{n ry rn rd er:Int}{l rl:Bool}(h:ReadIs s ry rn rl rd er)(hp:Parts s fs mt ls)(h1:nOk fs 2=true)(h2:nOk ls 4=true)(h3:isRow mt n l):
  (er=2/\ry=0/\rn=0/\rl=false/\rd=0/\¬ (D10.dateE (nVal ls 4) n l (nVal fs 2)=0/\(nameV (nVal ls 4) n l=mt∨mt=(⟨#[65,100,97,114]⟩:ByteArray))))∨
   (er=0/\ry=nVal ls 4/\rn=n/\rl=l/\rd=nVal fs 2/\D10.dateE (nVal ls 4) n l (nVal fs 2)=0/\(nameV (nVal ls 4) n l=mt∨mt=(⟨#[65,100,97,114]⟩:ByteArray))):=by
 rcases h with ⟨_,_,_,_,_,hn⟩|⟨fs',mt',ls',n',l',hp',_,_,h3',h⟩
 ·exact absurd ⟨fs,mt,ls,n,l,hp,h1,h2,h3⟩ hn
 ·obtain⟨rfl,rfl,rfl⟩:=parts_one hp hp'
  obtain⟨rfl,rfl⟩:=row_one h3 h3'
  exact h
theorem words_parts{y n d:Int}{l:Bool}(h:D10.dateE y n l d=0):Parts (wordsV y n l d) (num d) (nameV y n l) (num y)/\nOk (num d) 2=true/\nOk (num y) 4=true/\isRow (nameV y n l) n l/\nVal (num d) 2=d/\nVal (num y) 4=y:=by
 obtain⟨⟨y1,y2,m1,m2,d1,d2⟩,hp⟩:=D10.date_valid h
 have hlb:=(D10.len_bd y _ y1 y2 m1 m2).2
 have hr:Cal.right n l=true:=by simp [Cal.plOk]at hp;exact hp.1
 obtain⟨a1,a2,a3⟩:=num_ok (v:=d) (k:=1) d1 (show d<10 ^ (1+1) by omega)
 obtain⟨b1,b2,b3⟩:=num_ok (v:=y) (k:=3) y1 (show y<10 ^ (3+1) by omega)
 refine⟨⟨?_,a3,b3⟩,a1,b1,nameV_row y n l hr,a2,b2⟩
 unfold wordsV num
 simp
theorem read_words{y n d ry rn rd er:Int}{l rl:Bool}(h:D10.dateE y n l d=0)(hI:ReadIs (wordsV y n l d) ry rn rl rd er):er=0/\ry=y/\rn=n/\rl=l/\rd=d:=by
 obtain⟨p,a,b,c,va,vb⟩:=words_parts h
 rcases hI.parts p a b c with ⟨_,_,_,_,_,hn⟩|⟨h0,h1,h2,h3,h4,_⟩
 ·rw [va,vb]at hn
  exact absurd ⟨h,.inl rfl⟩ hn
 ·rw [va]at h4
  rw [vb]at h1
  exact⟨h0,h1,h2,h3,h4⟩
theorem ext_take(r:List UInt8)(i j:Nat):((⟨r.toArray⟩:ByteArray).extract i j).data.toList=(r.take j).drop i:=by
 simp [List.drop_take]
end D14
theorem name_Read(s:ByteArray)(hs:s.size<=100000)(m:Int):∃ (ry rn:Int) (rl:Bool) (rd er:Int),D14.ReadIs s ry rn rl rd er/\∀w:World,Tab w 5 kevCells->Tab w 4 lenCells->Tab w 1 nameCells->MaxAt w m->Calls Tryo.prog 8 #[.string s] w fun e w'=>e= .returned (.tuple #[.agg #[.int .i64 (ry),.int .i64 (rn),.bool (rl),.int .i64 (rd)],.int .i64 (er)])/\Below w.heap.size w w':=by
 have HU0:=Lib.hid (fun(w:World) (hm:MaxAt w m)=>cut_at s ⟨#[32]⟩ m w (by omega) hm)
 have HK:=Lib.hid (fun w hN=>name_codes w hN)
 rcases D14.split_first s.data.toList with ⟨a,r,e,ha⟩|h
 ·have hlen:s.size=a.length+1+r.length:=by
   have:s.data.toList.length=s.size:=by simp
   rw [←this,e];simp;omega
  rw [show Go.Lib.cut s.data.toList (⟨#[32]⟩:ByteArray).data.toList=(a,r,true) by rw [e];exact D14.cut_some a r ha]at HU0
  have HU:Hid (∀w:World,MaxAt w m->Calls Tryo.prog 21 #[.string s,.string ⟨#[32]⟩] w fun e w'=>e= .returned (.tuple #[.string ⟨a.toArray⟩,.string ⟨r.toArray⟩,.bool true])/\Below w.heap.size w w'):=HU0
  clear HU0
  have hrs:(⟨r.toArray⟩:ByteArray).size=r.length:=by show r.toArray.size=_;simp
  have HX0:=Lib.hid (fun w:World=>last_at ⟨r.toArray⟩ w (by omega))
  rcases D14.split_last r with ⟨b,c,er,hc⟩|h2
  ·have hlr:r.length=b.length+1+c.length:=by rw [er];simp;omega
   rw [show Go.Lib.lastIndexByte ⟨r.toArray⟩ 32=(b.length:Int) by rw [er];exact D14.last_some b c hc]at HX0
   have hmt:((⟨r.toArray⟩:ByteArray).extract 0 b.length).data.toList=b:=by rw [D14.ext_take,er];simp
   have hls:((⟨r.toArray⟩:ByteArray).extract (b.length+1) (⟨r.toArray⟩:ByteArray).size).data.toList=c:=by rw [D14.ext_take,hrs,List.take_length,er];simp
   have hP:D14.Parts s ⟨a.toArray⟩ ((⟨r.toArray⟩:ByteArray).extract 0 b.length) ((⟨r.toArray⟩:ByteArray).extract (b.length+1) (⟨r.toArray⟩:ByteArray).size):=by
    refine⟨?_,ha,by rw [hls];exact hc⟩
    rw [hmt,hls,e,er]
   have k1:((b.length:Nat):Int)<((⟨r.toArray⟩:ByteArray).size:Int):=by omega
   have k2:((b.length:Nat):Int)+1<=((⟨r.toArray⟩:ByteArray).size:Int):=by omega
   have k0:(0:Int)<=(b.length:Int):=by omega
   have hz:(⟨r.toArray⟩:ByteArray).size<=1000000:=by omega
   have za:(⟨a.toArray⟩:ByteArray).size<=9223372036854775807:=by show a.toArray.size<=_;simp;omega
   generalize (⟨a.toArray⟩:ByteArray)=fs at*
   generalize hrr:(⟨r.toArray⟩:ByteArray)=rs at*
   generalize b.length=k at*
   have zl:(rs.extract (k+1) rs.size).size<=9223372036854775807:=by simp;omega
   obtain⟨n,l,ok,hrow,HL0⟩:=D14.look (rs.extract 0 k)
   have HD:=Lib.hid (fun w=>name_number fs 2 w (by omega) za)
   have HY:=Lib.hid (fun w=>name_number (rs.extract (k+1) rs.size) 4 w (by omega) zl)
   have HL2:=Lib.hid HL0
   clear hmt hls hlr hlen e er HL0
   cases o1:nOk fs 2
   ·rw [o1]at HD
    refine⟨0,0,false,0,5,.inl ⟨rfl,rfl,rfl,rfl,rfl, ?_⟩,fun w hT hL hN hm=>name_Read_s1 s fs rs true k _ _ n l ok _ m w hT hL hN hm HU HX0 k0 k1 k2 hz HD HK HL2 HY⟩
    rintro⟨fs',mt',ls',n',l',hp',g1,g2,g3⟩
    obtain⟨rfl,rfl,rfl⟩:=D14.parts_one hP hp'
    rw [o1]at g1;cases g1
   rw [o1]at HD
   cases ok
   ·refine⟨0,0,false,0,5,.inl ⟨rfl,rfl,rfl,rfl,rfl, ?_⟩,fun w hT hL hN hm=>name_Read_s2 s fs rs true k _ _ n l _ m w hT hL hN hm HU HX0 k0 k1 k2 hz HD HK HL2 HY⟩
    rintro⟨fs',mt',ls',n',l',hp',g1,g2,g3⟩
    obtain⟨rfl,rfl,rfl⟩:=D14.parts_one hP hp'
    rcases hrow with ⟨g,_⟩|⟨_,_,_,g⟩
    ·cases g
    ·exact g _ _ g3
   cases o3:nOk (rs.extract (k+1) rs.size) 4
   ·rw [o3]at HY
    refine⟨0,0,false,0,5,.inl ⟨rfl,rfl,rfl,rfl,rfl, ?_⟩,fun w hT hL hN hm=>name_Read_s3 s fs rs true k _ _ n l m w hT hL hN hm HU HX0 k0 k1 k2 hz HD HK HL2 HY⟩
    rintro⟨fs',mt',ls',n',l',hp',g1,g2,g3⟩
    obtain⟨rfl,rfl,rfl⟩:=D14.parts_one hP hp'
    rw [o3]at g2;cases g2
   rw [o3]at HY
   have hrow1:D14.isRow (rs.extract 0 k) n l:=by
    rcases hrow with ⟨_,g⟩|⟨g,_⟩
    ·exact g
    ·cases g
   have hYb:I64 (nVal (rs.extract (k+1) rs.size) 4):=by
    have h9:=o3
    unfold nOk at h9
    simp only [Bool.and_eq_true,decide_eq_true_eq]at h9
    have hbd:=numFold_bd _ h9.2.2.2
    have hv:nVal (rs.extract (k+1) rs.size) 4=numFold (rs.extract (k+1) rs.size).data.toList:=by unfold nVal;rw [if_pos o3]
    have hl4:(rs.extract (k+1) rs.size).data.toList.length<=4:=by
     have:(rs.extract (k+1) rs.size).data.toList.length=(rs.extract (k+1) rs.size).size:=by simp
     omega
    have hpw:(10:Int) ^ (rs.extract (k+1) rs.size).data.toList.length<=10000:=by
     generalize (rs.extract (k+1) rs.size).data.toList.length=q at hl4
     rcases(show q=0∨q=1∨q=2∨q=3∨q=4 by omega)with h|h|h|h|h <;> rw [h] <;> decide
    rw [hv]
    exact⟨by omega,by omega⟩
   have HC:=Lib.hid (fun w hT hL=>heb_Check (nVal (rs.extract (k+1) rs.size) 4) n l (nVal fs 2) w hYb hT hL)
   by_cases h0:D10.dateE (nVal (rs.extract (k+1) rs.size) 4) n l (nVal fs 2)=0
   ·rw [h0]at HC
    obtain⟨⟨y1,y2,_⟩,hp⟩:=D10.date_valid h0
    have HM:=Lib.hid (fun w hT hL hN=>name_Month (nVal (rs.extract (k+1) rs.size) 4) n l w hYb hT hL hN)
    rw [show D10.lastE (nVal (rs.extract (k+1) rs.size) 4) n l=0 by simp [D10.lastE,Cal.yearIn_yes _ y1 y2,hp],if_pos rfl]at HM
    by_cases h1:nameV (nVal (rs.extract (k+1) rs.size) 4) n l=rs.extract 0 k
    ·have HM1:=HM
     rw [h1]at HM1
     exact⟨_,n,l,_,0,.inr ⟨fs,_,_,n,l,hP,o1,o3,hrow1,.inr ⟨rfl,rfl,rfl,rfl,rfl,h0,.inl h1⟩⟩,fun w hT hL hN hm=>name_Read_e1 s fs rs true k _ _ n l _ m w hT hL hN hm HU HX0 k0 k1 k2 hz HD HK HL2 HY HC HM1⟩
    ·by_cases h2:rs.extract 0 k=(⟨#[65,100,97,114]⟩:ByteArray)
     ·refine⟨_,n,l,_,0,.inr ⟨fs,_,_,n,l,hP,o1,o3,hrow1,.inr ⟨rfl,rfl,rfl,rfl,rfl,h0,.inr h2⟩⟩,fun w hT hL hN hm=>name_Read_e2 s fs rs true k _ _ n l _ _ m w hT hL hN hm HU HX0 k0 k1 k2 hz HD HK HL2 HY HC HM (D14.str_ne h1) ?_ ?_⟩
      ·rw [h2];simp
      ·rw [h2,Lib.toList_data];rfl
     ·refine⟨0,0,false,0,2,.inr ⟨fs,_,_,n,l,hP,o1,o3,hrow1,.inl ⟨rfl,rfl,rfl,rfl,rfl,fun h=> ?_⟩⟩,fun w hT hL hN hm=>name_Read_d s fs rs true k _ _ n l _ _ m w hT hL hN hm HU HX0 k0 k1 k2 hz HD HK HL2 HY HC HM (D14.str_ne h1) (D14.str_ne h2) ?_⟩
      ·rcases h.2 with g|g
       ·exact h1 g
       ·exact h2 g
      ·have:=D14.str_ne h2
       rwa [Lib.toList_data (⟨#[65,100,97,114]⟩:ByteArray)]at this
   ·exact⟨0,0,false,0,2,.inr ⟨fs,_,_,n,l,hP,o1,o3,hrow1,.inl ⟨rfl,rfl,rfl,rfl,rfl,fun h=>h0 h.1⟩⟩,fun w hT hL hN hm=>name_Read_c s fs rs true k _ _ n l _ m w hT hL hN hm HU HX0 k0 k1 k2 hz HD HK HL2 HY HC (by simpa using h0)⟩
  ·rw [show Go.Lib.lastIndexByte ⟨r.toArray⟩ 32= -1 from D14.last_none r h2]at HX0
   refine⟨0,0,false,0,5,.inl ⟨rfl,rfl,rfl,rfl,rfl, ?_⟩,fun w hT hL hN hm=>name_Read_x s _ _ true m w hT hL hN hm HU HX0⟩
   rintro⟨fs',mt',ls',n',l',⟨e',p1,p2⟩,_⟩
   obtain⟨_,q⟩:=D14.first_one ha p1 (e.symm.trans e')
   exact h2 32 (by rw [q];simp) rfl
 ·rw [show Go.Lib.cut s.data.toList (⟨#[32]⟩:ByteArray).data.toList=(s.data.toList,[],false)from D14.cut_none _ h]at HU0
  have HX0:=Lib.hid (fun w:World=>last_at ⟨([]:List UInt8).toArray⟩ w (by show([]:List UInt8).toArray.size<=_;simp))
  rw [show Go.Lib.lastIndexByte ⟨([]:List UInt8).toArray⟩ 32= -1 from D14.last_none [] (by simp)]at HX0
  refine⟨0,0,false,0,5,.inl ⟨rfl,rfl,rfl,rfl,rfl, ?_⟩,fun w hT hL hN hm=>name_Read_x s _ _ false m w hT hL hN hm HU0 HX0⟩
  rintro⟨fs',mt',ls',n',l',⟨e',p1,p2⟩,_⟩
  exact h 32 (by rw [e'];simp) rfl
end Go.Proofs.YthpipedifekmpaaGreatDoor
end
section
namespace Go.Proofs.YthpipedifekmpaaGreatDoor
open Go.ChangeShapes Go.WideShapes Go.ChangeAt Go.RowKit
def powU:List Value:=Lib.pow10Tab.map fun z=>Value.int .u64 z
theorem tabIs_of_tab{w:World}(h:Tab w 7 powU):Lib.TabIs Tryo.prog w "internal/strconv.uint64pow10" .u64 Lib.pow10Tab:=by
 obtain⟨t,h⟩:=h
 have hg:Tryo.prog.globalNamed "internal/strconv.uint64pow10" =some 7:=by kernel_rfl
 unfold Lib.TabIs World.var?
 simp only [hg,Option.bind_some,h]
 rfl
end Go.Proofs.YthpipedifekmpaaGreatDoor
end
section
namespace Go.Proofs.YthpipedifekmpaaGreatDoor
open Go.ChangeShapes Go.WideShapes Go.ChangeAt Go.RowKit
namespace D14
end D14
end Go.Proofs.YthpipedifekmpaaGreatDoor
end
