/- Layer 14: the names' codes, in a map that the call makes. -/
import Derived.Test.YtagmdglmflcegaaGreatDoorPath
import Derived.MapKept
import Derived.Maps.Own
import Derived.Deep.RegionHeld3
import Derived.RegionTactic
import Derived.LoopTactic
namespace Go.Proofs.YtagmdglmflcegaaGreatDoor
open Go.ChangeShapes Go.WideShapes Go.ChangeAt Go.RowKit
open Go.ChangeMaps (setBlock heap_setBlock_same heap_setBlock_other)
set_option linter.unusedVariables false
set_option maxRecDepth 100000
theorem run_map_new {P : Program} {w : World} (t kt et : TypeId) (b clock : Nat) (es : Array MapEntry) (s : ByteArray) (v : Value) (ht : P.underlying t = some (.map kt et)) (hk : P.underlying kt = some .string)
    (hb : w.heap[b]? = some (.map es clock)) (hf : Instr.findNow .string (.string s) es.toList 0 = some none) :
    (Instr.mapUpdate t (.map (some b)) (.string s) v).run P w = .ok () (setBlock w b (.map (es.push { key := .string s, val := v, born := clock }) (clock + 1))) := by
  have hc : (Instr.checkKey false 10000 kt (.string s)).run P w = .ok () w := MapKept.run_checkKey (k := .string s) hk (by simp [MapKept.IsKey]) false 9999
  simp [Instr.mapUpdate, run_underlying ht, MapKept.run_getObj_map hb, hc, MapKept.run_findKey hk hf, MapKept.run_setObj_map _ hb, Result.andThen, setBlock]
theorem But.map {w : World} {b clock : Nat} {es : Array MapEntry} (hb : w.heap[b]? = some (.map es clock)) (o : Obj) : But b w (setBlock w b o) :=
  ⟨rfl, rfl, rfl, by simp [setBlock], fun k _ hk => heap_setBlock_other hb o hk⟩
theorem wpList_map_new {P : Program} (w : World) {ops : Array Oper} {rest : List Oper} {o : Oper} {a : Act} {Q : Exit → Act → World → Prop}
    (hg : o.guard = none) (m x v : Operand) (t : TypeId) (hop : o.op = Op.mapUpdate t m x v) (kt et : TypeId) (ht : P.underlying t = some (.map kt et)) (hk : P.underlying kt = some .string) (b clock : Nat) (es : Array MapEntry)
    (hm : a.eval m = .map (some b)) (hb : w.heap[b]? = some (.map es clock)) (s : ByteArray) (val : Value) (hx : a.eval x = .string s) (hv : a.eval v = val) (hf : Instr.findNow .string (.string s) es.toList 0 = some none)
    (hK : ∀ w', w'.heap[b]? = some (.map (es.push { key := .string s, val := val, born := clock }) (clock + 1)) → But b w w' → wpList P ops Q rest (a.put o.dst undef) w') :
    wpList P ops Q (o :: rest) a w := by
  refine wpList_plain hg fun K' hK' => ?_
  unfold Oper.wp
  simp [execOp, hop, hm, hx, hv, run_map_new t kt et b clock es s val ht hk hb hf, Result.andThen]
  exact hK' _ _ (hK _ (heap_setBlock_same hb _) (But.map hb _))
theorem wpList_map_ins {P : Program} (w : World) {ops : Array Oper} {rest : List Oper} {o : Oper} {a : Act} {Q : Exit → Act → World → Prop}
    (hg : o.guard = none) (m x v : Operand) (t : TypeId) (hop : o.op = Op.insert t m x v) (kt et : TypeId) (ht : P.underlying t = some (.map kt et)) (hk : P.underlying kt = some .string) (b clock : Nat) (es : Array MapEntry)
    (hm : a.eval m = .map (some b)) (hb : w.heap[b]? = some (.map es clock)) (s : ByteArray) (val : Value) (hx : a.eval x = .string s) (hv : a.eval v = val) (hf : Instr.findNow .string (.string s) es.toList 0 = some none)
    (hK : ∀ w', w'.heap[b]? = some (.map (es.push { key := .string s, val := val, born := clock }) (clock + 1)) → But b w w' → wpList P ops Q rest (a.put o.dst undef) w') :
    wpList P ops Q (o :: rest) a w := by
  refine wpList_plain hg fun K' hK' => ?_
  unfold Oper.wp
  simp [execOp, hop, hm, hx, hv, run_map_new t kt et b clock es s val ht hk hb hf, Result.andThen]
  exact hK' _ _ (hK _ (heap_setBlock_same hb _) (But.map hb _))
/-- The names, as the text lays them. -/
def nameCells : List Value := [.string ⟨#[84, 105, 115, 104, 114, 105]⟩, .string ⟨#[72, 101, 115, 104, 118, 97, 110]⟩, .string ⟨#[75, 105, 115, 108, 101, 118]⟩, .string ⟨#[84, 101, 118, 101, 116]⟩, .string ⟨#[83, 104, 101, 118, 97, 116]⟩, .string ⟨#[65, 100, 97, 114]⟩, .string ⟨#[78, 105, 115, 97, 110]⟩, .string ⟨#[73, 121, 97, 114]⟩, .string ⟨#[83, 105, 118, 97, 110]⟩, .string ⟨#[84, 97, 109, 109, 117, 122]⟩, .string ⟨#[65, 118]⟩, .string ⟨#[69, 108, 117, 108]⟩]
def codeRow (i : Nat) (s : ByteArray) (n : Int) (l : Bool) : MapEntry := { key := .string s, val := .agg #[.int .i64 n, .bool l], born := i }
/-- The map of codes, when k names of the table have been laid. -/
def codesAt (k : Nat) : Array MapEntry := ([codeRow 0 ⟨#[65, 100, 97, 114, 32, 73]⟩ 5 true, codeRow 1 ⟨#[65, 100, 97, 114, 32, 73, 73]⟩ 6 false] ++ [codeRow 2 ⟨#[84, 105, 115, 104, 114, 105]⟩ 1 false, codeRow 3 ⟨#[72, 101, 115, 104, 118, 97, 110]⟩ 2 false, codeRow 4 ⟨#[75, 105, 115, 108, 101, 118]⟩ 3 false, codeRow 5 ⟨#[84, 101, 118, 101, 116]⟩ 4 false, codeRow 6 ⟨#[83, 104, 101, 118, 97, 116]⟩ 5 false, codeRow 7 ⟨#[65, 100, 97, 114]⟩ 6 false, codeRow 8 ⟨#[78, 105, 115, 97, 110]⟩ 7 false, codeRow 9 ⟨#[73, 121, 97, 114]⟩ 8 false, codeRow 10 ⟨#[83, 105, 118, 97, 110]⟩ 9 false, codeRow 11 ⟨#[84, 97, 109, 109, 117, 122]⟩ 10 false, codeRow 12 ⟨#[65, 118]⟩ 11 false, codeRow 13 ⟨#[69, 108, 117, 108]⟩ 12 false].take k).toArray
set_option maxHeartbeats 4000000 in
theorem name_codes (w : World) (hT : Tab w 0 nameCells) :
    Calls Tryz.prog 41 #[] w fun e w' => e = .returned (.map (some w.heap.size)) ∧ w'.heap[w.heap.size]? = some (.map (codesAt 12) 14) ∧ Below w.heap.size w w' := by
  have hlt0 := hT.lt
  obtain ⟨t, hT⟩ := hT
  have hT2 : w.heap[0]? = some (.cells #[.string ⟨#[84, 105, 115, 104, 114, 105]⟩, .string ⟨#[72, 101, 115, 104, 118, 97, 110]⟩, .string ⟨#[75, 105, 115, 108, 101, 118]⟩, .string ⟨#[84, 101, 118, 101, 116]⟩, .string ⟨#[83, 104, 101, 118, 97, 116]⟩, .string ⟨#[65, 100, 97, 114]⟩, .string ⟨#[78, 105, 115, 97, 110]⟩, .string ⟨#[73, 121, 97, 114]⟩, .string ⟨#[83, 105, 118, 97, 110]⟩, .string ⟨#[84, 97, 109, 109, 117, 122]⟩, .string ⟨#[65, 118]⟩, .string ⟨#[69, 108, 117, 108]⟩] t (0, 0)) := hT
  have HT := Lib.hid hT2
  clear hT hT2
  have hmm := @run_makeMap Tryz.prog
  have h0 : (w.alloc (.map #[] 0)).heap[w.heap.size]? = some (.map #[] 0) := by first | (simp; done) | (show (w.heap.push _)[w.heap.size]? = _; simp)
  go_enter Tryz.func41, Tryz.ntmps41
  go_wp2_with (first | (refine wpList_map_ins _ rfl _ _ _ 64 rfl 9 23 Tryz.underlying64 Tryz.underlying9 w.heap.size 0 #[] rfl h0 _ _ rfl rfl (by kernel_rfl) ?_; intro w1 hm1 hB1) | (refine wpList_map_ins _ rfl _ _ _ 64 rfl 9 23 Tryz.underlying64 Tryz.underlying9 w.heap.size _ _ rfl hm1 _ _ rfl rfl (by kernel_rfl) ?_; intro w2 hm2 hB2) | (refine wpList_load_row rfl 52 _ rfl 0 rfl t #[.string ⟨#[84, 105, 115, 104, 114, 105]⟩, .string ⟨#[72, 101, 115, 104, 118, 97, 110]⟩, .string ⟨#[75, 105, 115, 108, 101, 118]⟩, .string ⟨#[84, 101, 118, 101, 116]⟩, .string ⟨#[83, 104, 101, 118, 97, 116]⟩, .string ⟨#[65, 100, 97, 114]⟩, .string ⟨#[78, 105, 115, 97, 110]⟩, .string ⟨#[73, 121, 97, 114]⟩, .string ⟨#[83, 105, 118, 97, 110]⟩, .string ⟨#[84, 97, 109, 109, 117, 122]⟩, .string ⟨#[65, 118]⟩, .string ⟨#[69, 108, 117, 108]⟩] (0, 0) _ ((hB2.block _ (by have h9 := hB1.size; simp at h9; omega) (by omega)).trans ((hB1.block _ (by first | omega | (simp; done) | (simp; omega)) (by omega)).trans ((Below.heap_alloc _ _ _ hlt0).trans HT.out))) Tryz.underlying52 rfl (by kernel_rfl) ?_))
  go_loopw [9] (fun i wr => ∃ k : Int, 0 ≤ k ∧ k ≤ 12 ∧ i = .int .i64 k ∧ wr.heap[w.heap.size]? = some (.map (codesAt k.toNat) (k.toNat + 2)) ∧ Below w.heap.size w wr) (fun i _ => (12 - intOf i).toNat)
  case atStart => exact ⟨0, by omega, by omega, rfl, hm2, But.below hB2 (But.below hB1 (ba _ _) (Nat.le_refl _)) (Nat.le_refl _)⟩
  case round =>
    obtain ⟨k, k0, k1, rfl, hm, hB⟩ := hrel
    have hk : k = 0 ∨ k = 1 ∨ k = 2 ∨ k = 3 ∨ k = 4 ∨ k = 5 ∨ k = 6 ∨ k = 7 ∨ k = 8 ∨ k = 9 ∨ k = 10 ∨ k = 11 ∨ k = 12 := by omega
    clear k0 k1 hB1 hB2 hm1 hm2 h0
    rcases hk with rfl | rfl | rfl | rfl | rfl | rfl | rfl | rfl | rfl | rfl | rfl | rfl | rfl
    · have hm : wr.heap[w.heap.size]? = some (.map (codesAt 0) 2) := hm
      have hix : ∀ w : World, (Instr.index 52 (.agg #[.string ⟨#[84, 105, 115, 104, 114, 105]⟩, .string ⟨#[72, 101, 115, 104, 118, 97, 110]⟩, .string ⟨#[75, 105, 115, 108, 101, 118]⟩, .string ⟨#[84, 101, 118, 101, 116]⟩, .string ⟨#[83, 104, 101, 118, 97, 116]⟩, .string ⟨#[65, 100, 97, 114]⟩, .string ⟨#[78, 105, 115, 97, 110]⟩, .string ⟨#[73, 121, 97, 114]⟩, .string ⟨#[83, 105, 118, 97, 110]⟩, .string ⟨#[84, 97, 109, 109, 117, 122]⟩, .string ⟨#[65, 118]⟩, .string ⟨#[69, 108, 117, 108]⟩]) (.int .i64 0)).run Tryz.prog w = .ok (.string ⟨#[84, 105, 115, 104, 114, 105]⟩) w := fun _ => by kernel_rfl
      go_wp2_with (first | (at_mapUpdate; refine wpList_map_new _ rfl _ _ _ 64 rfl 9 23 Tryz.underlying64 Tryz.underlying9 w.heap.size 2 (codesAt 0) rfl hm _ _ rfl rfl (by kernel_rfl) ?_; intro w3 hm3 hB3) | fail)
      go_roundw
      case rel => exact ⟨1, by omega, by omega, rfl, hm3, But.below hB3 hB (Nat.le_refl _)⟩
      case measure => simp [intOf]
    · have hm : wr.heap[w.heap.size]? = some (.map (codesAt 1) 3) := hm
      have hix : ∀ w : World, (Instr.index 52 (.agg #[.string ⟨#[84, 105, 115, 104, 114, 105]⟩, .string ⟨#[72, 101, 115, 104, 118, 97, 110]⟩, .string ⟨#[75, 105, 115, 108, 101, 118]⟩, .string ⟨#[84, 101, 118, 101, 116]⟩, .string ⟨#[83, 104, 101, 118, 97, 116]⟩, .string ⟨#[65, 100, 97, 114]⟩, .string ⟨#[78, 105, 115, 97, 110]⟩, .string ⟨#[73, 121, 97, 114]⟩, .string ⟨#[83, 105, 118, 97, 110]⟩, .string ⟨#[84, 97, 109, 109, 117, 122]⟩, .string ⟨#[65, 118]⟩, .string ⟨#[69, 108, 117, 108]⟩]) (.int .i64 1)).run Tryz.prog w = .ok (.string ⟨#[72, 101, 115, 104, 118, 97, 110]⟩) w := fun _ => by kernel_rfl
      go_wp2_with (first | (at_mapUpdate; refine wpList_map_new _ rfl _ _ _ 64 rfl 9 23 Tryz.underlying64 Tryz.underlying9 w.heap.size 3 (codesAt 1) rfl hm _ _ rfl rfl (by kernel_rfl) ?_; intro w3 hm3 hB3) | fail)
      go_roundw
      case rel => exact ⟨2, by omega, by omega, rfl, hm3, But.below hB3 hB (Nat.le_refl _)⟩
      case measure => simp [intOf]
    · have hm : wr.heap[w.heap.size]? = some (.map (codesAt 2) 4) := hm
      have hix : ∀ w : World, (Instr.index 52 (.agg #[.string ⟨#[84, 105, 115, 104, 114, 105]⟩, .string ⟨#[72, 101, 115, 104, 118, 97, 110]⟩, .string ⟨#[75, 105, 115, 108, 101, 118]⟩, .string ⟨#[84, 101, 118, 101, 116]⟩, .string ⟨#[83, 104, 101, 118, 97, 116]⟩, .string ⟨#[65, 100, 97, 114]⟩, .string ⟨#[78, 105, 115, 97, 110]⟩, .string ⟨#[73, 121, 97, 114]⟩, .string ⟨#[83, 105, 118, 97, 110]⟩, .string ⟨#[84, 97, 109, 109, 117, 122]⟩, .string ⟨#[65, 118]⟩, .string ⟨#[69, 108, 117, 108]⟩]) (.int .i64 2)).run Tryz.prog w = .ok (.string ⟨#[75, 105, 115, 108, 101, 118]⟩) w := fun _ => by kernel_rfl
      go_wp2_with (first | (at_mapUpdate; refine wpList_map_new _ rfl _ _ _ 64 rfl 9 23 Tryz.underlying64 Tryz.underlying9 w.heap.size 4 (codesAt 2) rfl hm _ _ rfl rfl (by kernel_rfl) ?_; intro w3 hm3 hB3) | fail)
      go_roundw
      case rel => exact ⟨3, by omega, by omega, rfl, hm3, But.below hB3 hB (Nat.le_refl _)⟩
      case measure => simp [intOf]
    · have hm : wr.heap[w.heap.size]? = some (.map (codesAt 3) 5) := hm
      have hix : ∀ w : World, (Instr.index 52 (.agg #[.string ⟨#[84, 105, 115, 104, 114, 105]⟩, .string ⟨#[72, 101, 115, 104, 118, 97, 110]⟩, .string ⟨#[75, 105, 115, 108, 101, 118]⟩, .string ⟨#[84, 101, 118, 101, 116]⟩, .string ⟨#[83, 104, 101, 118, 97, 116]⟩, .string ⟨#[65, 100, 97, 114]⟩, .string ⟨#[78, 105, 115, 97, 110]⟩, .string ⟨#[73, 121, 97, 114]⟩, .string ⟨#[83, 105, 118, 97, 110]⟩, .string ⟨#[84, 97, 109, 109, 117, 122]⟩, .string ⟨#[65, 118]⟩, .string ⟨#[69, 108, 117, 108]⟩]) (.int .i64 3)).run Tryz.prog w = .ok (.string ⟨#[84, 101, 118, 101, 116]⟩) w := fun _ => by kernel_rfl
      go_wp2_with (first | (at_mapUpdate; refine wpList_map_new _ rfl _ _ _ 64 rfl 9 23 Tryz.underlying64 Tryz.underlying9 w.heap.size 5 (codesAt 3) rfl hm _ _ rfl rfl (by kernel_rfl) ?_; intro w3 hm3 hB3) | fail)
      go_roundw
      case rel => exact ⟨4, by omega, by omega, rfl, hm3, But.below hB3 hB (Nat.le_refl _)⟩
      case measure => simp [intOf]
    · have hm : wr.heap[w.heap.size]? = some (.map (codesAt 4) 6) := hm
      have hix : ∀ w : World, (Instr.index 52 (.agg #[.string ⟨#[84, 105, 115, 104, 114, 105]⟩, .string ⟨#[72, 101, 115, 104, 118, 97, 110]⟩, .string ⟨#[75, 105, 115, 108, 101, 118]⟩, .string ⟨#[84, 101, 118, 101, 116]⟩, .string ⟨#[83, 104, 101, 118, 97, 116]⟩, .string ⟨#[65, 100, 97, 114]⟩, .string ⟨#[78, 105, 115, 97, 110]⟩, .string ⟨#[73, 121, 97, 114]⟩, .string ⟨#[83, 105, 118, 97, 110]⟩, .string ⟨#[84, 97, 109, 109, 117, 122]⟩, .string ⟨#[65, 118]⟩, .string ⟨#[69, 108, 117, 108]⟩]) (.int .i64 4)).run Tryz.prog w = .ok (.string ⟨#[83, 104, 101, 118, 97, 116]⟩) w := fun _ => by kernel_rfl
      go_wp2_with (first | (at_mapUpdate; refine wpList_map_new _ rfl _ _ _ 64 rfl 9 23 Tryz.underlying64 Tryz.underlying9 w.heap.size 6 (codesAt 4) rfl hm _ _ rfl rfl (by kernel_rfl) ?_; intro w3 hm3 hB3) | fail)
      go_roundw
      case rel => exact ⟨5, by omega, by omega, rfl, hm3, But.below hB3 hB (Nat.le_refl _)⟩
      case measure => simp [intOf]
    · have hm : wr.heap[w.heap.size]? = some (.map (codesAt 5) 7) := hm
      have hix : ∀ w : World, (Instr.index 52 (.agg #[.string ⟨#[84, 105, 115, 104, 114, 105]⟩, .string ⟨#[72, 101, 115, 104, 118, 97, 110]⟩, .string ⟨#[75, 105, 115, 108, 101, 118]⟩, .string ⟨#[84, 101, 118, 101, 116]⟩, .string ⟨#[83, 104, 101, 118, 97, 116]⟩, .string ⟨#[65, 100, 97, 114]⟩, .string ⟨#[78, 105, 115, 97, 110]⟩, .string ⟨#[73, 121, 97, 114]⟩, .string ⟨#[83, 105, 118, 97, 110]⟩, .string ⟨#[84, 97, 109, 109, 117, 122]⟩, .string ⟨#[65, 118]⟩, .string ⟨#[69, 108, 117, 108]⟩]) (.int .i64 5)).run Tryz.prog w = .ok (.string ⟨#[65, 100, 97, 114]⟩) w := fun _ => by kernel_rfl
      go_wp2_with (first | (at_mapUpdate; refine wpList_map_new _ rfl _ _ _ 64 rfl 9 23 Tryz.underlying64 Tryz.underlying9 w.heap.size 7 (codesAt 5) rfl hm _ _ rfl rfl (by kernel_rfl) ?_; intro w3 hm3 hB3) | fail)
      go_roundw
      case rel => exact ⟨6, by omega, by omega, rfl, hm3, But.below hB3 hB (Nat.le_refl _)⟩
      case measure => simp [intOf]
    · have hm : wr.heap[w.heap.size]? = some (.map (codesAt 6) 8) := hm
      have hix : ∀ w : World, (Instr.index 52 (.agg #[.string ⟨#[84, 105, 115, 104, 114, 105]⟩, .string ⟨#[72, 101, 115, 104, 118, 97, 110]⟩, .string ⟨#[75, 105, 115, 108, 101, 118]⟩, .string ⟨#[84, 101, 118, 101, 116]⟩, .string ⟨#[83, 104, 101, 118, 97, 116]⟩, .string ⟨#[65, 100, 97, 114]⟩, .string ⟨#[78, 105, 115, 97, 110]⟩, .string ⟨#[73, 121, 97, 114]⟩, .string ⟨#[83, 105, 118, 97, 110]⟩, .string ⟨#[84, 97, 109, 109, 117, 122]⟩, .string ⟨#[65, 118]⟩, .string ⟨#[69, 108, 117, 108]⟩]) (.int .i64 6)).run Tryz.prog w = .ok (.string ⟨#[78, 105, 115, 97, 110]⟩) w := fun _ => by kernel_rfl
      go_wp2_with (first | (at_mapUpdate; refine wpList_map_new _ rfl _ _ _ 64 rfl 9 23 Tryz.underlying64 Tryz.underlying9 w.heap.size 8 (codesAt 6) rfl hm _ _ rfl rfl (by kernel_rfl) ?_; intro w3 hm3 hB3) | fail)
      go_roundw
      case rel => exact ⟨7, by omega, by omega, rfl, hm3, But.below hB3 hB (Nat.le_refl _)⟩
      case measure => simp [intOf]
    · have hm : wr.heap[w.heap.size]? = some (.map (codesAt 7) 9) := hm
      have hix : ∀ w : World, (Instr.index 52 (.agg #[.string ⟨#[84, 105, 115, 104, 114, 105]⟩, .string ⟨#[72, 101, 115, 104, 118, 97, 110]⟩, .string ⟨#[75, 105, 115, 108, 101, 118]⟩, .string ⟨#[84, 101, 118, 101, 116]⟩, .string ⟨#[83, 104, 101, 118, 97, 116]⟩, .string ⟨#[65, 100, 97, 114]⟩, .string ⟨#[78, 105, 115, 97, 110]⟩, .string ⟨#[73, 121, 97, 114]⟩, .string ⟨#[83, 105, 118, 97, 110]⟩, .string ⟨#[84, 97, 109, 109, 117, 122]⟩, .string ⟨#[65, 118]⟩, .string ⟨#[69, 108, 117, 108]⟩]) (.int .i64 7)).run Tryz.prog w = .ok (.string ⟨#[73, 121, 97, 114]⟩) w := fun _ => by kernel_rfl
      go_wp2_with (first | (at_mapUpdate; refine wpList_map_new _ rfl _ _ _ 64 rfl 9 23 Tryz.underlying64 Tryz.underlying9 w.heap.size 9 (codesAt 7) rfl hm _ _ rfl rfl (by kernel_rfl) ?_; intro w3 hm3 hB3) | fail)
      go_roundw
      case rel => exact ⟨8, by omega, by omega, rfl, hm3, But.below hB3 hB (Nat.le_refl _)⟩
      case measure => simp [intOf]
    · have hm : wr.heap[w.heap.size]? = some (.map (codesAt 8) 10) := hm
      have hix : ∀ w : World, (Instr.index 52 (.agg #[.string ⟨#[84, 105, 115, 104, 114, 105]⟩, .string ⟨#[72, 101, 115, 104, 118, 97, 110]⟩, .string ⟨#[75, 105, 115, 108, 101, 118]⟩, .string ⟨#[84, 101, 118, 101, 116]⟩, .string ⟨#[83, 104, 101, 118, 97, 116]⟩, .string ⟨#[65, 100, 97, 114]⟩, .string ⟨#[78, 105, 115, 97, 110]⟩, .string ⟨#[73, 121, 97, 114]⟩, .string ⟨#[83, 105, 118, 97, 110]⟩, .string ⟨#[84, 97, 109, 109, 117, 122]⟩, .string ⟨#[65, 118]⟩, .string ⟨#[69, 108, 117, 108]⟩]) (.int .i64 8)).run Tryz.prog w = .ok (.string ⟨#[83, 105, 118, 97, 110]⟩) w := fun _ => by kernel_rfl
      go_wp2_with (first | (at_mapUpdate; refine wpList_map_new _ rfl _ _ _ 64 rfl 9 23 Tryz.underlying64 Tryz.underlying9 w.heap.size 10 (codesAt 8) rfl hm _ _ rfl rfl (by kernel_rfl) ?_; intro w3 hm3 hB3) | fail)
      go_roundw
      case rel => exact ⟨9, by omega, by omega, rfl, hm3, But.below hB3 hB (Nat.le_refl _)⟩
      case measure => simp [intOf]
    · have hm : wr.heap[w.heap.size]? = some (.map (codesAt 9) 11) := hm
      have hix : ∀ w : World, (Instr.index 52 (.agg #[.string ⟨#[84, 105, 115, 104, 114, 105]⟩, .string ⟨#[72, 101, 115, 104, 118, 97, 110]⟩, .string ⟨#[75, 105, 115, 108, 101, 118]⟩, .string ⟨#[84, 101, 118, 101, 116]⟩, .string ⟨#[83, 104, 101, 118, 97, 116]⟩, .string ⟨#[65, 100, 97, 114]⟩, .string ⟨#[78, 105, 115, 97, 110]⟩, .string ⟨#[73, 121, 97, 114]⟩, .string ⟨#[83, 105, 118, 97, 110]⟩, .string ⟨#[84, 97, 109, 109, 117, 122]⟩, .string ⟨#[65, 118]⟩, .string ⟨#[69, 108, 117, 108]⟩]) (.int .i64 9)).run Tryz.prog w = .ok (.string ⟨#[84, 97, 109, 109, 117, 122]⟩) w := fun _ => by kernel_rfl
      go_wp2_with (first | (at_mapUpdate; refine wpList_map_new _ rfl _ _ _ 64 rfl 9 23 Tryz.underlying64 Tryz.underlying9 w.heap.size 11 (codesAt 9) rfl hm _ _ rfl rfl (by kernel_rfl) ?_; intro w3 hm3 hB3) | fail)
      go_roundw
      case rel => exact ⟨10, by omega, by omega, rfl, hm3, But.below hB3 hB (Nat.le_refl _)⟩
      case measure => simp [intOf]
    · have hm : wr.heap[w.heap.size]? = some (.map (codesAt 10) 12) := hm
      have hix : ∀ w : World, (Instr.index 52 (.agg #[.string ⟨#[84, 105, 115, 104, 114, 105]⟩, .string ⟨#[72, 101, 115, 104, 118, 97, 110]⟩, .string ⟨#[75, 105, 115, 108, 101, 118]⟩, .string ⟨#[84, 101, 118, 101, 116]⟩, .string ⟨#[83, 104, 101, 118, 97, 116]⟩, .string ⟨#[65, 100, 97, 114]⟩, .string ⟨#[78, 105, 115, 97, 110]⟩, .string ⟨#[73, 121, 97, 114]⟩, .string ⟨#[83, 105, 118, 97, 110]⟩, .string ⟨#[84, 97, 109, 109, 117, 122]⟩, .string ⟨#[65, 118]⟩, .string ⟨#[69, 108, 117, 108]⟩]) (.int .i64 10)).run Tryz.prog w = .ok (.string ⟨#[65, 118]⟩) w := fun _ => by kernel_rfl
      go_wp2_with (first | (at_mapUpdate; refine wpList_map_new _ rfl _ _ _ 64 rfl 9 23 Tryz.underlying64 Tryz.underlying9 w.heap.size 12 (codesAt 10) rfl hm _ _ rfl rfl (by kernel_rfl) ?_; intro w3 hm3 hB3) | fail)
      go_roundw
      case rel => exact ⟨11, by omega, by omega, rfl, hm3, But.below hB3 hB (Nat.le_refl _)⟩
      case measure => simp [intOf]
    · have hm : wr.heap[w.heap.size]? = some (.map (codesAt 11) 13) := hm
      have hix : ∀ w : World, (Instr.index 52 (.agg #[.string ⟨#[84, 105, 115, 104, 114, 105]⟩, .string ⟨#[72, 101, 115, 104, 118, 97, 110]⟩, .string ⟨#[75, 105, 115, 108, 101, 118]⟩, .string ⟨#[84, 101, 118, 101, 116]⟩, .string ⟨#[83, 104, 101, 118, 97, 116]⟩, .string ⟨#[65, 100, 97, 114]⟩, .string ⟨#[78, 105, 115, 97, 110]⟩, .string ⟨#[73, 121, 97, 114]⟩, .string ⟨#[83, 105, 118, 97, 110]⟩, .string ⟨#[84, 97, 109, 109, 117, 122]⟩, .string ⟨#[65, 118]⟩, .string ⟨#[69, 108, 117, 108]⟩]) (.int .i64 11)).run Tryz.prog w = .ok (.string ⟨#[69, 108, 117, 108]⟩) w := fun _ => by kernel_rfl
      go_wp2_with (first | (at_mapUpdate; refine wpList_map_new _ rfl _ _ _ 64 rfl 9 23 Tryz.underlying64 Tryz.underlying9 w.heap.size 13 (codesAt 11) rfl hm _ _ rfl rfl (by kernel_rfl) ?_; intro w3 hm3 hB3) | fail)
      go_roundw
      case rel => exact ⟨12, by omega, by omega, rfl, hm3, But.below hB3 hB (Nat.le_refl _)⟩
      case measure => simp [intOf]
    · go_wp2_with fail
      go_ret
      exact ⟨rfl, hm, hB⟩
end Go.Proofs.YtagmdglmflcegaaGreatDoor
