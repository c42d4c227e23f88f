/- Layer 14: looking into the map of codes. -/
import Derived.Test.YtagmdglmflcegaaGreatDoorName3
import Derived.Test.YtagmdglmflcegaaGreatDoorSha
namespace Go.Proofs.YtagmdglmflcegaaGreatDoor
open Go.ChangeShapes Go.WideShapes Go.ChangeAt Go.RowKit
set_option linter.unusedVariables false
set_option maxRecDepth 100000
theorem run_map_look {P : Program} {w : World} (t kt et : TypeId) (b clock : Nat) (es : Array MapEntry) (s : ByteArray) (i : Nat) (v : Value) (ht : P.underlying t = some (.map kt et)) (hk : P.underlying kt = some .string)
    (hb : w.heap[b]? = some (.map es clock)) (hf : Instr.findNow .string (.string s) es.toList 0 = some (some (i, v))) :
    (Instr.lookup t (.map (some b)) (.string s) true).run P w = .ok (.tuple #[v, .bool true]) w := by
  have hc : ∀ e, (Instr.checkKey e 10000 kt (.string s)).run P w = .ok () w := fun e => MapKept.run_checkKey (k := .string s) hk (by simp [MapKept.IsKey]) e 9999
  simp [Instr.lookup, run_underlying ht, MapKept.run_getObj_map hb, hc, MapKept.run_findKey hk hf, Result.andThen]
theorem run_map_none {P : Program} {w : World} (t kt et : TypeId) (b clock : Nat) (es : Array MapEntry) (s : ByteArray) (z : Value) (ht : P.underlying t = some (.map kt et)) (hk : P.underlying kt = some .string)
    (hz : (zeroValue et).run P w = .ok z w)
    (hb : w.heap[b]? = some (.map es clock)) (hf : Instr.findNow .string (.string s) es.toList 0 = some none) :
    (Instr.lookup t (.map (some b)) (.string s) true).run P w = .ok (.tuple #[z, .bool false]) w := by
  have hc : ∀ e, (Instr.checkKey e 10000 kt (.string s)).run P w = .ok () w := fun e => MapKept.run_checkKey (k := .string s) hk (by simp [MapKept.IsKey]) e 9999
  simp [Instr.lookup, run_underlying ht, MapKept.run_getObj_map hb, hc, MapKept.run_findKey hk hf, hz, Result.andThen]
theorem cut_at (s sep : ByteArray) (m : Int) (w : World) (hs : s.size < 4294967281) (hm : MaxAt w m) :
    Calls Tryz.prog 38 #[.string s, .string sep] w fun e w' => e = .returned (.tuple #[.string ⟨(Lib.cut s.data.toList sep.data.toList).1.toArray⟩, .string ⟨(Lib.cut s.data.toList sep.data.toList).2.1.toArray⟩, .bool (Lib.cut s.data.toList sep.data.toList).2.2]) ∧ Below w.heap.size w w' := by
  refine (Tryz.strings_Cut s sep m w hs hm.1).mono ?_
  rintro e w1 ⟨he, n, rfl⟩
  exact ⟨he, Joins.below_draws _ _ _⟩
theorem last_at (s : ByteArray) (w : World) (hs : s.size ≤ 1000000) :
    Calls Tryz.prog 39 #[.string s, .string ⟨#[32]⟩] w fun e w' => e = .returned (.int .i64 (Go.Lib.lastIndexByte s 32)) ∧ w = w' :=
  (Tryz.strings_LastIndex_one s ⟨#[32]⟩ rfl (by omega) w).mono fun _ _ h => ⟨h.1, h.2.symm⟩
theorem cut_ex : Lib.cut [51, 48, 32, 65, 100, 97, 114, 32, 73, 32, 53, 55, 56, 52] [32] = ([51, 48], [65, 100, 97, 114, 32, 73, 32, 53, 55, 56, 52], true) := by decide +kernel
theorem look_ex : ((Instr.findNow .string (.string ⟨#[65, 100, 97, 114, 32, 73]⟩) (codesAt 12).toList 0).map fun o => o.map fun q => q.1) = some (some 0) := by kernel_rfl
end Go.Proofs.YtagmdglmflcegaaGreatDoor
