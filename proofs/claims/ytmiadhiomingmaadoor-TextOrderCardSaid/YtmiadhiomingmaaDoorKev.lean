/- Layer 7: the table of types, and what reads it. -/
import Derived.Test.YtmiadhiomingmaaDoorLA
import Derived.Deep.RegionHeld3
import Derived.LoopTactic
import Derived.Deep.QuietTactic
import Derived.BigQuiet
import Derived.Lib.SmallJoins
namespace Go.Proofs.YtmiadhiomingmaaDoor
open Go.ChangeShapes Go.WideShapes Go.ChangeAt Go.RowKit
set_option linter.unusedVariables false
set_option maxRecDepth 100000
/-- The types' rows: weekday, kind, leap. -/
def kevB : Nat → Int
  | 0 => 1 | 1 => 1 | 2 => 2 | 3 => 4 | 4 => 4 | 5 => 6 | 6 => 6 | 7 => 1 | 8 => 1 | 9 => 2 | 10 => 4 | 11 => 4 | 12 => 6 | _ => 6
def kevK : Nat → Int
  | 0 => 0 | 1 => 2 | 2 => 1 | 3 => 1 | 4 => 2 | 5 => 0 | 6 => 2 | 7 => 0 | 8 => 2 | 9 => 1 | 10 => 0 | 11 => 2 | 12 => 0 | _ => 2
def kevL (i : Nat) : Bool := decide (7 ≤ i)
/-- The table lies in memory as the text lays it. -/
def Kev (w : World) : Prop := (∀ i, i < 14 → w.cell? ⟨8, i * 3, none⟩ = some (.int .i64 (kevB i)) ∧ w.cell? ⟨8, i * 3 + 1, none⟩ = some (.int .i64 (kevK i)) ∧ w.cell? ⟨8, i * 3 + 2, none⟩ = some (.bool (kevL i))) ∧ 8 < w.heap.size
theorem Kev.below {a b : World} (h : Kev a) (hb : Below a.heap.size a b) : Kev b :=
  ⟨fun i hi => ⟨(hb.cell (p := ⟨_, _, none⟩) h.2).trans (h.1 i hi).1, (hb.cell (p := ⟨_, _, none⟩) h.2).trans (h.1 i hi).2.1, (hb.cell (p := ⟨_, _, none⟩) h.2).trans (h.1 i hi).2.2⟩, Nat.lt_of_lt_of_le h.2 hb.size⟩
theorem third (w : World) (A B : Obj) (C : Array Value) (t : TypeId) (j : Nat) : (((w.alloc A).alloc B).alloc (.cells C t)).cell? ⟨w.heap.size + 1 + 1, j, none⟩ = C[j]? := Joins.cell_alloc_mark_at _ _ _ _ _ _ (by simp)
theorem bs0 {a b : World} (h : Below a.heap.size a b) (o : Nat) (u : Value) : Below a.heap.size a (b.setCell ⟨a.heap.size, o, none⟩ u) := h.setCell (Nat.le_refl _) u
theorem bdx {a b : World} (h : Below a.heap.size a b) : Below a.heap.size a b.drew := h.drew
set_option maxHeartbeats 1000000 in
theorem ref7_Type_0 (w : World) :
    Calls Tryd.prog 157 #[.int .i64 1] w fun e w' => e = .returned (.tuple #[.agg #[.int .i64 1, .int .i64 0, .bool false], .bool true]) ∧ Below w.heap.size w w' := by
  go_enter Tryd.func157, Tryd.ntmps157
  go_wp2_with fail
  have h3 := third w
  have hw0 : IntKind.i64.wrap (1 - 1) = 0 := by decide
  have hw1 : IntKind.i64.wrap 0 = 0 := by decide
  go_region_held3 (fun x => x.cell? ⟨w.heap.size + 1, 0, none⟩ = some (.int .i64 1) ∧ x.cell? ⟨w.heap.size + 1 + 1, 0, none⟩ = some (.int .i64 0)) (go_keep) (first | fail)
  all_goals go_wp2_with fail
  all_goals refine bodyPost_ret (v := .tuple #[.agg #[.int .i64 1, .int .i64 0, .bool false], .bool true]) (by simp [results, Tryd.results157, go_sem]) rfl ⟨rfl, ?_⟩
  all_goals first | exact bs0 (bs0 (bs0 (bdx (baa (baa (ba _ _) _) _)) _ _) _ _) _ _ | exact bdx (bs0 (bs0 (bs0 (baa (baa (ba _ _) _) _) _ _) _ _) _ _) | exact bdx (baa (baa (ba _ _) _) _) | trace_state
set_option maxHeartbeats 1000000 in
theorem ref7_Type_1 (w : World) :
    Calls Tryd.prog 157 #[.int .i64 2] w fun e w' => e = .returned (.tuple #[.agg #[.int .i64 1, .int .i64 2, .bool false], .bool true]) ∧ Below w.heap.size w w' := by
  go_enter Tryd.func157, Tryd.ntmps157
  go_wp2_with fail
  have h3 := third w
  have hw0 : IntKind.i64.wrap (2 - 1) = 1 := by decide
  have hw1 : IntKind.i64.wrap 1 = 1 := by decide
  go_region_held3 (fun x => x.cell? ⟨w.heap.size + 1, 1, none⟩ = some (.int .i64 1) ∧ x.cell? ⟨w.heap.size + 1 + 1, 1, none⟩ = some (.int .i64 2)) (go_keep) (first | fail)
  all_goals go_wp2_with fail
  all_goals refine bodyPost_ret (v := .tuple #[.agg #[.int .i64 1, .int .i64 2, .bool false], .bool true]) (by simp [results, Tryd.results157, go_sem]) rfl ⟨rfl, ?_⟩
  all_goals first | exact bs0 (bs0 (bs0 (bdx (baa (baa (ba _ _) _) _)) _ _) _ _) _ _ | exact bdx (bs0 (bs0 (bs0 (baa (baa (ba _ _) _) _) _ _) _ _) _ _) | exact bdx (baa (baa (ba _ _) _) _) | trace_state
set_option maxHeartbeats 1000000 in
theorem ref7_Type_2 (w : World) :
    Calls Tryd.prog 157 #[.int .i64 3] w fun e w' => e = .returned (.tuple #[.agg #[.int .i64 2, .int .i64 1, .bool false], .bool true]) ∧ Below w.heap.size w w' := by
  go_enter Tryd.func157, Tryd.ntmps157
  go_wp2_with fail
  have h3 := third w
  have hw0 : IntKind.i64.wrap (3 - 1) = 2 := by decide
  have hw1 : IntKind.i64.wrap 2 = 2 := by decide
  go_region_held3 (fun x => x.cell? ⟨w.heap.size + 1, 2, none⟩ = some (.int .i64 2) ∧ x.cell? ⟨w.heap.size + 1 + 1, 2, none⟩ = some (.int .i64 1)) (go_keep) (first | fail)
  all_goals go_wp2_with fail
  all_goals refine bodyPost_ret (v := .tuple #[.agg #[.int .i64 2, .int .i64 1, .bool false], .bool true]) (by simp [results, Tryd.results157, go_sem]) rfl ⟨rfl, ?_⟩
  all_goals first | exact bs0 (bs0 (bs0 (bdx (baa (baa (ba _ _) _) _)) _ _) _ _) _ _ | exact bdx (bs0 (bs0 (bs0 (baa (baa (ba _ _) _) _) _ _) _ _) _ _) | exact bdx (baa (baa (ba _ _) _) _) | trace_state
set_option maxHeartbeats 1000000 in
theorem ref7_Type_3 (w : World) :
    Calls Tryd.prog 157 #[.int .i64 4] w fun e w' => e = .returned (.tuple #[.agg #[.int .i64 4, .int .i64 1, .bool false], .bool true]) ∧ Below w.heap.size w w' := by
  go_enter Tryd.func157, Tryd.ntmps157
  go_wp2_with fail
  have h3 := third w
  have hw0 : IntKind.i64.wrap (4 - 1) = 3 := by decide
  have hw1 : IntKind.i64.wrap 3 = 3 := by decide
  go_region_held3 (fun x => x.cell? ⟨w.heap.size + 1, 3, none⟩ = some (.int .i64 4) ∧ x.cell? ⟨w.heap.size + 1 + 1, 3, none⟩ = some (.int .i64 1)) (go_keep) (first | fail)
  all_goals go_wp2_with fail
  all_goals refine bodyPost_ret (v := .tuple #[.agg #[.int .i64 4, .int .i64 1, .bool false], .bool true]) (by simp [results, Tryd.results157, go_sem]) rfl ⟨rfl, ?_⟩
  all_goals first | exact bs0 (bs0 (bs0 (bdx (baa (baa (ba _ _) _) _)) _ _) _ _) _ _ | exact bdx (bs0 (bs0 (bs0 (baa (baa (ba _ _) _) _) _ _) _ _) _ _) | exact bdx (baa (baa (ba _ _) _) _) | trace_state
set_option maxHeartbeats 1000000 in
theorem ref7_Type_4 (w : World) :
    Calls Tryd.prog 157 #[.int .i64 5] w fun e w' => e = .returned (.tuple #[.agg #[.int .i64 4, .int .i64 2, .bool false], .bool true]) ∧ Below w.heap.size w w' := by
  go_enter Tryd.func157, Tryd.ntmps157
  go_wp2_with fail
  have h3 := third w
  have hw0 : IntKind.i64.wrap (5 - 1) = 4 := by decide
  have hw1 : IntKind.i64.wrap 4 = 4 := by decide
  go_region_held3 (fun x => x.cell? ⟨w.heap.size + 1, 4, none⟩ = some (.int .i64 4) ∧ x.cell? ⟨w.heap.size + 1 + 1, 4, none⟩ = some (.int .i64 2)) (go_keep) (first | fail)
  all_goals go_wp2_with fail
  all_goals refine bodyPost_ret (v := .tuple #[.agg #[.int .i64 4, .int .i64 2, .bool false], .bool true]) (by simp [results, Tryd.results157, go_sem]) rfl ⟨rfl, ?_⟩
  all_goals first | exact bs0 (bs0 (bs0 (bdx (baa (baa (ba _ _) _) _)) _ _) _ _) _ _ | exact bdx (bs0 (bs0 (bs0 (baa (baa (ba _ _) _) _) _ _) _ _) _ _) | exact bdx (baa (baa (ba _ _) _) _) | trace_state
set_option maxHeartbeats 1000000 in
theorem ref7_Type_5 (w : World) :
    Calls Tryd.prog 157 #[.int .i64 6] w fun e w' => e = .returned (.tuple #[.agg #[.int .i64 6, .int .i64 0, .bool false], .bool true]) ∧ Below w.heap.size w w' := by
  go_enter Tryd.func157, Tryd.ntmps157
  go_wp2_with fail
  have h3 := third w
  have hw0 : IntKind.i64.wrap (6 - 1) = 5 := by decide
  have hw1 : IntKind.i64.wrap 5 = 5 := by decide
  go_region_held3 (fun x => x.cell? ⟨w.heap.size + 1, 5, none⟩ = some (.int .i64 6) ∧ x.cell? ⟨w.heap.size + 1 + 1, 5, none⟩ = some (.int .i64 0)) (go_keep) (first | fail)
  all_goals go_wp2_with fail
  all_goals refine bodyPost_ret (v := .tuple #[.agg #[.int .i64 6, .int .i64 0, .bool false], .bool true]) (by simp [results, Tryd.results157, go_sem]) rfl ⟨rfl, ?_⟩
  all_goals first | exact bs0 (bs0 (bs0 (bdx (baa (baa (ba _ _) _) _)) _ _) _ _) _ _ | exact bdx (bs0 (bs0 (bs0 (baa (baa (ba _ _) _) _) _ _) _ _) _ _) | exact bdx (baa (baa (ba _ _) _) _) | trace_state
set_option maxHeartbeats 1000000 in
theorem ref7_Type_6 (w : World) :
    Calls Tryd.prog 157 #[.int .i64 7] w fun e w' => e = .returned (.tuple #[.agg #[.int .i64 6, .int .i64 2, .bool false], .bool true]) ∧ Below w.heap.size w w' := by
  go_enter Tryd.func157, Tryd.ntmps157
  go_wp2_with fail
  have h3 := third w
  have hw0 : IntKind.i64.wrap (7 - 1) = 6 := by decide
  have hw1 : IntKind.i64.wrap 6 = 6 := by decide
  go_region_held3 (fun x => x.cell? ⟨w.heap.size + 1, 6, none⟩ = some (.int .i64 6) ∧ x.cell? ⟨w.heap.size + 1 + 1, 6, none⟩ = some (.int .i64 2)) (go_keep) (first | fail)
  all_goals go_wp2_with fail
  all_goals refine bodyPost_ret (v := .tuple #[.agg #[.int .i64 6, .int .i64 2, .bool false], .bool true]) (by simp [results, Tryd.results157, go_sem]) rfl ⟨rfl, ?_⟩
  all_goals first | exact bs0 (bs0 (bs0 (bdx (baa (baa (ba _ _) _) _)) _ _) _ _) _ _ | exact bdx (bs0 (bs0 (bs0 (baa (baa (ba _ _) _) _) _ _) _ _) _ _) | exact bdx (baa (baa (ba _ _) _) _) | trace_state
set_option maxHeartbeats 1000000 in
theorem ref7_Type_7 (w : World) :
    Calls Tryd.prog 157 #[.int .i64 8] w fun e w' => e = .returned (.tuple #[.agg #[.int .i64 1, .int .i64 0, .bool true], .bool true]) ∧ Below w.heap.size w w' := by
  go_enter Tryd.func157, Tryd.ntmps157
  go_wp2_with fail
  have h3 := third w
  have hw0 : IntKind.i64.wrap (8 - 1) = 7 := by decide
  have hw1 : IntKind.i64.wrap 7 = 7 := by decide
  go_region_held3 (fun x => x.cell? ⟨w.heap.size + 1, 7, none⟩ = some (.int .i64 1) ∧ x.cell? ⟨w.heap.size + 1 + 1, 7, none⟩ = some (.int .i64 0)) (go_keep) (first | fail)
  all_goals go_wp2_with fail
  all_goals refine bodyPost_ret (v := .tuple #[.agg #[.int .i64 1, .int .i64 0, .bool true], .bool true]) (by simp [results, Tryd.results157, go_sem]) rfl ⟨rfl, ?_⟩
  all_goals first | exact bs0 (bs0 (bs0 (bdx (baa (baa (ba _ _) _) _)) _ _) _ _) _ _ | exact bdx (bs0 (bs0 (bs0 (baa (baa (ba _ _) _) _) _ _) _ _) _ _) | exact bdx (baa (baa (ba _ _) _) _) | trace_state
set_option maxHeartbeats 1000000 in
theorem ref7_Type_8 (w : World) :
    Calls Tryd.prog 157 #[.int .i64 9] w fun e w' => e = .returned (.tuple #[.agg #[.int .i64 1, .int .i64 2, .bool true], .bool true]) ∧ Below w.heap.size w w' := by
  go_enter Tryd.func157, Tryd.ntmps157
  go_wp2_with fail
  have h3 := third w
  have hw0 : IntKind.i64.wrap (9 - 1) = 8 := by decide
  have hw1 : IntKind.i64.wrap 8 = 8 := by decide
  go_region_held3 (fun x => x.cell? ⟨w.heap.size + 1, 8, none⟩ = some (.int .i64 1) ∧ x.cell? ⟨w.heap.size + 1 + 1, 8, none⟩ = some (.int .i64 2)) (go_keep) (first | fail)
  all_goals go_wp2_with fail
  all_goals refine bodyPost_ret (v := .tuple #[.agg #[.int .i64 1, .int .i64 2, .bool true], .bool true]) (by simp [results, Tryd.results157, go_sem]) rfl ⟨rfl, ?_⟩
  all_goals first | exact bs0 (bs0 (bs0 (bdx (baa (baa (ba _ _) _) _)) _ _) _ _) _ _ | exact bdx (bs0 (bs0 (bs0 (baa (baa (ba _ _) _) _) _ _) _ _) _ _) | exact bdx (baa (baa (ba _ _) _) _) | trace_state
set_option maxHeartbeats 1000000 in
theorem ref7_Type_9 (w : World) :
    Calls Tryd.prog 157 #[.int .i64 10] w fun e w' => e = .returned (.tuple #[.agg #[.int .i64 2, .int .i64 1, .bool true], .bool true]) ∧ Below w.heap.size w w' := by
  go_enter Tryd.func157, Tryd.ntmps157
  go_wp2_with fail
  have h3 := third w
  have hw0 : IntKind.i64.wrap (10 - 1) = 9 := by decide
  have hw1 : IntKind.i64.wrap 9 = 9 := by decide
  go_region_held3 (fun x => x.cell? ⟨w.heap.size + 1, 9, none⟩ = some (.int .i64 2) ∧ x.cell? ⟨w.heap.size + 1 + 1, 9, none⟩ = some (.int .i64 1)) (go_keep) (first | fail)
  all_goals go_wp2_with fail
  all_goals refine bodyPost_ret (v := .tuple #[.agg #[.int .i64 2, .int .i64 1, .bool true], .bool true]) (by simp [results, Tryd.results157, go_sem]) rfl ⟨rfl, ?_⟩
  all_goals first | exact bs0 (bs0 (bs0 (bdx (baa (baa (ba _ _) _) _)) _ _) _ _) _ _ | exact bdx (bs0 (bs0 (bs0 (baa (baa (ba _ _) _) _) _ _) _ _) _ _) | exact bdx (baa (baa (ba _ _) _) _) | trace_state
set_option maxHeartbeats 1000000 in
theorem ref7_Type_10 (w : World) :
    Calls Tryd.prog 157 #[.int .i64 11] w fun e w' => e = .returned (.tuple #[.agg #[.int .i64 4, .int .i64 0, .bool true], .bool true]) ∧ Below w.heap.size w w' := by
  go_enter Tryd.func157, Tryd.ntmps157
  go_wp2_with fail
  have h3 := third w
  have hw0 : IntKind.i64.wrap (11 - 1) = 10 := by decide
  have hw1 : IntKind.i64.wrap 10 = 10 := by decide
  go_region_held3 (fun x => x.cell? ⟨w.heap.size + 1, 10, none⟩ = some (.int .i64 4) ∧ x.cell? ⟨w.heap.size + 1 + 1, 10, none⟩ = some (.int .i64 0)) (go_keep) (first | fail)
  all_goals go_wp2_with fail
  all_goals refine bodyPost_ret (v := .tuple #[.agg #[.int .i64 4, .int .i64 0, .bool true], .bool true]) (by simp [results, Tryd.results157, go_sem]) rfl ⟨rfl, ?_⟩
  all_goals first | exact bs0 (bs0 (bs0 (bdx (baa (baa (ba _ _) _) _)) _ _) _ _) _ _ | exact bdx (bs0 (bs0 (bs0 (baa (baa (ba _ _) _) _) _ _) _ _) _ _) | exact bdx (baa (baa (ba _ _) _) _) | trace_state
set_option maxHeartbeats 1000000 in
theorem ref7_Type_11 (w : World) :
    Calls Tryd.prog 157 #[.int .i64 12] w fun e w' => e = .returned (.tuple #[.agg #[.int .i64 4, .int .i64 2, .bool true], .bool true]) ∧ Below w.heap.size w w' := by
  go_enter Tryd.func157, Tryd.ntmps157
  go_wp2_with fail
  have h3 := third w
  have hw0 : IntKind.i64.wrap (12 - 1) = 11 := by decide
  have hw1 : IntKind.i64.wrap 11 = 11 := by decide
  go_region_held3 (fun x => x.cell? ⟨w.heap.size + 1, 11, none⟩ = some (.int .i64 4) ∧ x.cell? ⟨w.heap.size + 1 + 1, 11, none⟩ = some (.int .i64 2)) (go_keep) (first | fail)
  all_goals go_wp2_with fail
  all_goals refine bodyPost_ret (v := .tuple #[.agg #[.int .i64 4, .int .i64 2, .bool true], .bool true]) (by simp [results, Tryd.results157, go_sem]) rfl ⟨rfl, ?_⟩
  all_goals first | exact bs0 (bs0 (bs0 (bdx (baa (baa (ba _ _) _) _)) _ _) _ _) _ _ | exact bdx (bs0 (bs0 (bs0 (baa (baa (ba _ _) _) _) _ _) _ _) _ _) | exact bdx (baa (baa (ba _ _) _) _) | trace_state
set_option maxHeartbeats 1000000 in
theorem ref7_Type_12 (w : World) :
    Calls Tryd.prog 157 #[.int .i64 13] w fun e w' => e = .returned (.tuple #[.agg #[.int .i64 6, .int .i64 0, .bool true], .bool true]) ∧ Below w.heap.size w w' := by
  go_enter Tryd.func157, Tryd.ntmps157
  go_wp2_with fail
  have h3 := third w
  have hw0 : IntKind.i64.wrap (13 - 1) = 12 := by decide
  have hw1 : IntKind.i64.wrap 12 = 12 := by decide
  go_region_held3 (fun x => x.cell? ⟨w.heap.size + 1, 12, none⟩ = some (.int .i64 6) ∧ x.cell? ⟨w.heap.size + 1 + 1, 12, none⟩ = some (.int .i64 0)) (go_keep) (first | fail)
  all_goals go_wp2_with fail
  all_goals refine bodyPost_ret (v := .tuple #[.agg #[.int .i64 6, .int .i64 0, .bool true], .bool true]) (by simp [results, Tryd.results157, go_sem]) rfl ⟨rfl, ?_⟩
  all_goals first | exact bs0 (bs0 (bs0 (bdx (baa (baa (ba _ _) _) _)) _ _) _ _) _ _ | exact bdx (bs0 (bs0 (bs0 (baa (baa (ba _ _) _) _) _ _) _ _) _ _) | exact bdx (baa (baa (ba _ _) _) _) | trace_state
set_option maxHeartbeats 1000000 in
theorem ref7_Type_13 (w : World) :
    Calls Tryd.prog 157 #[.int .i64 14] w fun e w' => e = .returned (.tuple #[.agg #[.int .i64 6, .int .i64 2, .bool true], .bool true]) ∧ Below w.heap.size w w' := by
  go_enter Tryd.func157, Tryd.ntmps157
  go_wp2_with fail
  have h3 := third w
  have hw0 : IntKind.i64.wrap (14 - 1) = 13 := by decide
  have hw1 : IntKind.i64.wrap 13 = 13 := by decide
  go_region_held3 (fun x => x.cell? ⟨w.heap.size + 1, 13, none⟩ = some (.int .i64 6) ∧ x.cell? ⟨w.heap.size + 1 + 1, 13, none⟩ = some (.int .i64 2)) (go_keep) (first | fail)
  all_goals go_wp2_with fail
  all_goals refine bodyPost_ret (v := .tuple #[.agg #[.int .i64 6, .int .i64 2, .bool true], .bool true]) (by simp [results, Tryd.results157, go_sem]) rfl ⟨rfl, ?_⟩
  all_goals first | exact bs0 (bs0 (bs0 (bdx (baa (baa (ba _ _) _) _)) _ _) _ _) _ _ | exact bdx (bs0 (bs0 (bs0 (baa (baa (ba _ _) _) _) _ _) _ _) _ _) | exact bdx (baa (baa (ba _ _) _) _) | trace_state
end Go.Proofs.YtmiadhiomingmaaDoor
