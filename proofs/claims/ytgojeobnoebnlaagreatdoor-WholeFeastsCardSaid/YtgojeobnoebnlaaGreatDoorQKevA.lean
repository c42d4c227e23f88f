import Derived.Test.YtgojeobnoebnlaaGreatDoorQKev
import Derived.Deep.RegionHeld3
import Derived.LoopTactic
import Derived.Deep.QuietTactic
import Derived.BigQuiet
import Derived.Lib.SmallJoins
set_option maxHeartbeats 8000000
set_option maxRecDepth 100000
set_option linter.unusedVariables false
namespace Go.Proofs.YtgojeobnoebnlaaGreatDoor
open Go.ChangeShapes Go.WideShapes Go.ChangeAt Go.RowKit
theorem ref7_Type_0 (w : World) :
  Calls Tryo.prog 180 #[.int .i64 1] w fun e w' => e = .returned (.tuple #[.agg #[.int .i64 1, .int .i64 0, .bool false], .bool true]) ∧ Below w.heap.size w w' := by
 go_enter Tryo.func180, Tryz.ntmps180
 go_wp2_with fail
 have h3 := third w
 have hw0 : IntKind.i64.wrap (1 - 1) = 0 := by decide
 have hw1 : IntKind.i64.wrap 0 = 0 := by decide
 go_region_held3 (fun x => x.cell? ⟨w.heap.size + 1, 0, none⟩ = some (.int .i64 1) ∧ x.cell? ⟨w.heap.size + 1 + 1, 0, none⟩ = some (.int .i64 0)) (go_keep) (first | fail)
 all_goals go_wp2_with fail
 all_goals refine bodyPost_ret (v := .tuple #[.agg #[.int .i64 1, .int .i64 0, .bool false], .bool true]) (by simp [results, Tryz.results180, go_sem]) rfl ⟨rfl, ?_⟩
 all_goals first | exact bs0 (bs0 (bs0 (bdx (baa (baa (ba _ _) _) _)) _ _) _ _) _ _ | exact bdx (bs0 (bs0 (bs0 (baa (baa (ba _ _) _) _) _ _) _ _) _ _) | exact bdx (baa (baa (ba _ _) _) _) | trace_state
theorem ref7_Type_1 (w : World) :
  Calls Tryo.prog 180 #[.int .i64 2] w fun e w' => e = .returned (.tuple #[.agg #[.int .i64 1, .int .i64 2, .bool false], .bool true]) ∧ Below w.heap.size w w' := by
 go_enter Tryo.func180, Tryz.ntmps180
 go_wp2_with fail
 have h3 := third w
 have hw0 : IntKind.i64.wrap (2 - 1) = 1 := by decide
 have hw1 : IntKind.i64.wrap 1 = 1 := by decide
 go_region_held3 (fun x => x.cell? ⟨w.heap.size + 1, 1, none⟩ = some (.int .i64 1) ∧ x.cell? ⟨w.heap.size + 1 + 1, 1, none⟩ = some (.int .i64 2)) (go_keep) (first | fail)
 all_goals go_wp2_with fail
 all_goals refine bodyPost_ret (v := .tuple #[.agg #[.int .i64 1, .int .i64 2, .bool false], .bool true]) (by simp [results, Tryz.results180, go_sem]) rfl ⟨rfl, ?_⟩
 all_goals first | exact bs0 (bs0 (bs0 (bdx (baa (baa (ba _ _) _) _)) _ _) _ _) _ _ | exact bdx (bs0 (bs0 (bs0 (baa (baa (ba _ _) _) _) _ _) _ _) _ _) | exact bdx (baa (baa (ba _ _) _) _) | trace_state
theorem ref7_Type_2 (w : World) :
  Calls Tryo.prog 180 #[.int .i64 3] w fun e w' => e = .returned (.tuple #[.agg #[.int .i64 2, .int .i64 1, .bool false], .bool true]) ∧ Below w.heap.size w w' := by
 go_enter Tryo.func180, Tryz.ntmps180
 go_wp2_with fail
 have h3 := third w
 have hw0 : IntKind.i64.wrap (3 - 1) = 2 := by decide
 have hw1 : IntKind.i64.wrap 2 = 2 := by decide
 go_region_held3 (fun x => x.cell? ⟨w.heap.size + 1, 2, none⟩ = some (.int .i64 2) ∧ x.cell? ⟨w.heap.size + 1 + 1, 2, none⟩ = some (.int .i64 1)) (go_keep) (first | fail)
 all_goals go_wp2_with fail
 all_goals refine bodyPost_ret (v := .tuple #[.agg #[.int .i64 2, .int .i64 1, .bool false], .bool true]) (by simp [results, Tryz.results180, go_sem]) rfl ⟨rfl, ?_⟩
 all_goals first | exact bs0 (bs0 (bs0 (bdx (baa (baa (ba _ _) _) _)) _ _) _ _) _ _ | exact bdx (bs0 (bs0 (bs0 (baa (baa (ba _ _) _) _) _ _) _ _) _ _) | exact bdx (baa (baa (ba _ _) _) _) | trace_state
theorem ref7_Type_3 (w : World) :
  Calls Tryo.prog 180 #[.int .i64 4] w fun e w' => e = .returned (.tuple #[.agg #[.int .i64 4, .int .i64 1, .bool false], .bool true]) ∧ Below w.heap.size w w' := by
 go_enter Tryo.func180, Tryz.ntmps180
 go_wp2_with fail
 have h3 := third w
 have hw0 : IntKind.i64.wrap (4 - 1) = 3 := by decide
 have hw1 : IntKind.i64.wrap 3 = 3 := by decide
 go_region_held3 (fun x => x.cell? ⟨w.heap.size + 1, 3, none⟩ = some (.int .i64 4) ∧ x.cell? ⟨w.heap.size + 1 + 1, 3, none⟩ = some (.int .i64 1)) (go_keep) (first | fail)
 all_goals go_wp2_with fail
 all_goals refine bodyPost_ret (v := .tuple #[.agg #[.int .i64 4, .int .i64 1, .bool false], .bool true]) (by simp [results, Tryz.results180, go_sem]) rfl ⟨rfl, ?_⟩
 all_goals first | exact bs0 (bs0 (bs0 (bdx (baa (baa (ba _ _) _) _)) _ _) _ _) _ _ | exact bdx (bs0 (bs0 (bs0 (baa (baa (ba _ _) _) _) _ _) _ _) _ _) | exact bdx (baa (baa (ba _ _) _) _) | trace_state
end Go.Proofs.YtgojeobnoebnlaaGreatDoor
