import Derived.Test.YtgojeobnoebnlaaGreatDoorQKev
import Derived.Deep.RegionHeld3
import Derived.LoopTactic
import Derived.Deep.QuietTactic
import Derived.BigQuiet
import Derived.Lib.SmallJoins
set_option maxHeartbeats 8000000
set_option maxRecDepth 100000
set_option linter.unusedVariables false
namespace Go.Proofs.YtgojeobnoebnlaaGreatDoor
open Go.ChangeShapes Go.WideShapes Go.ChangeAt Go.RowKit
theorem ref7_Type_8 (w : World) :
  Calls Tryo.prog 180 #[.int .i64 9] w fun e w' => e = .returned (.tuple #[.agg #[.int .i64 1, .int .i64 2, .bool true], .bool true]) ∧ Below w.heap.size w w' := by
 go_enter Tryo.func180, Tryz.ntmps180
 go_wp2_with fail
 have h3 := third w
 have hw0 : IntKind.i64.wrap (9 - 1) = 8 := by decide
 have hw1 : IntKind.i64.wrap 8 = 8 := by decide
 go_region_held3 (fun x => x.cell? ⟨w.heap.size + 1, 8, none⟩ = some (.int .i64 1) ∧ x.cell? ⟨w.heap.size + 1 + 1, 8, none⟩ = some (.int .i64 2)) (go_keep) (first | fail)
 all_goals go_wp2_with fail
 all_goals refine bodyPost_ret (v := .tuple #[.agg #[.int .i64 1, .int .i64 2, .bool true], .bool true]) (by simp [results, Tryz.results180, go_sem]) rfl ⟨rfl, ?_⟩
 all_goals first | exact bs0 (bs0 (bs0 (bdx (baa (baa (ba _ _) _) _)) _ _) _ _) _ _ | exact bdx (bs0 (bs0 (bs0 (baa (baa (ba _ _) _) _) _ _) _ _) _ _) | exact bdx (baa (baa (ba _ _) _) _) | trace_state
theorem ref7_Type_9 (w : World) :
  Calls Tryo.prog 180 #[.int .i64 10] w fun e w' => e = .returned (.tuple #[.agg #[.int .i64 2, .int .i64 1, .bool true], .bool true]) ∧ Below w.heap.size w w' := by
 go_enter Tryo.func180, Tryz.ntmps180
 go_wp2_with fail
 have h3 := third w
 have hw0 : IntKind.i64.wrap (10 - 1) = 9 := by decide
 have hw1 : IntKind.i64.wrap 9 = 9 := by decide
 go_region_held3 (fun x => x.cell? ⟨w.heap.size + 1, 9, none⟩ = some (.int .i64 2) ∧ x.cell? ⟨w.heap.size + 1 + 1, 9, none⟩ = some (.int .i64 1)) (go_keep) (first | fail)
 all_goals go_wp2_with fail
 all_goals refine bodyPost_ret (v := .tuple #[.agg #[.int .i64 2, .int .i64 1, .bool true], .bool true]) (by simp [results, Tryz.results180, go_sem]) rfl ⟨rfl, ?_⟩
 all_goals first | exact bs0 (bs0 (bs0 (bdx (baa (baa (ba _ _) _) _)) _ _) _ _) _ _ | exact bdx (bs0 (bs0 (bs0 (baa (baa (ba _ _) _) _) _ _) _ _) _ _) | exact bdx (baa (baa (ba _ _) _) _) | trace_state
theorem ref7_Type_10 (w : World) :
  Calls Tryo.prog 180 #[.int .i64 11] w fun e w' => e = .returned (.tuple #[.agg #[.int .i64 4, .int .i64 0, .bool true], .bool true]) ∧ Below w.heap.size w w' := by
 go_enter Tryo.func180, Tryz.ntmps180
 go_wp2_with fail
 have h3 := third w
 have hw0 : IntKind.i64.wrap (11 - 1) = 10 := by decide
 have hw1 : IntKind.i64.wrap 10 = 10 := by decide
 go_region_held3 (fun x => x.cell? ⟨w.heap.size + 1, 10, none⟩ = some (.int .i64 4) ∧ x.cell? ⟨w.heap.size + 1 + 1, 10, none⟩ = some (.int .i64 0)) (go_keep) (first | fail)
 all_goals go_wp2_with fail
 all_goals refine bodyPost_ret (v := .tuple #[.agg #[.int .i64 4, .int .i64 0, .bool true], .bool true]) (by simp [results, Tryz.results180, go_sem]) rfl ⟨rfl, ?_⟩
 all_goals first | exact bs0 (bs0 (bs0 (bdx (baa (baa (ba _ _) _) _)) _ _) _ _) _ _ | exact bdx (bs0 (bs0 (bs0 (baa (baa (ba _ _) _) _) _ _) _ _) _ _) | exact bdx (baa (baa (ba _ _) _) _) | trace_state
end Go.Proofs.YtgojeobnoebnlaaGreatDoor
