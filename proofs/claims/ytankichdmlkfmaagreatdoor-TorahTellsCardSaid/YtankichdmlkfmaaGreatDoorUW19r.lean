/- Layer 19: the document's Rest; both Of's refusals. -/
import Derived.Test.YtankichdmlkfmaaGreatDoorUSW
import Derived.Test.YtankichdmlkfmaaGreatDoorUFE
set_option linter.unusedVariables false
namespace Go.Proofs.YtankichdmlkfmaaGreatDoor
open Go.ChangeShapes Go.WideShapes Go.ChangeAt Go.RowKit Go.Lib Go.Sort Go.Shelf
set_option maxRecDepth 100000
set_option maxHeartbeats 1000000 in
theorem ref19_Rest_1 (w : World) : Calls Tryo.prog 141 #[.int .i64 1] w fun e w' => e = .returned (.bool true) ∧ w = w' := by
 go_enter Tryo.func141, Tryz.ntmps141
 go_wp2_with fail
 go_ret
 exact ⟨rfl, rfl⟩
set_option maxHeartbeats 1000000 in
theorem ref19_Rest_3 (w : World) : Calls Tryo.prog 141 #[.int .i64 3] w fun e w' => e = .returned (.bool true) ∧ w = w' := by
 go_enter Tryo.func141, Tryz.ntmps141
 go_wp2_with fail
 go_ret
 exact ⟨rfl, rfl⟩
set_option maxHeartbeats 1000000 in
theorem ref19_Rest_4 (w : World) : Calls Tryo.prog 141 #[.int .i64 4] w fun e w' => e = .returned (.bool true) ∧ w = w' := by
 go_enter Tryo.func141, Tryz.ntmps141
 go_wp2_with fail
 go_ret
 exact ⟨rfl, rfl⟩
set_option maxHeartbeats 1000000 in
theorem ref19_Rest_5 (w : World) : Calls Tryo.prog 141 #[.int .i64 5] w fun e w' => e = .returned (.bool true) ∧ w = w' := by
 go_enter Tryo.func141, Tryz.ntmps141
 go_wp2_with fail
 go_ret
 exact ⟨rfl, rfl⟩
set_option maxHeartbeats 1000000 in
theorem ref19_Rest_6 (w : World) : Calls Tryo.prog 141 #[.int .i64 6] w fun e w' => e = .returned (.bool true) ∧ w = w' := by
 go_enter Tryo.func141, Tryz.ntmps141
 go_wp2_with fail
 go_ret
 exact ⟨rfl, rfl⟩
set_option maxHeartbeats 1000000 in
theorem ref19_Rest_7 (w : World) : Calls Tryo.prog 141 #[.int .i64 7] w fun e w' => e = .returned (.bool true) ∧ w = w' := by
 go_enter Tryo.func141, Tryz.ntmps141
 go_wp2_with fail
 go_ret
 exact ⟨rfl, rfl⟩
set_option maxHeartbeats 1000000 in
theorem ref19_Rest_8 (w : World) : Calls Tryo.prog 141 #[.int .i64 8] w fun e w' => e = .returned (.bool true) ∧ w = w' := by
 go_enter Tryo.func141, Tryz.ntmps141
 go_wp2_with fail
 go_ret
 exact ⟨rfl, rfl⟩
set_option maxHeartbeats 1000000 in
theorem ref19_Rest_17 (w : World) : Calls Tryo.prog 141 #[.int .i64 17] w fun e w' => e = .returned (.bool true) ∧ w = w' := by
 go_enter Tryo.func141, Tryz.ntmps141
 go_wp2_with fail
 go_ret
 exact ⟨rfl, rfl⟩
set_option maxHeartbeats 1000000 in
theorem ref19_Rest_18 (w : World) : Calls Tryo.prog 141 #[.int .i64 18] w fun e w' => e = .returned (.bool true) ∧ w = w' := by
 go_enter Tryo.func141, Tryz.ntmps141
 go_wp2_with fail
 go_ret
 exact ⟨rfl, rfl⟩
set_option maxHeartbeats 1000000 in
theorem ref19_Rest_25 (w : World) : Calls Tryo.prog 141 #[.int .i64 25] w fun e w' => e = .returned (.bool true) ∧ w = w' := by
 go_enter Tryo.func141, Tryz.ntmps141
 go_wp2_with fail
 go_ret
 exact ⟨rfl, rfl⟩
set_option maxHeartbeats 1000000 in
theorem ref19_Rest_no (x : Int) (w : World) (h1 : (x == 1) = false) (h3 : (x == 3) = false) (h4 : (x == 4) = false) (h5 : (x == 5) = false) (h6 : (x == 6) = false) (h7 : (x == 7) = false) (h8 : (x == 8) = false) (h17 : (x == 17) = false) (h18 : (x == 18) = false) (h25 : (x == 25) = false) : Calls Tryo.prog 141 #[.int .i64 x] w fun e w' => e = .returned (.bool false) ∧ w = w' := by
 go_enter Tryo.func141, Tryz.ntmps141
 go_wp2_with fail
 go_ret
 exact ⟨rfl, rfl⟩
theorem ref19_Rest (x : Int) (w : World) : Calls Tryo.prog 141 #[.int .i64 x] w fun e w' => e = .returned (.bool (Fe.restV x)) ∧ w = w' := by
 by_cases e1 : x = 1
 ·subst e1; exact ref19_Rest_1 w
 by_cases e3 : x = 3
 ·subst e3; exact ref19_Rest_3 w
 by_cases e4 : x = 4
 ·subst e4; exact ref19_Rest_4 w
 by_cases e5 : x = 5
 ·subst e5; exact ref19_Rest_5 w
 by_cases e6 : x = 6
 ·subst e6; exact ref19_Rest_6 w
 by_cases e7 : x = 7
 ·subst e7; exact ref19_Rest_7 w
 by_cases e8 : x = 8
 ·subst e8; exact ref19_Rest_8 w
 by_cases e17 : x = 17
 ·subst e17; exact ref19_Rest_17 w
 by_cases e18 : x = 18
 ·subst e18; exact ref19_Rest_18 w
 by_cases e25 : x = 25
 ·subst e25; exact ref19_Rest_25 w
 rw [show Fe.restV x = false by simp [Fe.restV, e1, e3, e4, e5, e6, e7, e8, e17, e18, e25]]
 exact ref19_Rest_no x w (by simpa using e1) (by simpa using e3) (by simpa using e4) (by simpa using e5) (by simpa using e6) (by simpa using e7) (by simpa using e8) (by simpa using e17) (by simpa using e18) (by simpa using e25)
end Go.Proofs.YtankichdmlkfmaaGreatDoor
