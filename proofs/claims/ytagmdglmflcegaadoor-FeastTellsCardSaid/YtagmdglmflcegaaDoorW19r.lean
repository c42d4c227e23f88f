/- Layer 19: the document's Rest; both Of's refusals. -/
import Derived.Test.YtagmdglmflcegaaDoorW19
import Derived.Test.YtagmdglmflcegaaDoorFeR
namespace Go.Proofs.YtagmdglmflcegaaDoor
open Go.ChangeShapes Go.WideShapes Go.ChangeAt Go.RowKit Go.Lib Go.Sort Go.Shelf
set_option linter.unusedVariables false
set_option maxRecDepth 100000
set_option maxHeartbeats 1000000 in
theorem ref19_Rest_1 (w : World) : Calls Tryd.prog 17 #[.int .i64 1] w fun e w' => e = .returned (.bool true) ∧ w = w' := by
  go_enter Tryd.func17, Tryd.ntmps17
  go_wp2_with fail
  go_ret
  exact ⟨rfl, rfl⟩
set_option maxHeartbeats 1000000 in
theorem ref19_Rest_3 (w : World) : Calls Tryd.prog 17 #[.int .i64 3] w fun e w' => e = .returned (.bool true) ∧ w = w' := by
  go_enter Tryd.func17, Tryd.ntmps17
  go_wp2_with fail
  go_ret
  exact ⟨rfl, rfl⟩
set_option maxHeartbeats 1000000 in
theorem ref19_Rest_4 (w : World) : Calls Tryd.prog 17 #[.int .i64 4] w fun e w' => e = .returned (.bool true) ∧ w = w' := by
  go_enter Tryd.func17, Tryd.ntmps17
  go_wp2_with fail
  go_ret
  exact ⟨rfl, rfl⟩
set_option maxHeartbeats 1000000 in
theorem ref19_Rest_5 (w : World) : Calls Tryd.prog 17 #[.int .i64 5] w fun e w' => e = .returned (.bool true) ∧ w = w' := by
  go_enter Tryd.func17, Tryd.ntmps17
  go_wp2_with fail
  go_ret
  exact ⟨rfl, rfl⟩
set_option maxHeartbeats 1000000 in
theorem ref19_Rest_6 (w : World) : Calls Tryd.prog 17 #[.int .i64 6] w fun e w' => e = .returned (.bool true) ∧ w = w' := by
  go_enter Tryd.func17, Tryd.ntmps17
  go_wp2_with fail
  go_ret
  exact ⟨rfl, rfl⟩
set_option maxHeartbeats 1000000 in
theorem ref19_Rest_7 (w : World) : Calls Tryd.prog 17 #[.int .i64 7] w fun e w' => e = .returned (.bool true) ∧ w = w' := by
  go_enter Tryd.func17, Tryd.ntmps17
  go_wp2_with fail
  go_ret
  exact ⟨rfl, rfl⟩
set_option maxHeartbeats 1000000 in
theorem ref19_Rest_8 (w : World) : Calls Tryd.prog 17 #[.int .i64 8] w fun e w' => e = .returned (.bool true) ∧ w = w' := by
  go_enter Tryd.func17, Tryd.ntmps17
  go_wp2_with fail
  go_ret
  exact ⟨rfl, rfl⟩
set_option maxHeartbeats 1000000 in
theorem ref19_Rest_17 (w : World) : Calls Tryd.prog 17 #[.int .i64 17] w fun e w' => e = .returned (.bool true) ∧ w = w' := by
  go_enter Tryd.func17, Tryd.ntmps17
  go_wp2_with fail
  go_ret
  exact ⟨rfl, rfl⟩
set_option maxHeartbeats 1000000 in
theorem ref19_Rest_18 (w : World) : Calls Tryd.prog 17 #[.int .i64 18] w fun e w' => e = .returned (.bool true) ∧ w = w' := by
  go_enter Tryd.func17, Tryd.ntmps17
  go_wp2_with fail
  go_ret
  exact ⟨rfl, rfl⟩
set_option maxHeartbeats 1000000 in
theorem ref19_Rest_25 (w : World) : Calls Tryd.prog 17 #[.int .i64 25] w fun e w' => e = .returned (.bool true) ∧ w = w' := by
  go_enter Tryd.func17, Tryd.ntmps17
  go_wp2_with fail
  go_ret
  exact ⟨rfl, rfl⟩
set_option maxHeartbeats 1000000 in
theorem ref19_Rest_14 (w : World) : Calls Tryd.prog 17 #[.int .i64 14] w fun e w' => e = .returned (.bool false) ∧ w = w' := by
  go_enter Tryd.func17, Tryd.ntmps17
  go_wp2_with fail
  go_ret
  exact ⟨rfl, rfl⟩
set_option maxHeartbeats 1000000 in
theorem ref19_Rest_no (x : Int) (w : World) (h1 : (x == 1) = false) (h3 : (x == 3) = false) (h4 : (x == 4) = false) (h5 : (x == 5) = false) (h6 : (x == 6) = false) (h7 : (x == 7) = false) (h8 : (x == 8) = false) (h17 : (x == 17) = false) (h18 : (x == 18) = false) (h25 : (x == 25) = false) : Calls Tryd.prog 17 #[.int .i64 x] w fun e w' => e = .returned (.bool false) ∧ w = w' := by
  go_enter Tryd.func17, Tryd.ntmps17
  go_wp2_with fail
  go_ret
  exact ⟨rfl, rfl⟩
theorem ref19_Rest (x : Int) (w : World) : Calls Tryd.prog 17 #[.int .i64 x] w fun e w' => e = .returned (.bool (Fe.restV x)) ∧ w = w' := by
  by_cases e1 : x = 1
  · subst e1; exact ref19_Rest_1 w
  by_cases e3 : x = 3
  · subst e3; exact ref19_Rest_3 w
  by_cases e4 : x = 4
  · subst e4; exact ref19_Rest_4 w
  by_cases e5 : x = 5
  · subst e5; exact ref19_Rest_5 w
  by_cases e6 : x = 6
  · subst e6; exact ref19_Rest_6 w
  by_cases e7 : x = 7
  · subst e7; exact ref19_Rest_7 w
  by_cases e8 : x = 8
  · subst e8; exact ref19_Rest_8 w
  by_cases e17 : x = 17
  · subst e17; exact ref19_Rest_17 w
  by_cases e18 : x = 18
  · subst e18; exact ref19_Rest_18 w
  by_cases e25 : x = 25
  · subst e25; exact ref19_Rest_25 w
  rw [show Fe.restV x = false by simp [Fe.restV, e1, e3, e4, e5, e6, e7, e8, e17, e18, e25]]
  exact ref19_Rest_no x w (by simpa using e1) (by simpa using e3) (by simpa using e4) (by simpa using e5) (by simpa using e6) (by simpa using e7) (by simpa using e8) (by simpa using e17) (by simpa using e18) (by simpa using e25)
set_option maxHeartbeats 2000000 in
theorem feast_Of_below_0 (y : Int) (w : World) (h : y < 1) : Calls Tryd.prog 13 #[.int .i64 y, .int .i64 0] w fun e w' => e = .returned (.tuple #[.slice none 0 0, .int .i64 2]) ∧ w = w' := by
  go_enter Tryd.func13, Tryd.ntmps13
  go_wp2_with fail
  go_ret2
  exact ⟨rfl, rfl⟩
set_option maxHeartbeats 2000000 in
theorem feast_Of_above_0 (y : Int) (w : World) (h0 : ¬ y < 1) (h : 9999 < y) : Calls Tryd.prog 13 #[.int .i64 y, .int .i64 0] w fun e w' => e = .returned (.tuple #[.slice none 0 0, .int .i64 2]) ∧ w = w' := by
  have h1 : decide (y < 1) = false := by simpa using h0
  go_enter Tryd.func13, Tryd.ntmps13
  go_wp2_with fail
  go_ret2
  exact ⟨rfl, rfl⟩
set_option maxHeartbeats 2000000 in
theorem ref19_Of_no_0 (y : Int) (w : World) (hy : I64 y) (h : y < 1 ∨ 9999 < y) : Calls Tryd.prog 14 #[.int .i64 y, .int .i64 0] w fun e w' => e = .returned (.tuple #[.slice none 0 0, .int .i64 2]) ∧ w = w' := by
  have HP := Lib.hid (fun w => ref19_Place_0 w)
  have HRi := Lib.hid (fun w => ref7_Right y w hy)
  rw [Cal.yearIn_no y h] at HRi
  clear h
  go_enter Tryd.func14, Tryd.ntmps14
  go_wp2_with fail
  refine (HP.out _).mono ?_
  rintro e w' ⟨rfl, rfl⟩
  go_wp2_with fail
  refine (HRi.out _).mono ?_
  rintro e w' ⟨rfl, rfl⟩
  go_wp2_with fail
  go_ret2
  exact ⟨rfl, rfl⟩
set_option maxHeartbeats 2000000 in
theorem feast_Of_below_1 (y : Int) (w : World) (h : y < 1) : Calls Tryd.prog 13 #[.int .i64 y, .int .i64 1] w fun e w' => e = .returned (.tuple #[.slice none 0 0, .int .i64 2]) ∧ w = w' := by
  go_enter Tryd.func13, Tryd.ntmps13
  go_wp2_with fail
  go_ret2
  exact ⟨rfl, rfl⟩
set_option maxHeartbeats 2000000 in
theorem feast_Of_above_1 (y : Int) (w : World) (h0 : ¬ y < 1) (h : 9999 < y) : Calls Tryd.prog 13 #[.int .i64 y, .int .i64 1] w fun e w' => e = .returned (.tuple #[.slice none 0 0, .int .i64 2]) ∧ w = w' := by
  have h1 : decide (y < 1) = false := by simpa using h0
  go_enter Tryd.func13, Tryd.ntmps13
  go_wp2_with fail
  go_ret2
  exact ⟨rfl, rfl⟩
set_option maxHeartbeats 2000000 in
theorem ref19_Of_no_1 (y : Int) (w : World) (hy : I64 y) (h : y < 1 ∨ 9999 < y) : Calls Tryd.prog 14 #[.int .i64 y, .int .i64 1] w fun e w' => e = .returned (.tuple #[.slice none 0 0, .int .i64 2]) ∧ w = w' := by
  have HP := Lib.hid (fun w => ref19_Place_1 w)
  have HRi := Lib.hid (fun w => ref7_Right y w hy)
  rw [Cal.yearIn_no y h] at HRi
  clear h
  go_enter Tryd.func14, Tryd.ntmps14
  go_wp2_with fail
  refine (HP.out _).mono ?_
  rintro e w' ⟨rfl, rfl⟩
  go_wp2_with fail
  refine (HRi.out _).mono ?_
  rintro e w' ⟨rfl, rfl⟩
  go_wp2_with fail
  go_ret2
  exact ⟨rfl, rfl⟩
set_option maxHeartbeats 2000000 in
theorem ref19_Of_bad (y p : Int) (w : World) (h0 : (p == 0) = false) (h1 : (p == 1) = false) : Calls Tryd.prog 14 #[.int .i64 y, .int .i64 p] w fun e w' => e = .returned (.tuple #[.slice none 0 0, .int .i64 1]) ∧ w = w' := by
  have HP := Lib.hid (fun w => ref19_Place_no p w h0 h1)
  clear h0 h1
  go_enter Tryd.func14, Tryd.ntmps14
  go_wp2_with fail
  refine (HP.out _).mono ?_
  rintro e w' ⟨rfl, rfl⟩
  go_wp2_with fail
  go_ret2
  exact ⟨rfl, rfl⟩
/-- The feasts of any year at any place: both answer alike, or both refuse alike. -/
theorem feast_both_no (y p : Int) (hy : I64 y) (h : ¬ ((1 ≤ y ∧ y ≤ 9999) ∧ (p = 0 ∨ p = 1))) : ∃ e : Int, (∀ w : World, Calls Tryd.prog 13 #[.int .i64 y, .int .i64 p] w fun r w' => r = .returned (.tuple #[.slice none 0 0, .int .i64 e]) ∧ w = w') ∧ (∀ w : World, Calls Tryd.prog 14 #[.int .i64 y, .int .i64 p] w fun r w' => r = .returned (.tuple #[.slice none 0 0, .int .i64 e]) ∧ w = w') := by
  by_cases h0 : p = 0
  · subst h0
    refine ⟨2, fun w => ?_, fun w => ref19_Of_no_0 y w hy (by omega)⟩
    by_cases c : y < 1
    · exact feast_Of_below_0 y w c
    · exact feast_Of_above_0 y w c (by omega)
  · by_cases h1 : p = 1
    · subst h1
      refine ⟨2, fun w => ?_, fun w => ref19_Of_no_1 y w hy (by omega)⟩
      by_cases c : y < 1
      · exact feast_Of_below_1 y w c
      · exact feast_Of_above_1 y w c (by omega)
    · exact ⟨1, fun w => feast_Of_bad y p w (by simpa using h0) (by simpa using h1), fun w => ref19_Of_bad y p w (by simpa using h0) (by simpa using h1)⟩
end Go.Proofs.YtagmdglmflcegaaDoor
