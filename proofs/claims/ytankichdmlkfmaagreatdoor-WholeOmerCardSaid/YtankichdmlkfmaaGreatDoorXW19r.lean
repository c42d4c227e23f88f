import Derived.Test.YtankichdmlkfmaaGreatDoorXSW
import Derived.Test.YtankichdmlkfmaaGreatDoorXFE
set_option maxHeartbeats 8000000
set_option maxRecDepth 100000
set_option linter.unusedVariables false
namespace Go.Proofs.YtankichdmlkfmaaGreatDoor
open Go.ChangeShapes Go.WideShapes Go.ChangeAt Go.RowKit Go.Lib Go.Sort Go.Shelf
theorem feast_Of_below_0 (y : Int) (w : World) (h : y < 1) : Calls Tryo.prog 24 #[.int .i64 y, .int .i64 0] w fun e w' => e = .returned (.tuple #[.slice none 0 0, .int .i64 2]) ∧ w = w' := by
 go_enter Tryo.func24, Tryz.ntmps24
 go_wp2_with fail
 go_ret2
 exact ⟨rfl, rfl⟩
theorem feast_Of_above_0 (y : Int) (w : World) (h0 : ¬ y < 1) (h : 9999 < y) : Calls Tryo.prog 24 #[.int .i64 y, .int .i64 0] w fun e w' => e = .returned (.tuple #[.slice none 0 0, .int .i64 2]) ∧ w = w' := by
 have h1 : decide (y < 1) = false := by simpa using h0
 go_enter Tryo.func24, Tryz.ntmps24
 go_wp2_with fail
 go_ret2
 exact ⟨rfl, rfl⟩
theorem ref19_Of_no_0 (y : Int) (w : World) (hy : I64 y) (h : y < 1 ∨ 9999 < y) : Calls Tryo.prog 86 #[.int .i64 y, .int .i64 0] w fun e w' => e = .returned (.tuple #[.slice none 0 0, .int .i64 2]) ∧ w = w' := by
 have HP := Lib.hid (fun w => ref19_Place_0 w)
 have HRi := Lib.hid (fun w => ref7_Right y w hy)
 rw [Cal.yearIn_no y h] at HRi
 clear h
 go_enter Tryo.func86, Tryz.ntmps86
 go_wp2_with fail
 refine (HP.out _).mono ?_
 rintro e w' ⟨rfl, rfl⟩
 go_wp2_with fail
 refine (HRi.out _).mono ?_
 rintro e w' ⟨rfl, rfl⟩
 go_wp2_with fail
 go_ret2
 exact ⟨rfl, rfl⟩
theorem feast_Of_below_1 (y : Int) (w : World) (h : y < 1) : Calls Tryo.prog 24 #[.int .i64 y, .int .i64 1] w fun e w' => e = .returned (.tuple #[.slice none 0 0, .int .i64 2]) ∧ w = w' := by
 go_enter Tryo.func24, Tryz.ntmps24
 go_wp2_with fail
 go_ret2
 exact ⟨rfl, rfl⟩
theorem feast_Of_above_1 (y : Int) (w : World) (h0 : ¬ y < 1) (h : 9999 < y) : Calls Tryo.prog 24 #[.int .i64 y, .int .i64 1] w fun e w' => e = .returned (.tuple #[.slice none 0 0, .int .i64 2]) ∧ w = w' := by
 have h1 : decide (y < 1) = false := by simpa using h0
 go_enter Tryo.func24, Tryz.ntmps24
 go_wp2_with fail
 go_ret2
 exact ⟨rfl, rfl⟩
theorem ref19_Of_no_1 (y : Int) (w : World) (hy : I64 y) (h : y < 1 ∨ 9999 < y) : Calls Tryo.prog 86 #[.int .i64 y, .int .i64 1] w fun e w' => e = .returned (.tuple #[.slice none 0 0, .int .i64 2]) ∧ w = w' := by
 have HP := Lib.hid (fun w => ref19_Place_1 w)
 have HRi := Lib.hid (fun w => ref7_Right y w hy)
 rw [Cal.yearIn_no y h] at HRi
 clear h
 go_enter Tryo.func86, Tryz.ntmps86
 go_wp2_with fail
 refine (HP.out _).mono ?_
 rintro e w' ⟨rfl, rfl⟩
 go_wp2_with fail
 refine (HRi.out _).mono ?_
 rintro e w' ⟨rfl, rfl⟩
 go_wp2_with fail
 go_ret2
 exact ⟨rfl, rfl⟩
theorem ref19_Of_bad (y p : Int) (w : World) (h0 : (p == 0) = false) (h1 : (p == 1) = false) : Calls Tryo.prog 86 #[.int .i64 y, .int .i64 p] w fun e w' => e = .returned (.tuple #[.slice none 0 0, .int .i64 1]) ∧ w = w' := by
 have HP := Lib.hid (fun w => ref19_Place_no p w h0 h1)
 clear h0 h1
 go_enter Tryo.func86, Tryz.ntmps86
 go_wp2_with fail
 refine (HP.out _).mono ?_
 rintro e w' ⟨rfl, rfl⟩
 go_wp2_with fail
 go_ret2
 exact ⟨rfl, rfl⟩
theorem feast_both_no (y p : Int) (hy : I64 y) (h : ¬ ((1 ≤ y ∧ y ≤ 9999) ∧ (p = 0 ∨ p = 1))) : ∃ e : Int, (∀ w : World, Calls Tryo.prog 24 #[.int .i64 y, .int .i64 p] w fun r w' => r = .returned (.tuple #[.slice none 0 0, .int .i64 e]) ∧ w = w') ∧ (∀ w : World, Calls Tryo.prog 86 #[.int .i64 y, .int .i64 p] w fun r w' => r = .returned (.tuple #[.slice none 0 0, .int .i64 e]) ∧ w = w') := by
 by_cases h0 : p = 0
 ·subst h0
  refine ⟨2, fun w => ?_, fun w => ref19_Of_no_0 y w hy (by omega)⟩
  by_cases c : y < 1
  ·exact feast_Of_below_0 y w c
  ·exact feast_Of_above_0 y w c (by omega)
 ·by_cases h1 : p = 1
  ·subst h1
   refine ⟨2, fun w => ?_, fun w => ref19_Of_no_1 y w hy (by omega)⟩
   by_cases c : y < 1
   ·exact feast_Of_below_1 y w c
   ·exact feast_Of_above_1 y w c (by omega)
  ·exact ⟨1, fun w => feast_Of_bad y p w (by simpa using h0) (by simpa using h1), fun w => ref19_Of_bad y p w (by simpa using h0) (by simpa using h1)⟩
end Go.Proofs.YtankichdmlkfmaaGreatDoor
