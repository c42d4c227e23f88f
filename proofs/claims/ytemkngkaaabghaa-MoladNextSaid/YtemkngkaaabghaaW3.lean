/- Layer 3: the walks of its laws. -/
import Derived.Test.YtemkngkaaabghaaCycle
namespace Go.Proofs.Ytemkngkaaabghaa
open Go.ChangeShapes Go.WideShapes Go.ChangeAt Go.RowKit
set_option linter.unusedVariables false

theorem awake3 (w : World) : Calls Try.prog 48 #[] w fun e w' => e = .returned (.bool true) ∧ w = w' := by
  have e1 : Cal.leap 5784 = true := by decide
  have e2 : Cal.leap 5785 = false := by decide
  have e3 : Cal.before 1 = 0 := by decide
  go_enter Try.func48, Try.ntmps48
  go_wp2_with fail
  refine (cycle_Leap_ok 5784 _ (by omega) (by omega)).mono ?_
  rintro e w' ⟨rfl, rfl⟩
  go_wp2_with fail
  refine (cycle_Leap_ok 5785 _ (by omega) (by omega)).mono ?_
  rintro e w' ⟨rfl, rfl⟩
  go_wp2_with fail
  refine (cycle_Before_ok 1 _ (by omega) (by omega)).mono ?_
  rintro e w' ⟨rfl, rfl⟩
  go_wp2_with fail
  refine (cycle_In_no 10002 _ (by omega)).mono ?_
  rintro e w' ⟨rfl, rfl⟩
  go_wp2_with fail
  go_ret
  exact ⟨rfl, rfl⟩
theorem CycleTells_walk (y : Int) (hy : I64 y) (w : World) :
    Calls Try.prog 10 #[.int .i64 y] w fun e w' => e = .returned (.bool true) ∧ Below w.heap.size w w' := by
  go_enter Try.func10, Try.ntmps10
  go_wp2_with fail
  refine (cycle_Leap y _).mono ?_
  rintro e w' ⟨rfl, rfl⟩
  go_wp2_with fail
  refine (ref3_Leap y _).mono ?_
  rintro e w' ⟨rfl, rfl⟩
  go_wp2_with fail
  refine (cycle_In y _).mono ?_
  rintro e w' ⟨rfl, rfl⟩
  go_wp2_with fail
  refine (ref3_In y _).mono ?_
  rintro e w' ⟨rfl, rfl⟩
  go_wp2_with fail
  refine (cycle_Before y _).mono ?_
  rintro e w' ⟨rfl, rfl⟩
  go_wp2_with fail
  refine (ref3_Before y _).mono ?_
  rintro e w' ⟨rfl, rfl⟩
  go_wp2_with fail
  refine (awake3 _).mono ?_
  rintro e w' ⟨rfl, rfl⟩
  go_wp2_with fail
  go_ret
  exact ⟨rfl, Below.refl _ _⟩
theorem leap_19 (y : Int) : Cal.leap (y + 19) = Cal.leap y ∧ Cal.months (y + 19) = Cal.months y := by
  have e : Cal.leap (y + 19) = Cal.leap y := by
    unfold Cal.leap
    rw [show (7 * (y + 19) + 1) % 19 = (7 * y + 1) % 19 by omega]
  exact ⟨e, by unfold Cal.months; rw [e]⟩
theorem CycleRound_walk (y : Int) (hy : 0 ≤ y ∧ y ≤ 65535) (w : World) :
    Calls Try.prog 12 #[.int .u16 y] w fun e w' => e = .returned (.bool true) ∧ Below w.heap.size w w' := by
  obtain ⟨y0, y1⟩ := hy
  have k1 : 0 ≤ y % 9980 := by omega
  have k2 : y % 9980 < 9980 := by omega
  have e1 := (leap_19 (y % 9980)).1
  have e2 := (leap_19 (y % 9980)).2
  go_enter Try.func12, Try.ntmps12
  go_wp2_with fail
  refine (cycle_Leap_ok (y % 9980) _ (by omega) (by omega)).mono ?_
  rintro e w' ⟨rfl, rfl⟩
  go_wp2_with fail
  refine (cycle_Leap_ok (y % 9980 + 19) _ (by omega) (by omega)).mono ?_
  rintro e w' ⟨rfl, rfl⟩
  go_wp2_with fail
  refine (cycle_In_ok (y % 9980) _ (by omega) (by omega)).mono ?_
  rintro e w' ⟨rfl, rfl⟩
  go_wp2_with fail
  refine (cycle_In_ok (y % 9980 + 19) _ (by omega) (by omega)).mono ?_
  rintro e w' ⟨rfl, rfl⟩
  go_wp2_with fail
  refine (awake3 _).mono ?_
  rintro e w' ⟨rfl, rfl⟩
  go_wp2_with fail
  go_ret
  exact ⟨rfl, Below.refl _ _⟩
end Go.Proofs.Ytemkngkaaabghaa
