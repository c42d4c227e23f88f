/- Layer 3: contracts of the years. -/
import Derived.Test.YtncckpfenjokmaaDoorHalak
namespace Go.Proofs.YtncckpfenjokmaaDoor
open Go.ChangeShapes Go.WideShapes Go.ChangeAt Go.RowKit
set_option linter.unusedVariables false

theorem reck_yes (y : Int) (h0 : 0 ≤ y) (h1 : y ≤ 10001) : Cal.reck y = true := by simp [Cal.reck, h0, h1]
theorem reck_no (y : Int) (h : y < 0 ∨ 10001 < y) : Cal.reck y = false := by
  rw [Bool.eq_false_iff]; intro h'; simp only [Cal.reck, Bool.and_eq_true, decide_eq_true_eq] at h'; omega
theorem cycle_reckoned (y : Int) (w : World) :
    Calls Tryd.prog 125 #[.int .i64 y] w fun e w' => e = .returned (.bool (Cal.reck y)) ∧ w = w' := by
  rcases (show y < 0 ∨ (0 ≤ y ∧ y ≤ 10001) ∨ (0 ≤ y ∧ 10001 < y) by omega) with c | ⟨c, c'⟩ | ⟨c, c'⟩
  · have HS := Lib.hid (reck_no y (by omega))
    go_enter Tryd.func125, Tryd.ntmps125
    go_wp2
    go_ret
    first | exact ⟨ret_b HS.out.symm, rfl⟩ | exact ⟨ret_b ((decide_eq_false (by omega)).trans HS.out.symm), rfl⟩ | exact ⟨ret_b ((decide_eq_true (by omega)).trans HS.out.symm), rfl⟩
  · have HS := Lib.hid (reck_yes y c c')
    go_enter Tryd.func125, Tryd.ntmps125
    go_wp2
    go_ret
    first | exact ⟨ret_b HS.out.symm, rfl⟩ | exact ⟨ret_b ((decide_eq_false (by omega)).trans HS.out.symm), rfl⟩ | exact ⟨ret_b ((decide_eq_true (by omega)).trans HS.out.symm), rfl⟩
  · have HS := Lib.hid (reck_no y (by omega))
    go_enter Tryd.func125, Tryd.ntmps125
    go_wp2
    go_ret
    first | exact ⟨ret_b HS.out.symm, rfl⟩ | exact ⟨ret_b ((decide_eq_false (by omega)).trans HS.out.symm), rfl⟩ | exact ⟨ret_b ((decide_eq_true (by omega)).trans HS.out.symm), rfl⟩
theorem ref3_Right (y : Int) (w : World) :
    Calls Tryd.prog 129 #[.int .i64 y] w fun e w' => e = .returned (.bool (Cal.reck y)) ∧ w = w' := by
  rcases (show y < 0 ∨ (0 ≤ y ∧ y ≤ 10001) ∨ (0 ≤ y ∧ 10001 < y) by omega) with c | ⟨c, c'⟩ | ⟨c, c'⟩
  · have HS := Lib.hid (reck_no y (by omega))
    go_enter Tryd.func129, Tryd.ntmps129
    go_wp2
    go_ret
    first | exact ⟨ret_b HS.out.symm, rfl⟩ | exact ⟨ret_b ((decide_eq_false (by omega)).trans HS.out.symm), rfl⟩ | exact ⟨ret_b ((decide_eq_true (by omega)).trans HS.out.symm), rfl⟩
  · have HS := Lib.hid (reck_yes y c c')
    go_enter Tryd.func129, Tryd.ntmps129
    go_wp2
    go_ret
    first | exact ⟨ret_b HS.out.symm, rfl⟩ | exact ⟨ret_b ((decide_eq_false (by omega)).trans HS.out.symm), rfl⟩ | exact ⟨ret_b ((decide_eq_true (by omega)).trans HS.out.symm), rfl⟩
  · have HS := Lib.hid (reck_no y (by omega))
    go_enter Tryd.func129, Tryd.ntmps129
    go_wp2
    go_ret
    first | exact ⟨ret_b HS.out.symm, rfl⟩ | exact ⟨ret_b ((decide_eq_false (by omega)).trans HS.out.symm), rfl⟩ | exact ⟨ret_b ((decide_eq_true (by omega)).trans HS.out.symm), rfl⟩

theorem cycle_floor (a b : Int) (w : World) (ha : I64 a) (hb : I64 b) (h : 0 < b) :
    Calls Tryd.prog 126 #[.int .i64 a, .int .i64 b] w fun e w' => e = .returned (.tuple #[.int .i64 (a / b), .int .i64 (a % b)]) ∧ w = w' := by
  have HD := Lib.hid (fun w => exact_Div_pos a b w ha hb h)
  have HM := Lib.hid (fun w => exact_Mod_pos a b w ha hb h)
  go_enter Tryd.func126, Tryd.ntmps126
  go_wp2_with fail
  refine (HD.out _).mono ?_
  rintro e w' ⟨rfl, rfl⟩
  go_wp2_with fail
  refine (HM.out _).mono ?_
  rintro e w' ⟨rfl, rfl⟩
  go_wp2_with fail
  go_ret2
  exact ⟨rfl, rfl⟩
theorem cycle_Leap (y : Int) (w : World) :
    Calls Tryd.prog 77 #[.int .i64 y] w fun e w' => e = .returned (.tuple #[.bool (Cal.leapV y), .int .i64 (Cal.reckE y)]) ∧ w = w' := by
  by_cases c : 0 ≤ y ∧ y ≤ 10001
  · obtain ⟨c1, c2⟩ := c
    have h := reck_yes y c1 c2
    have HS := Lib.hid (show Cal.leapV y = decide ((7 * y + 1) % 19 < 7) ∧ Cal.reckE y = 0 by rw [Cal.leapV, Cal.reckE, h]; exact ⟨rfl, rfl⟩)
    go_enter Tryd.func77, Tryd.ntmps77
    go_wp2_with fail
    refine (cycle_reckoned y _).mono ?_
    rintro e w' ⟨rfl, rfl⟩
    go_wp2_with fail
    refine (cycle_floor (7 * y + 1) 19 _ ⟨by omega, by omega⟩ ⟨by omega, by omega⟩ (by omega)).mono ?_
    rintro e w' ⟨rfl, rfl⟩
    go_wp2_with fail
    go_ret2
    exact ⟨ret_bi HS.out.1.symm HS.out.2.symm, rfl⟩
  · have h := reck_no y (by omega)
    have HS := Lib.hid (show Cal.leapV y = false ∧ Cal.reckE y = 2 by rw [Cal.leapV, Cal.reckE, h]; exact ⟨rfl, rfl⟩)
    go_enter Tryd.func77, Tryd.ntmps77
    go_wp2_with fail
    refine (cycle_reckoned y _).mono ?_
    rintro e w' ⟨rfl, rfl⟩
    go_wp2_with fail
    go_ret2
    exact ⟨ret_bi HS.out.1.symm HS.out.2.symm, rfl⟩
theorem leap_ok (y : Int) (h0 : 0 ≤ y) (h1 : y ≤ 10001) : Cal.leapV y = Cal.leap y ∧ Cal.reckE y = 0 := by rw [Cal.leapV, Cal.reckE, reck_yes y h0 h1]; exact ⟨rfl, rfl⟩
theorem leap_no (y : Int) (h : y < 0 ∨ 10001 < y) : Cal.leapV y = false ∧ Cal.reckE y = 2 := by rw [Cal.leapV, Cal.reckE, reck_no y h]; exact ⟨rfl, rfl⟩
theorem cycle_Leap_ok (y : Int) (w : World) (h0 : 0 ≤ y) (h1 : y ≤ 10001) :
    Calls Tryd.prog 77 #[.int .i64 y] w fun e w' => e = .returned (.tuple #[.bool (Cal.leap y), .int .i64 0]) ∧ w = w' := by
  have := cycle_Leap y w
  rwa [(leap_ok y h0 h1).1, (leap_ok y h0 h1).2] at this
theorem cycle_Leap_no (y : Int) (w : World) (h : y < 0 ∨ 10001 < y) :
    Calls Tryd.prog 77 #[.int .i64 y] w fun e w' => e = .returned (.tuple #[.bool false, .int .i64 2]) ∧ w = w' := by
  have := cycle_Leap y w
  rwa [(leap_no y h).1, (leap_no y h).2] at this
theorem ref3_Is (y : Int) (w : World) (h0 : -1099511627776 ≤ y) (h1 : y ≤ 1099511627776) :
    Calls Tryd.prog 38 #[.int .i64 y] w fun e w' => e = .returned (.bool (Cal.leap y)) ∧ w = w' := by
  go_enter Tryd.func38, Tryd.ntmps38
  go_wp2_with fail
  refine (ref_Left_pos (7 * y + 1) 19 _ ⟨by omega, by omega⟩ (by omega)).mono ?_
  rintro e w' ⟨rfl, rfl⟩
  go_wp2_with fail
  go_ret
  exact ⟨rfl, rfl⟩
theorem months_yes (y : Int) (h0 : 0 ≤ y) (h1 : y ≤ 10001) (h : Cal.leap y = true) : Cal.monthsV y = 13 ∧ Cal.reckE y = 0 := by
  rw [Cal.monthsV, Cal.months, Cal.reckE, reck_yes y h0 h1, h]; exact ⟨rfl, rfl⟩
theorem months_short (y : Int) (h0 : 0 ≤ y) (h1 : y ≤ 10001) (h : Cal.leap y = false) : Cal.monthsV y = 12 ∧ Cal.reckE y = 0 := by
  rw [Cal.monthsV, Cal.months, Cal.reckE, reck_yes y h0 h1, h]; exact ⟨rfl, rfl⟩
theorem months_no (y : Int) (h : y < 0 ∨ 10001 < y) : Cal.monthsV y = 0 ∧ Cal.reckE y = 2 := by rw [Cal.monthsV, Cal.reckE, reck_no y h]; exact ⟨rfl, rfl⟩
theorem cycle_In (y : Int) (w : World) :
    Calls Tryd.prog 195 #[.int .i64 y] w fun e w' => e = .returned (.tuple #[.int .i64 (Cal.monthsV y), .int .i64 (Cal.reckE y)]) ∧ w = w' := by
  by_cases c : 0 ≤ y ∧ y ≤ 10001
  · obtain ⟨c1, c2⟩ := c
    have hr := reck_yes y c1 c2
    cases h : Cal.leap y
    · have HS := Lib.hid (months_short y c1 c2 h)
      go_enter Tryd.func195, Tryd.ntmps195
      go_wp2_with fail
      refine (cycle_Leap_ok y _ c1 c2).mono ?_
      rintro e w' ⟨rfl, rfl⟩
      go_wp2_with fail
      go_ret2
      exact ⟨ret_ii HS.out.1.symm HS.out.2.symm, rfl⟩
    · have HS := Lib.hid (months_yes y c1 c2 h)
      go_enter Tryd.func195, Tryd.ntmps195
      go_wp2_with fail
      refine (cycle_Leap_ok y _ c1 c2).mono ?_
      rintro e w' ⟨rfl, rfl⟩
      go_wp2_with fail
      go_ret2
      exact ⟨ret_ii HS.out.1.symm HS.out.2.symm, rfl⟩
  · have hr := reck_no y (by omega)
    have HS := Lib.hid (months_no y (by omega))
    go_enter Tryd.func195, Tryd.ntmps195
    go_wp2_with fail
    refine (cycle_Leap_no y _ (by omega)).mono ?_
    rintro e w' ⟨rfl, rfl⟩
    go_wp2_with fail
    go_ret2
    exact ⟨ret_ii HS.out.1.symm HS.out.2.symm, rfl⟩
theorem ref3_In (y : Int) (w : World) :
    Calls Tryd.prog 89 #[.int .i64 y] w fun e w' => e = .returned (.tuple #[.int .i64 (Cal.monthsV y), .int .i64 (Cal.reckE y)]) ∧ w = w' := by
  by_cases c : 0 ≤ y ∧ y ≤ 10001
  · obtain ⟨c1, c2⟩ := c
    have hr := reck_yes y c1 c2
    cases h : Cal.leap y
    · have HS := Lib.hid (months_short y c1 c2 h)
      go_enter Tryd.func89, Tryd.ntmps89
      go_wp2_with fail
      refine (ref3_Right y _).mono ?_
      rintro e w' ⟨rfl, rfl⟩
      go_wp2_with fail
      refine (ref3_Is y _ (by omega) (by omega)).mono ?_
      rintro e w' ⟨rfl, rfl⟩
      go_wp2_with fail
      go_ret2
      exact ⟨ret_ii HS.out.1.symm HS.out.2.symm, rfl⟩
    · have HS := Lib.hid (months_yes y c1 c2 h)
      go_enter Tryd.func89, Tryd.ntmps89
      go_wp2_with fail
      refine (ref3_Right y _).mono ?_
      rintro e w' ⟨rfl, rfl⟩
      go_wp2_with fail
      refine (ref3_Is y _ (by omega) (by omega)).mono ?_
      rintro e w' ⟨rfl, rfl⟩
      go_wp2_with fail
      go_ret2
      exact ⟨ret_ii HS.out.1.symm HS.out.2.symm, rfl⟩
  · have hr := reck_no y (by omega)
    have HS := Lib.hid (months_no y (by omega))
    go_enter Tryd.func89, Tryd.ntmps89
    go_wp2_with fail
    refine (ref3_Right y _).mono ?_
    rintro e w' ⟨rfl, rfl⟩
    go_wp2_with fail
    go_ret2
    exact ⟨ret_ii HS.out.1.symm HS.out.2.symm, rfl⟩
theorem before_ok (y : Int) (h0 : 0 ≤ y) (h1 : y ≤ 10001) : Cal.beforeV y = Cal.before y ∧ Cal.reckE y = 0 := by rw [Cal.beforeV, Cal.reckE, reck_yes y h0 h1]; exact ⟨rfl, rfl⟩
theorem before_no (y : Int) (h : y < 0 ∨ 10001 < y) : Cal.beforeV y = 0 ∧ Cal.reckE y = 2 := by rw [Cal.beforeV, Cal.reckE, reck_no y h]; exact ⟨rfl, rfl⟩
theorem cycle_Before (y : Int) (w : World) :
    Calls Tryd.prog 127 #[.int .i64 y] w fun e w' => e = .returned (.tuple #[.int .i64 (Cal.beforeV y), .int .i64 (Cal.reckE y)]) ∧ w = w' := by
  by_cases c : 0 ≤ y ∧ y ≤ 10001
  · obtain ⟨c1, c2⟩ := c
    have hr := reck_yes y c1 c2
    have hs := before_ok y c1 c2
    rw [show Cal.before y = (235 * y - 235 + 1) / 19 by unfold Cal.before; congr 1; omega] at hs
    have HS := Lib.hid hs
    clear hs
    go_enter Tryd.func127, Tryd.ntmps127
    go_wp2_with fail
    refine (cycle_reckoned y _).mono ?_
    rintro e w' ⟨rfl, rfl⟩
    go_wp2_with fail
    refine (cycle_floor (235 * y - 235 + 1) 19 _ ⟨by omega, by omega⟩ ⟨by omega, by omega⟩ (by omega)).mono ?_
    rintro e w' ⟨rfl, rfl⟩
    go_wp2_with fail
    go_ret2
    exact ⟨ret_ii HS.out.1.symm HS.out.2.symm, rfl⟩
  · have hr := reck_no y (by omega)
    have HS := Lib.hid (before_no y (by omega))
    go_enter Tryd.func127, Tryd.ntmps127
    go_wp2_with fail
    refine (cycle_reckoned y _).mono ?_
    rintro e w' ⟨rfl, rfl⟩
    go_wp2_with fail
    go_ret2
    exact ⟨ret_ii HS.out.1.symm HS.out.2.symm, rfl⟩
theorem ref3_Before (y : Int) (w : World) :
    Calls Tryd.prog 141 #[.int .i64 y] w fun e w' => e = .returned (.tuple #[.int .i64 (Cal.beforeV y), .int .i64 (Cal.reckE y)]) ∧ w = w' := by
  by_cases c : 0 ≤ y ∧ y ≤ 10001
  · obtain ⟨c1, c2⟩ := c
    have hr := reck_yes y c1 c2
    have HS := Lib.hid (before_ok y c1 c2)
    go_enter Tryd.func141, Tryd.ntmps141
    go_wp2_with fail
    refine (ref3_Right y _).mono ?_
    rintro e w' ⟨rfl, rfl⟩
    go_wp2_with fail
    refine (ref_Down_pos (235 * y - 234) 19 _ ⟨by omega, by omega⟩ (by omega)).mono ?_
    rintro e w' ⟨rfl, rfl⟩
    go_wp2_with fail
    go_ret2
    exact ⟨ret_ii HS.out.1.symm HS.out.2.symm, rfl⟩
  · have hr := reck_no y (by omega)
    have HS := Lib.hid (before_no y (by omega))
    go_enter Tryd.func141, Tryd.ntmps141
    go_wp2_with fail
    refine (ref3_Right y _).mono ?_
    rintro e w' ⟨rfl, rfl⟩
    go_wp2_with fail
    go_ret2
    exact ⟨ret_ii HS.out.1.symm HS.out.2.symm, rfl⟩
theorem cycle_In_ok (y : Int) (w : World) (h0 : 0 ≤ y) (h1 : y ≤ 10001) :
    Calls Tryd.prog 195 #[.int .i64 y] w fun e w' => e = .returned (.tuple #[.int .i64 (Cal.months y), .int .i64 0]) ∧ w = w' := by
  have := cycle_In y w
  rwa [Cal.monthsV, Cal.reckE, reck_yes y h0 h1, if_pos rfl, if_pos rfl] at this
theorem cycle_In_no (y : Int) (w : World) (h : y < 0 ∨ 10001 < y) :
    Calls Tryd.prog 195 #[.int .i64 y] w fun e w' => e = .returned (.tuple #[.int .i64 0, .int .i64 2]) ∧ w = w' := by
  have := cycle_In y w
  rwa [(months_no y h).1, (months_no y h).2] at this
theorem ref3_In_ok (y : Int) (w : World) (h0 : 0 ≤ y) (h1 : y ≤ 10001) :
    Calls Tryd.prog 89 #[.int .i64 y] w fun e w' => e = .returned (.tuple #[.int .i64 (Cal.months y), .int .i64 0]) ∧ w = w' := by
  have := ref3_In y w
  rwa [Cal.monthsV, Cal.reckE, reck_yes y h0 h1, if_pos rfl, if_pos rfl] at this
theorem ref3_In_no (y : Int) (w : World) (h : y < 0 ∨ 10001 < y) :
    Calls Tryd.prog 89 #[.int .i64 y] w fun e w' => e = .returned (.tuple #[.int .i64 0, .int .i64 2]) ∧ w = w' := by
  have := ref3_In y w
  rwa [(months_no y h).1, (months_no y h).2] at this
theorem cycle_Before_ok (y : Int) (w : World) (h0 : 0 ≤ y) (h1 : y ≤ 10001) :
    Calls Tryd.prog 127 #[.int .i64 y] w fun e w' => e = .returned (.tuple #[.int .i64 (Cal.before y), .int .i64 0]) ∧ w = w' := by
  have := cycle_Before y w
  rwa [(before_ok y h0 h1).1, (before_ok y h0 h1).2] at this
theorem ref3_Before_ok (y : Int) (w : World) (h0 : 0 ≤ y) (h1 : y ≤ 10001) :
    Calls Tryd.prog 141 #[.int .i64 y] w fun e w' => e = .returned (.tuple #[.int .i64 (Cal.before y), .int .i64 0]) ∧ w = w' := by
  have := ref3_Before y w
  rwa [(before_ok y h0 h1).1, (before_ok y h0 h1).2] at this
end Go.Proofs.YtncckpfenjokmaaDoor
