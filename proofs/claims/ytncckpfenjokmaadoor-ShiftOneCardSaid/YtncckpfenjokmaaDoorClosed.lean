/- Layer 6: contracts of the other way. -/
import Derived.Test.YtncckpfenjokmaaDoorW5
namespace Go.Proofs.YtncckpfenjokmaaDoor
open Go.ChangeShapes Go.WideShapes Go.ChangeAt Go.RowKit
set_option linter.unusedVariables false
theorem near_yes (y : Int) (h0 : -1 ≤ y) (h1 : y ≤ 10002) : Cal.nearV y = Cal.nearly y ∧ Cal.nearE y = 0 := by
  have h : Cal.nearIn y = true := by simp [Cal.nearIn, h0, h1]
  rw [Cal.nearV, Cal.nearE, h]; exact ⟨rfl, rfl⟩
theorem near_no (y : Int) (h : y < -1 ∨ 10002 < y) : Cal.nearV y = 0 ∧ Cal.nearE y = 2 := by
  have h : Cal.nearIn y = false := by
    rw [Bool.eq_false_iff]; intro h'; simp only [Cal.nearIn, Bool.and_eq_true, decide_eq_true_eq] at h'; omega
  rw [Cal.nearV, Cal.nearE, h]; exact ⟨rfl, rfl⟩
theorem nearly_up (y : Int) (h : (3 * Cal.nearly0 (Cal.before y) + 3) % 7 < 3) : Cal.nearly y = Cal.nearly0 (Cal.before y) + 1 := by unfold Cal.nearly; rw [if_pos h]
theorem nearly_flat (y : Int) (h : ¬(3 * Cal.nearly0 (Cal.before y) + 3) % 7 < 3) : Cal.nearly y = Cal.nearly0 (Cal.before y) := by unfold Cal.nearly; rw [if_neg h]
theorem near0_bd (y : Int) (h0 : -1 ≤ y) (h1 : y ≤ 10002) : -1000 ≤ Cal.nearly0 (Cal.before y) ∧ Cal.nearly0 (Cal.before y) ≤ 3700000 := by unfold Cal.nearly0 Cal.before; omega
theorem before_bd2 (y : Int) (h0 : -1 ≤ y) (h1 : y ≤ 10002) : -30 ≤ Cal.before y ∧ Cal.before y ≤ 123720 := by unfold Cal.before; omega

theorem closed_floor (a b : Int) (w : World) (ha : I64 a) (hb : I64 b) (h : 0 < b) :
    Calls Tryd.prog 157 #[.int .i64 a, .int .i64 b] w fun e w' => e = .returned (.int .i64 (a / b)) ∧ w = w' := by
  have HD := Lib.hid (fun w => exact_Div_pos a b w ha hb h)
  go_enter Tryd.func157, Tryd.ntmps157
  go_wp2_with fail
  refine (HD.out _).mono ?_
  rintro e w' ⟨rfl, rfl⟩
  go_wp2_with fail
  go_ret
  exact ⟨rfl, rfl⟩

set_option maxHeartbeats 400000 in
theorem closed_Nearly (y : Int) (w : World) :
    Calls Tryd.prog 140 #[.int .i64 y] w fun e w' => e = .returned (.tuple #[.int .i64 (Cal.nearV y), .int .i64 (Cal.nearE y)]) ∧ w = w' := by
  rcases (show y < -1 ∨ (-1 ≤ y ∧ y ≤ 10002) ∨ (-1 ≤ y ∧ 10002 < y) by omega) with c | ⟨c1, c2⟩ | ⟨c1, c⟩
  · have HS := Lib.hid (near_no y (by omega))
    go_enter Tryd.func140, Tryd.ntmps140
    go_wp2_with fail
    go_ret2
    exact ⟨ret_ii HS.out.1.symm HS.out.2.symm, rfl⟩
  · have hs := near_yes y c1 c2
    obtain ⟨b1, b2⟩ := before_bd2 y c1 c2
    obtain ⟨b3, b4⟩ := near0_bd y c1 c2
    have H1 := Lib.hid (fun w => closed_floor (235 * y - 234) 19 w ⟨by omega, by omega⟩ ⟨by omega, by omega⟩ (by omega))
    have H2 := Lib.hid (fun w => closed_floor (12084 + 13753 * Cal.before y) 25920 w ⟨by omega, by omega⟩ ⟨by omega, by omega⟩ (by omega))
    have H3 := Lib.hid (fun w => exact_Mod_pos (3 * Cal.nearly0 (Cal.before y) + 3) 7 w ⟨by omega, by omega⟩ ⟨by omega, by omega⟩ (by omega))
    rw [show (235 * y - 234) / 19 = Cal.before y from rfl] at H1
    have up := nearly_up y
    have fl := nearly_flat y
    have en : Cal.nearly0 (Cal.before y) = 29 * Cal.before y + (12084 + 13753 * Cal.before y) / 25920 := rfl
    have k1 : 0 ≤ (3 * Cal.nearly0 (Cal.before y) + 3) % 7 := by omega
    generalize Cal.before y = m at *
    have b5 : -20 ≤ (12084 + 13753 * m) / 25920 := by omega
    have b6 : (12084 + 13753 * m) / 25920 ≤ 70000 := by omega
    generalize (12084 + 13753 * m) / 25920 = q at *
    by_cases c3 : (3 * Cal.nearly0 m + 3) % 7 < 3
    · have HS := Lib.hid (And.intro (hs.1.trans (up c3)) hs.2)
      rw [en] at b3 b4 HS H3 c3 k1
      clear hs up fl en
      go_enter Tryd.func140, Tryd.ntmps140
      go_wp2_with fail
      refine (H1.out _).mono ?_
      rintro e w' ⟨rfl, rfl⟩
      go_wp2_with fail
      refine (H2.out _).mono ?_
      rintro e w' ⟨rfl, rfl⟩
      go_wp2_with fail
      refine (H3.out _).mono ?_
      rintro e w' ⟨rfl, rfl⟩
      go_wp2_with fail
      go_ret2
      exact ⟨ret_ii HS.out.1.symm HS.out.2.symm, rfl⟩
    · have HS := Lib.hid (And.intro (hs.1.trans (fl c3)) hs.2)
      rw [en] at b3 b4 HS H3 c3 k1
      clear hs up fl en
      go_enter Tryd.func140, Tryd.ntmps140
      go_wp2_with fail
      refine (H1.out _).mono ?_
      rintro e w' ⟨rfl, rfl⟩
      go_wp2_with fail
      refine (H2.out _).mono ?_
      rintro e w' ⟨rfl, rfl⟩
      go_wp2_with fail
      refine (H3.out _).mono ?_
      rintro e w' ⟨rfl, rfl⟩
      go_wp2_with fail
      go_ret2
      exact ⟨ret_ii HS.out.1.symm HS.out.2.symm, rfl⟩
  · have HS := Lib.hid (near_no y (by omega))
    go_enter Tryd.func140, Tryd.ntmps140
    go_wp2_with fail
    go_ret2
    exact ⟨ret_ii HS.out.1.symm HS.out.2.symm, rfl⟩

end Go.Proofs.YtncckpfenjokmaaDoor
