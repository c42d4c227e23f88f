/- Layer 4: contracts of new moons. -/
import Derived.Test.YtinpdamfdaefmaaW2
import Derived.Test.YtinpdamfdaefmaaCycle
namespace Go.Proofs.Ytinpdamfdaefmaa
open Go.ChangeShapes Go.WideShapes Go.ChangeAt Go.RowKit
set_option linter.unusedVariables false

theorem molad_Weekday (d : Int) (w : World) (hd : I64 d) :
    Calls Try.prog 32 #[.int .i64 d] w fun e w' => e = .returned (.int .i64 (d % 7)) ∧ w = w' := by
  go_enter Try.func32, Try.ntmps32
  go_wp2_with fail
  refine (exact_Mod_pos d 7 _ hd ⟨by omega, by omega⟩ (by omega)).mono ?_
  rintro e w' ⟨rfl, rfl⟩
  go_wp2_with fail
  go_ret
  exact ⟨rfl, rfl⟩
theorem ref4_Weekday (d : Int) (w : World) :
    Calls Try.prog 28 #[.int .i64 d] w fun e w' => e = .returned (.int .i64 (d % 7)) ∧ w = w' := by
  go_enter Try.func28, Try.ntmps28
  go_wp2_with fail
  refine (ref_Left_pos d 7 _ ⟨by omega, by omega⟩ (by omega)).mono ?_
  rintro e w' ⟨rfl, rfl⟩
  go_wp2_with fail
  go_ret
  exact ⟨rfl, rfl⟩
theorem moon_yes (n : Int) (h1 : -200000 ≤ n) (h2 : n ≤ 200000) : Cal.moonD n = Cal.moonDay n ∧ Cal.moonP n = Cal.moonPart n ∧ Cal.moonE n = 0 := by
  have h : Cal.moonIn n = true := by simp [Cal.moonIn, h1, h2]
  rw [Cal.moonD, Cal.moonP, Cal.moonE, h]; exact ⟨rfl, rfl, rfl⟩
theorem moon_no (n : Int) (h : n < -200000 ∨ 200000 < n) : Cal.moonD n = 0 ∧ Cal.moonP n = 0 ∧ Cal.moonE n = 2 := by
  have h : Cal.moonIn n = false := by
    rw [Bool.eq_false_iff]; intro h'; simp only [Cal.moonIn, Bool.and_eq_true, decide_eq_true_eq] at h'; omega
  rw [Cal.moonD, Cal.moonP, Cal.moonE, h]; exact ⟨rfl, rfl, rfl⟩
theorem moonDay_bd (n : Int) (h1 : -200000 ≤ n) (h2 : n ≤ 200000) : -7300000 ≤ Cal.moonDay n ∧ Cal.moonDay n ≤ 4600000 := by unfold Cal.moonDay; omega
theorem moonPart_bd (n : Int) : 0 ≤ Cal.moonPart n ∧ Cal.moonPart n < 25920 := by unfold Cal.moonPart; omega
theorem months_bd (y : Int) : 12 ≤ Cal.months y ∧ Cal.months y ≤ 13 := by unfold Cal.months; split <;> omega
theorem before_bd (y : Int) (h0 : 0 ≤ y) (h1 : y ≤ 10001) : -13 ≤ Cal.before y ∧ Cal.before y ≤ 123700 := by unfold Cal.before; omega
theorem of_no (y m : Int) (h : y < 0 ∨ 10001 < y) : Cal.ofD y m = 0 ∧ Cal.ofP y m = 0 ∧ Cal.ofE y m = 2 := by
  rw [Cal.ofD, Cal.ofP, Cal.ofE, reck_no y h]; exact ⟨rfl, rfl, rfl⟩
theorem of_yes (y m : Int) (h0 : 0 ≤ y) (h1 : y ≤ 10001) (m1 : 1 ≤ m) (m2 : m ≤ Cal.months y) : Cal.ofD y m = Cal.moonDay (Cal.before y + m - 1) ∧ Cal.ofP y m = Cal.moonPart (Cal.before y + m - 1) ∧ Cal.ofE y m = 0 := by
  have h : Cal.ofIn y m = true := by simp [Cal.ofIn, m1, m2]
  rw [Cal.ofD, Cal.ofP, Cal.ofE, reck_yes y h0 h1, h]; exact ⟨rfl, rfl, rfl⟩
theorem of_month (y m : Int) (h0 : 0 ≤ y) (h1 : y ≤ 10001) (h : m < 1 ∨ Cal.months y < m) : Cal.ofD y m = 0 ∧ Cal.ofP y m = 0 ∧ Cal.ofE y m = 3 := by
  have h : Cal.ofIn y m = false := by
    rw [Bool.eq_false_iff]; intro h'; simp only [Cal.ofIn, Bool.and_eq_true, decide_eq_true_eq] at h'; omega
  rw [Cal.ofD, Cal.ofP, Cal.ofE, reck_yes y h0 h1, h]; exact ⟨rfl, rfl, rfl⟩
end Go.Proofs.Ytinpdamfdaefmaa
