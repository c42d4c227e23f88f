/- Layer 3: contracts of the years. -/
import Derived.Test.YtinpdamfdaefmaaHalak
namespace Go.Proofs.Ytinpdamfdaefmaa
open Go.ChangeShapes Go.WideShapes Go.ChangeAt Go.RowKit
set_option linter.unusedVariables false

theorem reck_yes (y : Int) (h0 : 0 ≤ y) (h1 : y ≤ 10001) : Cal.reck y = true := by simp [Cal.reck, h0, h1]
theorem reck_no (y : Int) (h : y < 0 ∨ 10001 < y) : Cal.reck y = false := by
  rw [Bool.eq_false_iff]; intro h'; simp only [Cal.reck, Bool.and_eq_true, decide_eq_true_eq] at h'; omega
theorem leap_ok (y : Int) (h0 : 0 ≤ y) (h1 : y ≤ 10001) : Cal.leapV y = Cal.leap y ∧ Cal.reckE y = 0 := by rw [Cal.leapV, Cal.reckE, reck_yes y h0 h1]; exact ⟨rfl, rfl⟩
theorem leap_no (y : Int) (h : y < 0 ∨ 10001 < y) : Cal.leapV y = false ∧ Cal.reckE y = 2 := by rw [Cal.leapV, Cal.reckE, reck_no y h]; exact ⟨rfl, rfl⟩
theorem months_yes (y : Int) (h0 : 0 ≤ y) (h1 : y ≤ 10001) (h : Cal.leap y = true) : Cal.monthsV y = 13 ∧ Cal.reckE y = 0 := by
  rw [Cal.monthsV, Cal.months, Cal.reckE, reck_yes y h0 h1, h]; exact ⟨rfl, rfl⟩
theorem months_short (y : Int) (h0 : 0 ≤ y) (h1 : y ≤ 10001) (h : Cal.leap y = false) : Cal.monthsV y = 12 ∧ Cal.reckE y = 0 := by
  rw [Cal.monthsV, Cal.months, Cal.reckE, reck_yes y h0 h1, h]; exact ⟨rfl, rfl⟩
theorem months_no (y : Int) (h : y < 0 ∨ 10001 < y) : Cal.monthsV y = 0 ∧ Cal.reckE y = 2 := by rw [Cal.monthsV, Cal.reckE, reck_no y h]; exact ⟨rfl, rfl⟩
theorem before_ok (y : Int) (h0 : 0 ≤ y) (h1 : y ≤ 10001) : Cal.beforeV y = Cal.before y ∧ Cal.reckE y = 0 := by rw [Cal.beforeV, Cal.reckE, reck_yes y h0 h1]; exact ⟨rfl, rfl⟩
theorem before_no (y : Int) (h : y < 0 ∨ 10001 < y) : Cal.beforeV y = 0 ∧ Cal.reckE y = 2 := by rw [Cal.beforeV, Cal.reckE, reck_no y h]; exact ⟨rfl, rfl⟩
end Go.Proofs.Ytinpdamfdaefmaa
