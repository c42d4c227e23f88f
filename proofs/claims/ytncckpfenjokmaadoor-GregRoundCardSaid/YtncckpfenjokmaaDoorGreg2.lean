/- Layer 11: a day's Gregorian year; the document's sums. -/
import Derived.Test.YtncckpfenjokmaaDoorGreg
namespace Go.Proofs.YtncckpfenjokmaaDoor
open Go.ChangeShapes Go.WideShapes Go.ChangeAt Go.RowKit
set_option linter.unusedVariables false
set_option maxRecDepth 100000
namespace Gr
def lens0 : List Int := [31, 28, 31, 30, 31, 30, 31, 31, 30, 31, 30, 31]
def long (y : Int) : Int := if leap y then 366 else 365
def h100 (r : Int) : Int := min (r / 36524) 3
def r2 (r : Int) : Int := r - h100 r * 36524
def r3 (r : Int) : Int := r2 r - r2 r / 1461 * 1461
def h1 (r : Int) : Int := min (r3 r / 365) 3
def yearV (s : Int) : Int := 400 * (s / 146097) + 100 * h100 (s % 146097) + 4 * (r2 (s % 146097) / 1461) + h1 (s % 146097) + 1
def leftV (s : Int) : Int := r3 (s % 146097) - h1 (s % 146097) * 365
theorem year_spec (s : Int) : ahead (yearV s) + leftV s = s ∧ 0 ≤ leftV s ∧ leftV s < long (yearV s) := by
  have e : s = 146097 * (s / 146097) + s % 146097 := by omega
  have b0 : 0 ≤ s % 146097 := by omega
  have b1 : s % 146097 < 146097 := by omega
  unfold yearV leftV
  generalize s / 146097 = q at *
  generalize s % 146097 = r at *
  have ha : h100 r = min (r / 36524) 3 := rfl
  have a0 : 0 ≤ h100 r ∧ h100 r ≤ 3 := by omega
  have a1 : 0 ≤ r2 r ∧ r2 r ≤ 36524 ∧ (h100 r ≤ 2 → r2 r ≤ 36523) := by unfold r2; omega
  have er : r = h100 r * 36524 + r2 r := by unfold r2; omega
  have c0 : 0 ≤ r2 r / 1461 ∧ r2 r / 1461 ≤ 24 := by omega
  have c1 : r2 r = r2 r / 1461 * 1461 + r3 r := by unfold r3; omega
  have c2 : 0 ≤ r3 r ∧ r3 r ≤ 1460 := by unfold r3; omega
  have hd : h1 r = min (r3 r / 365) 3 := rfl
  have d0 : 0 ≤ h1 r ∧ h1 r ≤ 3 := by omega
  have c3 : r2 r / 1461 = 24 → h100 r ≤ 2 → r3 r ≤ 1459 := by omega
  generalize r2 r / 1461 = b at *
  generalize h100 r = a at *
  generalize h1 r = c at *
  generalize r2 r = x2 at *
  generalize r3 r = x3 at *
  have f1 : (400 * q + 100 * a + 4 * b + c + 1 - 1) / 4 = 100 * q + 25 * a + b := by omega
  have f2 : (400 * q + 100 * a + 4 * b + c + 1 - 1) / 100 = 4 * q + a := by omega
  have f3 : (400 * q + 100 * a + 4 * b + c + 1 - 1) / 400 = q := by omega
  refine ⟨?_, by omega, ?_⟩
  · unfold ahead; rw [f1, f2, f3]; omega
  · unfold long leap
    have g1 : (400 * q + 100 * a + 4 * b + c + 1) % 4 = (c + 1) % 4 := by omega
    have g2 : (400 * q + 100 * a + 4 * b + c + 1) % 100 = (4 * b + c + 1) % 100 := by omega
    have g3 : (400 * q + 100 * a + 4 * b + c + 1) % 400 = (100 * a + 4 * b + c + 1) % 400 := by omega
    rw [g1, g2, g3]
    by_cases k1 : c = 3
    · subst k1
      by_cases k2 : b = 24
      · subst k2
        by_cases k3 : a = 3
        · subst k3
          simp; omega
        · simp; omega
      · have : ¬ (4 * b + 3 + 1) % 100 = 0 := by omega
        simp [this]; omega
    · have : ¬ (c + 1) % 4 = 0 := by omega
      simp [this]; omega
theorem year_bd (s : Int) (h1 : -1400000 ≤ s) (h2 : s ≤ 2300000) : -5000 ≤ yearV s ∧ yearV s ≤ 8000 ∧ 0 ≤ leftV s ∧ leftV s ≤ 365 := by
  obtain ⟨e, b, c⟩ := year_spec s
  have : long (yearV s) ≤ 366 := by unfold long; split <;> omega
  unfold ahead at e
  omega
end Gr
theorem greg_Days (y m : Int) (w : World) (hG : Tab w 0 Gr.gregCells) (hy : I64 y) : Calls Tryd.prog 26 #[.int .i64 y, .int .i64 m] w fun e w' => e = .returned (.int .i64 (Gr.days y m)) ∧ Below w.heap.size w w' := by
  by_cases h : m < 1 ∨ 12 < m
  · rw [show Gr.days y m = 0 by unfold Gr.days; rw [if_neg]; simp; omega]
    exact greg_Days_no y m w hG h
  · rcases (show m = 1 ∨ m = 2 ∨ m = 3 ∨ m = 4 ∨ m = 5 ∨ m = 6 ∨ m = 7 ∨ m = 8 ∨ m = 9 ∨ m = 10 ∨ m = 11 ∨ m = 12 by omega) with rfl | rfl | rfl | rfl | rfl | rfl | rfl | rfl | rfl | rfl | rfl | rfl
    · exact greg_Days_1 y w hG
    · rw [show Gr.days y 2 = if Gr.leap y then 29 else 28 by cases h : Gr.leap y <;> simp [Gr.days, h]]
      exact greg_Days_2 y w hG hy
    · exact greg_Days_3 y w hG
    · exact greg_Days_4 y w hG
    · exact greg_Days_5 y w hG
    · exact greg_Days_6 y w hG
    · exact greg_Days_7 y w hG
    · exact greg_Days_8 y w hG
    · exact greg_Days_9 y w hG
    · exact greg_Days_10 y w hG
    · exact greg_Days_11 y w hG
    · exact greg_Days_12 y w hG
theorem ref11_Days (y m : Int) (w : World)  (hy : I64 y) : Calls Tryd.prog 27 #[.int .i64 y, .int .i64 m] w fun e w' => e = .returned (.int .i64 (Gr.days y m)) ∧ Below w.heap.size w w' := by
  by_cases h : m < 1 ∨ 12 < m
  · rw [show Gr.days y m = 0 by unfold Gr.days; rw [if_neg]; simp; omega]
    exact ref11_Days_no y m w h
  · rcases (show m = 1 ∨ m = 2 ∨ m = 3 ∨ m = 4 ∨ m = 5 ∨ m = 6 ∨ m = 7 ∨ m = 8 ∨ m = 9 ∨ m = 10 ∨ m = 11 ∨ m = 12 by omega) with rfl | rfl | rfl | rfl | rfl | rfl | rfl | rfl | rfl | rfl | rfl | rfl
    · exact ref11_Days_1 y w
    · rw [show Gr.days y 2 = if Gr.leap y then 29 else 28 by cases h : Gr.leap y <;> simp [Gr.days, h]]
      exact ref11_Days_2 y w hy
    · exact ref11_Days_3 y w
    · exact ref11_Days_4 y w
    · exact ref11_Days_5 y w
    · exact ref11_Days_6 y w
    · exact ref11_Days_7 y w
    · exact ref11_Days_8 y w
    · exact ref11_Days_9 y w
    · exact ref11_Days_10 y w
    · exact ref11_Days_11 y w
    · exact ref11_Days_12 y w
set_option maxHeartbeats 1000000 in
theorem greg_year (s : Int) (w : World) (b1 : -1400000 ≤ s) (b2 : s ≤ 2300000) : Calls Tryd.prog 61 #[.int .i64 s] w fun e w' => e = .returned (.tuple #[.int .i64 (Gr.yearV s), .int .i64 (Gr.leftV s)]) ∧ w = w' := by
  have d1 := Lib.hid (fun w => greg_divide s 146097 w ⟨by omega, by omega⟩ ⟨by omega, by omega⟩ (by omega))
  have q1 : -20 ≤ s / 146097 ∧ s / 146097 ≤ 20 := by omega
  have q2 : 0 ≤ s % 146097 ∧ s % 146097 < 146097 := by omega
  unfold Gr.yearV Gr.leftV
  generalize s / 146097 = q at *
  generalize s % 146097 = r at *
  have t1 : r.tdiv 36524 = r / 36524 := Int.tdiv_eq_ediv_of_nonneg q2.1
  have hh : Gr.h100 r = min (r / 36524) 3 := rfl
  have a0 : 0 ≤ Gr.h100 r ∧ Gr.h100 r ≤ 3 := by omega
  have e2 : Gr.r2 r = r - Gr.h100 r * 36524 := rfl
  have a1 : 0 ≤ Gr.r2 r ∧ Gr.r2 r ≤ 36524 := by rw [e2]; omega
  have t2 : (Gr.r2 r).tdiv 1461 = Gr.r2 r / 1461 := Int.tdiv_eq_ediv_of_nonneg a1.1
  have c0 : 0 ≤ Gr.r2 r / 1461 ∧ Gr.r2 r / 1461 ≤ 24 := by omega
  have e3 : Gr.r3 r = Gr.r2 r - Gr.r2 r / 1461 * 1461 := rfl
  have c2 : 0 ≤ Gr.r3 r ∧ Gr.r3 r ≤ 1460 := by rw [e3]; omega
  have t3 : (Gr.r3 r).tdiv 365 = Gr.r3 r / 365 := Int.tdiv_eq_ediv_of_nonneg c2.1
  have hd : Gr.h1 r = min (Gr.r3 r / 365) 3 := rfl
  have d0 : 0 ≤ Gr.h1 r ∧ Gr.h1 r ≤ 3 := by omega
  go_enter Tryd.func61, Tryd.ntmps61
  go_wp2_with fail
  refine (d1.out _).mono ?_
  rintro e w' ⟨rfl, rfl⟩
  go_wp2_with fail
  go_ret2
  refine ⟨?_, rfl⟩
  first
    | rfl
    | (trace_state; simp only [Gr.h1, Gr.r3, Gr.r2, Gr.h100]; done)
end Go.Proofs.YtncckpfenjokmaaDoor
