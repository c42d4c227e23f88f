/- Layer 11: Gregorian years and months. -/
import Derived.Test.YtafenpgafmdenaaGreatDoorMonth4
import Derived.Test.YtafenpgafmdenaaGreatDoorLC
namespace Go.Proofs.YtafenpgafmdenaaGreatDoor
open Go.ChangeShapes Go.WideShapes Go.ChangeAt Go.RowKit
set_option linter.unusedVariables false
set_option maxRecDepth 100000
namespace Gr
def gregCells : List Value := [31, 28, 31, 30, 31, 30, 31, 31, 30, 31, 30, 31].map (Value.int .i64)
def leap (y : Int) : Bool := decide (y % 4 = 0) && (!decide (y % 100 = 0) || decide (y % 400 = 0))
def days (y m : Int) : Int := if decide (1 ≤ m) && decide (m ≤ 12) then (if m = 2 ∧ leap y = true then 29 else ([31, 28, 31, 30, 31, 30, 31, 31, 30, 31, 30, 31] : List Int).getD (m - 1).toNat 0) else 0
def ahead (y : Int) : Int := 365 * (y - 1) + (y - 1) / 4 - (y - 1) / 100 + (y - 1) / 400
theorem tmod_zero (y k : Int) : (y.tmod k == 0) = decide (y % k = 0) := by
  rw [Bool.eq_iff_iff]
  simp only [beq_iff_eq, decide_eq_true_eq]
  exact ⟨fun h => Int.emod_eq_zero_of_dvd (Int.dvd_of_tmod_eq_zero h), fun h => Int.tmod_eq_zero_of_dvd (Int.dvd_of_emod_eq_zero h)⟩
theorem tmod_ne (y k : Int) : (y.tmod k != 0) = !decide (y % k = 0) := by rw [bne, tmod_zero]
end Gr
theorem greg_Leap (y : Int) (w : World) (hy : I64 y) : Calls Tryz.prog 136 #[.int .i64 y] w fun e w' => e = .returned (.bool (Gr.leap y)) ∧ w = w' := by
  have t1 := Gr.tmod_zero y 4
  have t2 := Gr.tmod_ne y 100
  have t3 := Gr.tmod_zero y 400
  unfold Gr.leap
  generalize decide (y % 4 = 0) = b1 at *
  generalize decide (y % 100 = 0) = b2 at *
  generalize decide (y % 400 = 0) = b3 at *
  cases b1 <;> cases b2 <;> cases b3
  all_goals
    go_enter Tryz.func136, Tryz.ntmps136
    go_wp2_with fail
    go_ret
    first
      | exact ⟨rfl, rfl⟩
      | (refine ⟨?_, rfl⟩; simp [*])
theorem ref11_Leap (y : Int) (w : World) (hy : I64 y) : Calls Tryz.prog 142 #[.int .i64 y] w fun e w' => e = .returned (.bool (Gr.leap y)) ∧ w = w' := by
  have t1 := Gr.tmod_zero y 4
  have t2 := Gr.tmod_ne y 100
  have t3 := Gr.tmod_zero y 400
  unfold Gr.leap
  generalize decide (y % 4 = 0) = b1 at *
  generalize decide (y % 100 = 0) = b2 at *
  generalize decide (y % 400 = 0) = b3 at *
  cases b1 <;> cases b2 <;> cases b3
  all_goals
    go_enter Tryz.func142, Tryz.ntmps142
    go_wp2_with fail
    go_ret
    first
      | exact ⟨rfl, rfl⟩
      | (refine ⟨?_, rfl⟩; simp [*])
def greg_LessV (y m d z n f : Int) : Bool := if y = z then (if m = n then decide (d < f) else decide (m < n)) else decide (y < z)
def ref11_LessV (y m d z n f : Int) : Bool := if y = z then (if m = n then decide (d < f) else decide (m < n)) else decide (y < z)
theorem greg_divide (a b : Int) (w : World) (ha : I64 a) (hb : I64 b) (h : 0 < b) : Calls Tryz.prog 137 #[.int .i64 a, .int .i64 b] w fun e w' => e = .returned (.tuple #[.int .i64 (a / b), .int .i64 (a % b)]) ∧ w = w' := by
  have h1 := Lib.hid (fun w => exact_Div_pos a b w ha hb h)
  have h2 := Lib.hid (fun w => exact_Mod_pos a b w ha hb h)
  generalize a / b = q at *
  generalize a % b = r at *
  go_enter Tryz.func137, Tryz.ntmps137
  go_wp2_with fail
  refine (h1.out _).mono ?_
  rintro e w' ⟨rfl, rfl⟩
  go_wp2_with fail
  refine (h2.out _).mono ?_
  rintro e w' ⟨rfl, rfl⟩
  go_wp2_with fail
  go_ret2
  exact ⟨rfl, rfl⟩
set_option maxHeartbeats 1000000 in
theorem greg_ahead (y : Int) (w : World) (h1 : -5000 ≤ y) (h2 : y ≤ 8000) : Calls Tryz.prog 91 #[.int .i64 y] w fun e w' => e = .returned (.int .i64 (Gr.ahead y)) ∧ w = w' := by
  have d1 := Lib.hid (fun w => greg_divide (y - 1) 4 w ⟨by omega, by omega⟩ ⟨by omega, by omega⟩ (by omega))
  have d2 := Lib.hid (fun w => greg_divide (y - 1) 100 w ⟨by omega, by omega⟩ ⟨by omega, by omega⟩ (by omega))
  have d3 := Lib.hid (fun w => greg_divide (y - 1) 400 w ⟨by omega, by omega⟩ ⟨by omega, by omega⟩ (by omega))
  have b1 : -2000 ≤ (y - 1) / 4 ∧ (y - 1) / 4 ≤ 2000 := by omega
  have b2 : -2000 ≤ (y - 1) / 100 ∧ (y - 1) / 100 ≤ 2000 := by omega
  have b3 : -2000 ≤ (y - 1) / 400 ∧ (y - 1) / 400 ≤ 2000 := by omega
  unfold Gr.ahead
  generalize (y - 1) / 4 = q1 at *
  generalize (y - 1) / 100 = q2 at *
  generalize (y - 1) / 400 = q3 at *
  go_enter Tryz.func91, Tryz.ntmps91
  go_wp2_with fail
  refine (d1.out _).mono ?_
  rintro e w' ⟨rfl, rfl⟩
  go_wp2_with fail
  refine (d2.out _).mono ?_
  rintro e w' ⟨rfl, rfl⟩
  go_wp2_with fail
  refine (d3.out _).mono ?_
  rintro e w' ⟨rfl, rfl⟩
  go_wp2_with fail
  go_ret
  exact ⟨rfl, rfl⟩
theorem greg_Days_no (y m : Int) (w : World) (hG : Tab w 2 Gr.gregCells) (h : m < 1 ∨ 12 < m) : Calls Tryz.prog 90 #[.int .i64 y, .int .i64 m] w fun e w' => e = .returned (.int .i64 0) ∧ Below w.heap.size w w' := by
  by_cases h1 : m < 1
  · have h2 : ¬ 12 < m := by omega
    go_enter Tryz.func90, Tryz.ntmps90
    go_wp2_with fail
    go_ret
    exact ⟨rfl, Below.refl _ _⟩
  · have h2 : 12 < m := by omega
    go_enter Tryz.func90, Tryz.ntmps90
    go_wp2_with fail
    go_ret
    exact ⟨rfl, Below.refl _ _⟩
theorem greg_Days_1 (y : Int) (w : World) (hG : Tab w 2 Gr.gregCells) : Calls Tryz.prog 90 #[.int .i64 y, .int .i64 1] w fun e w' => e = .returned (.int .i64 31) ∧ Below w.heap.size w w' := by
  have hc : w.cell? ⟨2, 0, none⟩ = some (.int .i64 31) := by rw [hG.cell]; rfl
  go_enter Tryz.func90, Tryz.ntmps90
  go_wp2_with fail
  go_ret
  exact ⟨rfl, by first | exact Below.refl _ _ | exact ba _ _⟩
theorem greg_Days_2 (y : Int) (w : World) (hG : Tab w 2 Gr.gregCells) (hy : I64 y) : Calls Tryz.prog 90 #[.int .i64 y, .int .i64 2] w fun e w' => e = .returned (.int .i64 (if Gr.leap y then 29 else 28)) ∧ Below w.heap.size w w' := by
  have hl := Lib.hid (fun w => greg_Leap y w hy)
  have hc : w.cell? ⟨2, 1, none⟩ = some (.int .i64 28) := by rw [hG.cell]; rfl
  generalize Gr.leap y = b at *
  cases b
  · simp only [Bool.false_eq_true, if_false]
    go_enter Tryz.func90, Tryz.ntmps90
    go_wp2_with fail
    refine (hl.out _).mono ?_
    rintro e w' ⟨rfl, rfl⟩
    go_wp2_with fail
    go_ret
    exact ⟨rfl, by first | exact Below.refl _ _ | exact ba _ _⟩
  · simp only [if_true]
    go_enter Tryz.func90, Tryz.ntmps90
    go_wp2_with fail
    refine (hl.out _).mono ?_
    rintro e w' ⟨rfl, rfl⟩
    go_wp2_with fail
    go_ret
    exact ⟨rfl, by first | exact Below.refl _ _ | exact ba _ _⟩
theorem greg_Days_3 (y : Int) (w : World) (hG : Tab w 2 Gr.gregCells) : Calls Tryz.prog 90 #[.int .i64 y, .int .i64 3] w fun e w' => e = .returned (.int .i64 31) ∧ Below w.heap.size w w' := by
  have hc : w.cell? ⟨2, 2, none⟩ = some (.int .i64 31) := by rw [hG.cell]; rfl
  go_enter Tryz.func90, Tryz.ntmps90
  go_wp2_with fail
  go_ret
  exact ⟨rfl, by first | exact Below.refl _ _ | exact ba _ _⟩
theorem greg_Days_4 (y : Int) (w : World) (hG : Tab w 2 Gr.gregCells) : Calls Tryz.prog 90 #[.int .i64 y, .int .i64 4] w fun e w' => e = .returned (.int .i64 30) ∧ Below w.heap.size w w' := by
  have hc : w.cell? ⟨2, 3, none⟩ = some (.int .i64 30) := by rw [hG.cell]; rfl
  go_enter Tryz.func90, Tryz.ntmps90
  go_wp2_with fail
  go_ret
  exact ⟨rfl, by first | exact Below.refl _ _ | exact ba _ _⟩
theorem greg_Days_5 (y : Int) (w : World) (hG : Tab w 2 Gr.gregCells) : Calls Tryz.prog 90 #[.int .i64 y, .int .i64 5] w fun e w' => e = .returned (.int .i64 31) ∧ Below w.heap.size w w' := by
  have hc : w.cell? ⟨2, 4, none⟩ = some (.int .i64 31) := by rw [hG.cell]; rfl
  go_enter Tryz.func90, Tryz.ntmps90
  go_wp2_with fail
  go_ret
  exact ⟨rfl, by first | exact Below.refl _ _ | exact ba _ _⟩
theorem greg_Days_6 (y : Int) (w : World) (hG : Tab w 2 Gr.gregCells) : Calls Tryz.prog 90 #[.int .i64 y, .int .i64 6] w fun e w' => e = .returned (.int .i64 30) ∧ Below w.heap.size w w' := by
  have hc : w.cell? ⟨2, 5, none⟩ = some (.int .i64 30) := by rw [hG.cell]; rfl
  go_enter Tryz.func90, Tryz.ntmps90
  go_wp2_with fail
  go_ret
  exact ⟨rfl, by first | exact Below.refl _ _ | exact ba _ _⟩
theorem greg_Days_7 (y : Int) (w : World) (hG : Tab w 2 Gr.gregCells) : Calls Tryz.prog 90 #[.int .i64 y, .int .i64 7] w fun e w' => e = .returned (.int .i64 31) ∧ Below w.heap.size w w' := by
  have hc : w.cell? ⟨2, 6, none⟩ = some (.int .i64 31) := by rw [hG.cell]; rfl
  go_enter Tryz.func90, Tryz.ntmps90
  go_wp2_with fail
  go_ret
  exact ⟨rfl, by first | exact Below.refl _ _ | exact ba _ _⟩
theorem greg_Days_8 (y : Int) (w : World) (hG : Tab w 2 Gr.gregCells) : Calls Tryz.prog 90 #[.int .i64 y, .int .i64 8] w fun e w' => e = .returned (.int .i64 31) ∧ Below w.heap.size w w' := by
  have hc : w.cell? ⟨2, 7, none⟩ = some (.int .i64 31) := by rw [hG.cell]; rfl
  go_enter Tryz.func90, Tryz.ntmps90
  go_wp2_with fail
  go_ret
  exact ⟨rfl, by first | exact Below.refl _ _ | exact ba _ _⟩
theorem greg_Days_9 (y : Int) (w : World) (hG : Tab w 2 Gr.gregCells) : Calls Tryz.prog 90 #[.int .i64 y, .int .i64 9] w fun e w' => e = .returned (.int .i64 30) ∧ Below w.heap.size w w' := by
  have hc : w.cell? ⟨2, 8, none⟩ = some (.int .i64 30) := by rw [hG.cell]; rfl
  go_enter Tryz.func90, Tryz.ntmps90
  go_wp2_with fail
  go_ret
  exact ⟨rfl, by first | exact Below.refl _ _ | exact ba _ _⟩
theorem greg_Days_10 (y : Int) (w : World) (hG : Tab w 2 Gr.gregCells) : Calls Tryz.prog 90 #[.int .i64 y, .int .i64 10] w fun e w' => e = .returned (.int .i64 31) ∧ Below w.heap.size w w' := by
  have hc : w.cell? ⟨2, 9, none⟩ = some (.int .i64 31) := by rw [hG.cell]; rfl
  go_enter Tryz.func90, Tryz.ntmps90
  go_wp2_with fail
  go_ret
  exact ⟨rfl, by first | exact Below.refl _ _ | exact ba _ _⟩
theorem greg_Days_11 (y : Int) (w : World) (hG : Tab w 2 Gr.gregCells) : Calls Tryz.prog 90 #[.int .i64 y, .int .i64 11] w fun e w' => e = .returned (.int .i64 30) ∧ Below w.heap.size w w' := by
  have hc : w.cell? ⟨2, 10, none⟩ = some (.int .i64 30) := by rw [hG.cell]; rfl
  go_enter Tryz.func90, Tryz.ntmps90
  go_wp2_with fail
  go_ret
  exact ⟨rfl, by first | exact Below.refl _ _ | exact ba _ _⟩
theorem greg_Days_12 (y : Int) (w : World) (hG : Tab w 2 Gr.gregCells) : Calls Tryz.prog 90 #[.int .i64 y, .int .i64 12] w fun e w' => e = .returned (.int .i64 31) ∧ Below w.heap.size w w' := by
  have hc : w.cell? ⟨2, 11, none⟩ = some (.int .i64 31) := by rw [hG.cell]; rfl
  go_enter Tryz.func90, Tryz.ntmps90
  go_wp2_with fail
  go_ret
  exact ⟨rfl, by first | exact Below.refl _ _ | exact ba _ _⟩
theorem ref11_Days_no (y m : Int) (w : World)  (h : m < 1 ∨ 12 < m) : Calls Tryz.prog 93 #[.int .i64 y, .int .i64 m] w fun e w' => e = .returned (.int .i64 0) ∧ Below w.heap.size w w' := by
  by_cases h1 : m < 1
  · have h2 : ¬ 12 < m := by omega
    go_enter Tryz.func93, Tryz.ntmps93
    go_wp2_with fail
    go_ret
    exact ⟨rfl, Below.refl _ _⟩
  · have h2 : 12 < m := by omega
    go_enter Tryz.func93, Tryz.ntmps93
    go_wp2_with fail
    go_ret
    exact ⟨rfl, Below.refl _ _⟩
theorem ref11_Days_1 (y : Int) (w : World)  : Calls Tryz.prog 93 #[.int .i64 y, .int .i64 1] w fun e w' => e = .returned (.int .i64 31) ∧ Below w.heap.size w w' := by
  go_enter Tryz.func93, Tryz.ntmps93
  go_wp2_with fail
  go_ret
  exact ⟨rfl, by first | exact Below.refl _ _ | exact ba _ _⟩
theorem ref11_Days_2 (y : Int) (w : World)  (hy : I64 y) : Calls Tryz.prog 93 #[.int .i64 y, .int .i64 2] w fun e w' => e = .returned (.int .i64 (if Gr.leap y then 29 else 28)) ∧ Below w.heap.size w w' := by
  have hl := Lib.hid (fun w => ref11_Leap y w hy)
  generalize Gr.leap y = b at *
  cases b
  · simp only [Bool.false_eq_true, if_false]
    go_enter Tryz.func93, Tryz.ntmps93
    go_wp2_with fail
    refine (hl.out _).mono ?_
    rintro e w' ⟨rfl, rfl⟩
    go_wp2_with fail
    go_ret
    exact ⟨rfl, by first | exact Below.refl _ _ | exact ba _ _⟩
  · simp only [if_true]
    go_enter Tryz.func93, Tryz.ntmps93
    go_wp2_with fail
    refine (hl.out _).mono ?_
    rintro e w' ⟨rfl, rfl⟩
    go_wp2_with fail
    go_ret
    exact ⟨rfl, by first | exact Below.refl _ _ | exact ba _ _⟩
theorem ref11_Days_3 (y : Int) (w : World)  : Calls Tryz.prog 93 #[.int .i64 y, .int .i64 3] w fun e w' => e = .returned (.int .i64 31) ∧ Below w.heap.size w w' := by
  go_enter Tryz.func93, Tryz.ntmps93
  go_wp2_with fail
  go_ret
  exact ⟨rfl, by first | exact Below.refl _ _ | exact ba _ _⟩
theorem ref11_Days_4 (y : Int) (w : World)  : Calls Tryz.prog 93 #[.int .i64 y, .int .i64 4] w fun e w' => e = .returned (.int .i64 30) ∧ Below w.heap.size w w' := by
  go_enter Tryz.func93, Tryz.ntmps93
  go_wp2_with fail
  go_ret
  exact ⟨rfl, by first | exact Below.refl _ _ | exact ba _ _⟩
theorem ref11_Days_5 (y : Int) (w : World)  : Calls Tryz.prog 93 #[.int .i64 y, .int .i64 5] w fun e w' => e = .returned (.int .i64 31) ∧ Below w.heap.size w w' := by
  go_enter Tryz.func93, Tryz.ntmps93
  go_wp2_with fail
  go_ret
  exact ⟨rfl, by first | exact Below.refl _ _ | exact ba _ _⟩
theorem ref11_Days_6 (y : Int) (w : World)  : Calls Tryz.prog 93 #[.int .i64 y, .int .i64 6] w fun e w' => e = .returned (.int .i64 30) ∧ Below w.heap.size w w' := by
  go_enter Tryz.func93, Tryz.ntmps93
  go_wp2_with fail
  go_ret
  exact ⟨rfl, by first | exact Below.refl _ _ | exact ba _ _⟩
theorem ref11_Days_7 (y : Int) (w : World)  : Calls Tryz.prog 93 #[.int .i64 y, .int .i64 7] w fun e w' => e = .returned (.int .i64 31) ∧ Below w.heap.size w w' := by
  go_enter Tryz.func93, Tryz.ntmps93
  go_wp2_with fail
  go_ret
  exact ⟨rfl, by first | exact Below.refl _ _ | exact ba _ _⟩
theorem ref11_Days_8 (y : Int) (w : World)  : Calls Tryz.prog 93 #[.int .i64 y, .int .i64 8] w fun e w' => e = .returned (.int .i64 31) ∧ Below w.heap.size w w' := by
  go_enter Tryz.func93, Tryz.ntmps93
  go_wp2_with fail
  go_ret
  exact ⟨rfl, by first | exact Below.refl _ _ | exact ba _ _⟩
theorem ref11_Days_9 (y : Int) (w : World)  : Calls Tryz.prog 93 #[.int .i64 y, .int .i64 9] w fun e w' => e = .returned (.int .i64 30) ∧ Below w.heap.size w w' := by
  go_enter Tryz.func93, Tryz.ntmps93
  go_wp2_with fail
  go_ret
  exact ⟨rfl, by first | exact Below.refl _ _ | exact ba _ _⟩
theorem ref11_Days_10 (y : Int) (w : World)  : Calls Tryz.prog 93 #[.int .i64 y, .int .i64 10] w fun e w' => e = .returned (.int .i64 31) ∧ Below w.heap.size w w' := by
  go_enter Tryz.func93, Tryz.ntmps93
  go_wp2_with fail
  go_ret
  exact ⟨rfl, by first | exact Below.refl _ _ | exact ba _ _⟩
theorem ref11_Days_11 (y : Int) (w : World)  : Calls Tryz.prog 93 #[.int .i64 y, .int .i64 11] w fun e w' => e = .returned (.int .i64 30) ∧ Below w.heap.size w w' := by
  go_enter Tryz.func93, Tryz.ntmps93
  go_wp2_with fail
  go_ret
  exact ⟨rfl, by first | exact Below.refl _ _ | exact ba _ _⟩
theorem ref11_Days_12 (y : Int) (w : World)  : Calls Tryz.prog 93 #[.int .i64 y, .int .i64 12] w fun e w' => e = .returned (.int .i64 31) ∧ Below w.heap.size w w' := by
  go_enter Tryz.func93, Tryz.ntmps93
  go_wp2_with fail
  go_ret
  exact ⟨rfl, by first | exact Below.refl _ _ | exact ba _ _⟩
end Go.Proofs.YtafenpgafmdenaaGreatDoor
