/- Layer 20: the days that are moved. -/
import Derived.Test.YtagmdglmflcegaaDoorFe
namespace Go.Proofs.YtagmdglmflcegaaDoor
open Go.ChangeShapes Go.WideShapes Go.ChangeAt Go.RowKit Go.Lib Go.Sort Go.Shelf
set_option linter.unusedVariables false
set_option maxRecDepth 100000
namespace Fa
/-- By how many days. -/
def mvd (k w : Int) : Int :=
  if k = 2 then if w = 6 then 1 else 0 else
  if k = 26 then if w = 6 then 1 else 0 else
  if k = 27 then if w = 6 then 1 else 0 else
  if k = 13 then if w = 6 then (-2) else 0 else
  if k = 16 then if w = 6 then (-2) else 0 else
  if k = 19 then if w = 5 then (-1) else if w = 0 then 1 else 0 else
  if k = 21 then if w = 5 then (-1) else if w = 6 then (-2) else if w = 1 then 1 else 0 else
  0
theorem mvd_bd (k w : Int) : -2 ≤ mvd k w ∧ mvd k w ≤ 1 := by
  unfold mvd
  repeat' split
  all_goals omega
end Fa
set_option maxHeartbeats 2000000 in
theorem fast_Moved_2_6 (x : World) : Calls Tryd.prog 26 #[.int .i64 2, .int .i64 6] x fun e x' => e = .returned (.int .i64 1) ∧ x = x' := by
  go_enter Tryd.func26, Tryd.ntmps26
  go_wp2_with fail
  go_ret
  exact ⟨rfl, rfl⟩
set_option maxHeartbeats 2000000 in
theorem fast_Moved_2_no (w : Int) (h6 : (w == 6) = false) (x : World) : Calls Tryd.prog 26 #[.int .i64 2, .int .i64 w] x fun e x' => e = .returned (.int .i64 0) ∧ x = x' := by
  go_enter Tryd.func26, Tryd.ntmps26
  go_wp2_with fail
  go_ret
  exact ⟨rfl, rfl⟩
set_option maxHeartbeats 2000000 in
theorem fast_Moved_26_6 (x : World) : Calls Tryd.prog 26 #[.int .i64 26, .int .i64 6] x fun e x' => e = .returned (.int .i64 1) ∧ x = x' := by
  go_enter Tryd.func26, Tryd.ntmps26
  go_wp2_with fail
  go_ret
  exact ⟨rfl, rfl⟩
set_option maxHeartbeats 2000000 in
theorem fast_Moved_26_no (w : Int) (h6 : (w == 6) = false) (x : World) : Calls Tryd.prog 26 #[.int .i64 26, .int .i64 w] x fun e x' => e = .returned (.int .i64 0) ∧ x = x' := by
  go_enter Tryd.func26, Tryd.ntmps26
  go_wp2_with fail
  go_ret
  exact ⟨rfl, rfl⟩
set_option maxHeartbeats 2000000 in
theorem fast_Moved_27_6 (x : World) : Calls Tryd.prog 26 #[.int .i64 27, .int .i64 6] x fun e x' => e = .returned (.int .i64 1) ∧ x = x' := by
  go_enter Tryd.func26, Tryd.ntmps26
  go_wp2_with fail
  go_ret
  exact ⟨rfl, rfl⟩
set_option maxHeartbeats 2000000 in
theorem fast_Moved_27_no (w : Int) (h6 : (w == 6) = false) (x : World) : Calls Tryd.prog 26 #[.int .i64 27, .int .i64 w] x fun e x' => e = .returned (.int .i64 0) ∧ x = x' := by
  go_enter Tryd.func26, Tryd.ntmps26
  go_wp2_with fail
  go_ret
  exact ⟨rfl, rfl⟩
set_option maxHeartbeats 2000000 in
theorem fast_Moved_13_6 (x : World) : Calls Tryd.prog 26 #[.int .i64 13, .int .i64 6] x fun e x' => e = .returned (.int .i64 (-2)) ∧ x = x' := by
  go_enter Tryd.func26, Tryd.ntmps26
  go_wp2_with fail
  go_ret
  exact ⟨rfl, rfl⟩
set_option maxHeartbeats 2000000 in
theorem fast_Moved_13_no (w : Int) (h6 : (w == 6) = false) (x : World) : Calls Tryd.prog 26 #[.int .i64 13, .int .i64 w] x fun e x' => e = .returned (.int .i64 0) ∧ x = x' := by
  go_enter Tryd.func26, Tryd.ntmps26
  go_wp2_with fail
  go_ret
  exact ⟨rfl, rfl⟩
set_option maxHeartbeats 2000000 in
theorem fast_Moved_16_6 (x : World) : Calls Tryd.prog 26 #[.int .i64 16, .int .i64 6] x fun e x' => e = .returned (.int .i64 (-2)) ∧ x = x' := by
  go_enter Tryd.func26, Tryd.ntmps26
  go_wp2_with fail
  go_ret
  exact ⟨rfl, rfl⟩
set_option maxHeartbeats 2000000 in
theorem fast_Moved_16_no (w : Int) (h6 : (w == 6) = false) (x : World) : Calls Tryd.prog 26 #[.int .i64 16, .int .i64 w] x fun e x' => e = .returned (.int .i64 0) ∧ x = x' := by
  go_enter Tryd.func26, Tryd.ntmps26
  go_wp2_with fail
  go_ret
  exact ⟨rfl, rfl⟩
set_option maxHeartbeats 2000000 in
theorem fast_Moved_19_5 (x : World) : Calls Tryd.prog 26 #[.int .i64 19, .int .i64 5] x fun e x' => e = .returned (.int .i64 (-1)) ∧ x = x' := by
  go_enter Tryd.func26, Tryd.ntmps26
  go_wp2_with fail
  go_ret
  exact ⟨rfl, rfl⟩
set_option maxHeartbeats 2000000 in
theorem fast_Moved_19_0 (x : World) : Calls Tryd.prog 26 #[.int .i64 19, .int .i64 0] x fun e x' => e = .returned (.int .i64 1) ∧ x = x' := by
  go_enter Tryd.func26, Tryd.ntmps26
  go_wp2_with fail
  go_ret
  exact ⟨rfl, rfl⟩
set_option maxHeartbeats 2000000 in
theorem fast_Moved_19_no (w : Int) (h5 : (w == 5) = false) (h0 : (w == 0) = false) (x : World) : Calls Tryd.prog 26 #[.int .i64 19, .int .i64 w] x fun e x' => e = .returned (.int .i64 0) ∧ x = x' := by
  go_enter Tryd.func26, Tryd.ntmps26
  go_wp2_with fail
  go_ret
  exact ⟨rfl, rfl⟩
set_option maxHeartbeats 2000000 in
theorem fast_Moved_21_5 (x : World) : Calls Tryd.prog 26 #[.int .i64 21, .int .i64 5] x fun e x' => e = .returned (.int .i64 (-1)) ∧ x = x' := by
  go_enter Tryd.func26, Tryd.ntmps26
  go_wp2_with fail
  go_ret
  exact ⟨rfl, rfl⟩
set_option maxHeartbeats 2000000 in
theorem fast_Moved_21_6 (x : World) : Calls Tryd.prog 26 #[.int .i64 21, .int .i64 6] x fun e x' => e = .returned (.int .i64 (-2)) ∧ x = x' := by
  go_enter Tryd.func26, Tryd.ntmps26
  go_wp2_with fail
  go_ret
  exact ⟨rfl, rfl⟩
set_option maxHeartbeats 2000000 in
theorem fast_Moved_21_1 (x : World) : Calls Tryd.prog 26 #[.int .i64 21, .int .i64 1] x fun e x' => e = .returned (.int .i64 1) ∧ x = x' := by
  go_enter Tryd.func26, Tryd.ntmps26
  go_wp2_with fail
  go_ret
  exact ⟨rfl, rfl⟩
set_option maxHeartbeats 2000000 in
theorem fast_Moved_21_no (w : Int) (h5 : (w == 5) = false) (h6 : (w == 6) = false) (h1 : (w == 1) = false) (x : World) : Calls Tryd.prog 26 #[.int .i64 21, .int .i64 w] x fun e x' => e = .returned (.int .i64 0) ∧ x = x' := by
  go_enter Tryd.func26, Tryd.ntmps26
  go_wp2_with fail
  go_ret
  exact ⟨rfl, rfl⟩
set_option maxHeartbeats 2000000 in
theorem fast_Moved_no (k w : Int) (h2 : (k == 2) = false) (h26 : (k == 26) = false) (h27 : (k == 27) = false) (h13 : (k == 13) = false) (h16 : (k == 16) = false) (h19 : (k == 19) = false) (h21 : (k == 21) = false) (x : World) : Calls Tryd.prog 26 #[.int .i64 k, .int .i64 w] x fun e x' => e = .returned (.int .i64 0) ∧ x = x' := by
  go_enter Tryd.func26, Tryd.ntmps26
  go_wp2_with fail
  go_ret
  exact ⟨rfl, rfl⟩
theorem fast_Moved (k w : Int) (x : World) : Calls Tryd.prog 26 #[.int .i64 k, .int .i64 w] x fun e x' => e = .returned (.int .i64 (Fa.mvd k w)) ∧ x = x' := by
  by_cases e2 : k = 2
  · subst e2
    by_cases d6 : w = 6
    · subst d6; exact fast_Moved_2_6 x
    rw [show Fa.mvd 2 w = 0 by simp [Fa.mvd, d6]]
    exact fast_Moved_2_no w (by simpa using d6) x
  by_cases e26 : k = 26
  · subst e26
    by_cases d6 : w = 6
    · subst d6; exact fast_Moved_26_6 x
    rw [show Fa.mvd 26 w = 0 by simp [Fa.mvd, d6]]
    exact fast_Moved_26_no w (by simpa using d6) x
  by_cases e27 : k = 27
  · subst e27
    by_cases d6 : w = 6
    · subst d6; exact fast_Moved_27_6 x
    rw [show Fa.mvd 27 w = 0 by simp [Fa.mvd, d6]]
    exact fast_Moved_27_no w (by simpa using d6) x
  by_cases e13 : k = 13
  · subst e13
    by_cases d6 : w = 6
    · subst d6; exact fast_Moved_13_6 x
    rw [show Fa.mvd 13 w = 0 by simp [Fa.mvd, d6]]
    exact fast_Moved_13_no w (by simpa using d6) x
  by_cases e16 : k = 16
  · subst e16
    by_cases d6 : w = 6
    · subst d6; exact fast_Moved_16_6 x
    rw [show Fa.mvd 16 w = 0 by simp [Fa.mvd, d6]]
    exact fast_Moved_16_no w (by simpa using d6) x
  by_cases e19 : k = 19
  · subst e19
    by_cases d5 : w = 5
    · subst d5; exact fast_Moved_19_5 x
    by_cases d0 : w = 0
    · subst d0; exact fast_Moved_19_0 x
    rw [show Fa.mvd 19 w = 0 by simp [Fa.mvd, d5, d0]]
    exact fast_Moved_19_no w (by simpa using d5) (by simpa using d0) x
  by_cases e21 : k = 21
  · subst e21
    by_cases d5 : w = 5
    · subst d5; exact fast_Moved_21_5 x
    by_cases d6 : w = 6
    · subst d6; exact fast_Moved_21_6 x
    by_cases d1 : w = 1
    · subst d1; exact fast_Moved_21_1 x
    rw [show Fa.mvd 21 w = 0 by simp [Fa.mvd, d5, d6, d1]]
    exact fast_Moved_21_no w (by simpa using d5) (by simpa using d6) (by simpa using d1) x
  rw [show Fa.mvd k w = 0 by simp [Fa.mvd, e2, e26, e27, e13, e16, e19, e21]]
  exact fast_Moved_no k w (by simpa using e2) (by simpa using e26) (by simpa using e27) (by simpa using e13) (by simpa using e16) (by simpa using e19) (by simpa using e21) x
set_option maxHeartbeats 2000000 in
theorem ref20_Moved_2_6 (x : World) : Calls Tryd.prog 27 #[.int .i64 2, .int .i64 6] x fun e x' => e = .returned (.int .i64 1) ∧ x = x' := by
  go_enter Tryd.func27, Tryd.ntmps27
  go_wp2_with fail
  go_ret
  exact ⟨rfl, rfl⟩
set_option maxHeartbeats 2000000 in
theorem ref20_Moved_2_no (w : Int) (h6 : (w == 6) = false) (x : World) : Calls Tryd.prog 27 #[.int .i64 2, .int .i64 w] x fun e x' => e = .returned (.int .i64 0) ∧ x = x' := by
  go_enter Tryd.func27, Tryd.ntmps27
  go_wp2_with fail
  go_ret
  exact ⟨rfl, rfl⟩
set_option maxHeartbeats 2000000 in
theorem ref20_Moved_26_6 (x : World) : Calls Tryd.prog 27 #[.int .i64 26, .int .i64 6] x fun e x' => e = .returned (.int .i64 1) ∧ x = x' := by
  go_enter Tryd.func27, Tryd.ntmps27
  go_wp2_with fail
  go_ret
  exact ⟨rfl, rfl⟩
set_option maxHeartbeats 2000000 in
theorem ref20_Moved_26_no (w : Int) (h6 : (w == 6) = false) (x : World) : Calls Tryd.prog 27 #[.int .i64 26, .int .i64 w] x fun e x' => e = .returned (.int .i64 0) ∧ x = x' := by
  go_enter Tryd.func27, Tryd.ntmps27
  go_wp2_with fail
  go_ret
  exact ⟨rfl, rfl⟩
set_option maxHeartbeats 2000000 in
theorem ref20_Moved_27_6 (x : World) : Calls Tryd.prog 27 #[.int .i64 27, .int .i64 6] x fun e x' => e = .returned (.int .i64 1) ∧ x = x' := by
  go_enter Tryd.func27, Tryd.ntmps27
  go_wp2_with fail
  go_ret
  exact ⟨rfl, rfl⟩
set_option maxHeartbeats 2000000 in
theorem ref20_Moved_27_no (w : Int) (h6 : (w == 6) = false) (x : World) : Calls Tryd.prog 27 #[.int .i64 27, .int .i64 w] x fun e x' => e = .returned (.int .i64 0) ∧ x = x' := by
  go_enter Tryd.func27, Tryd.ntmps27
  go_wp2_with fail
  go_ret
  exact ⟨rfl, rfl⟩
set_option maxHeartbeats 2000000 in
theorem ref20_Moved_13_6 (x : World) : Calls Tryd.prog 27 #[.int .i64 13, .int .i64 6] x fun e x' => e = .returned (.int .i64 (-2)) ∧ x = x' := by
  go_enter Tryd.func27, Tryd.ntmps27
  go_wp2_with fail
  go_ret
  exact ⟨rfl, rfl⟩
set_option maxHeartbeats 2000000 in
theorem ref20_Moved_13_no (w : Int) (h6 : (w == 6) = false) (x : World) : Calls Tryd.prog 27 #[.int .i64 13, .int .i64 w] x fun e x' => e = .returned (.int .i64 0) ∧ x = x' := by
  go_enter Tryd.func27, Tryd.ntmps27
  go_wp2_with fail
  go_ret
  exact ⟨rfl, rfl⟩
set_option maxHeartbeats 2000000 in
theorem ref20_Moved_16_6 (x : World) : Calls Tryd.prog 27 #[.int .i64 16, .int .i64 6] x fun e x' => e = .returned (.int .i64 (-2)) ∧ x = x' := by
  go_enter Tryd.func27, Tryd.ntmps27
  go_wp2_with fail
  go_ret
  exact ⟨rfl, rfl⟩
set_option maxHeartbeats 2000000 in
theorem ref20_Moved_16_no (w : Int) (h6 : (w == 6) = false) (x : World) : Calls Tryd.prog 27 #[.int .i64 16, .int .i64 w] x fun e x' => e = .returned (.int .i64 0) ∧ x = x' := by
  go_enter Tryd.func27, Tryd.ntmps27
  go_wp2_with fail
  go_ret
  exact ⟨rfl, rfl⟩
set_option maxHeartbeats 2000000 in
theorem ref20_Moved_19_5 (x : World) : Calls Tryd.prog 27 #[.int .i64 19, .int .i64 5] x fun e x' => e = .returned (.int .i64 (-1)) ∧ x = x' := by
  go_enter Tryd.func27, Tryd.ntmps27
  go_wp2_with fail
  go_ret
  exact ⟨rfl, rfl⟩
set_option maxHeartbeats 2000000 in
theorem ref20_Moved_19_0 (x : World) : Calls Tryd.prog 27 #[.int .i64 19, .int .i64 0] x fun e x' => e = .returned (.int .i64 1) ∧ x = x' := by
  go_enter Tryd.func27, Tryd.ntmps27
  go_wp2_with fail
  go_ret
  exact ⟨rfl, rfl⟩
set_option maxHeartbeats 2000000 in
theorem ref20_Moved_19_no (w : Int) (h5 : (w == 5) = false) (h0 : (w == 0) = false) (x : World) : Calls Tryd.prog 27 #[.int .i64 19, .int .i64 w] x fun e x' => e = .returned (.int .i64 0) ∧ x = x' := by
  go_enter Tryd.func27, Tryd.ntmps27
  go_wp2_with fail
  go_ret
  exact ⟨rfl, rfl⟩
set_option maxHeartbeats 2000000 in
theorem ref20_Moved_21_5 (x : World) : Calls Tryd.prog 27 #[.int .i64 21, .int .i64 5] x fun e x' => e = .returned (.int .i64 (-1)) ∧ x = x' := by
  go_enter Tryd.func27, Tryd.ntmps27
  go_wp2_with fail
  go_ret
  exact ⟨rfl, rfl⟩
set_option maxHeartbeats 2000000 in
theorem ref20_Moved_21_6 (x : World) : Calls Tryd.prog 27 #[.int .i64 21, .int .i64 6] x fun e x' => e = .returned (.int .i64 (-2)) ∧ x = x' := by
  go_enter Tryd.func27, Tryd.ntmps27
  go_wp2_with fail
  go_ret
  exact ⟨rfl, rfl⟩
set_option maxHeartbeats 2000000 in
theorem ref20_Moved_21_1 (x : World) : Calls Tryd.prog 27 #[.int .i64 21, .int .i64 1] x fun e x' => e = .returned (.int .i64 1) ∧ x = x' := by
  go_enter Tryd.func27, Tryd.ntmps27
  go_wp2_with fail
  go_ret
  exact ⟨rfl, rfl⟩
set_option maxHeartbeats 2000000 in
theorem ref20_Moved_21_no (w : Int) (h5 : (w == 5) = false) (h6 : (w == 6) = false) (h1 : (w == 1) = false) (x : World) : Calls Tryd.prog 27 #[.int .i64 21, .int .i64 w] x fun e x' => e = .returned (.int .i64 0) ∧ x = x' := by
  go_enter Tryd.func27, Tryd.ntmps27
  go_wp2_with fail
  go_ret
  exact ⟨rfl, rfl⟩
set_option maxHeartbeats 2000000 in
theorem ref20_Moved_no (k w : Int) (h2 : (k == 2) = false) (h26 : (k == 26) = false) (h27 : (k == 27) = false) (h13 : (k == 13) = false) (h16 : (k == 16) = false) (h19 : (k == 19) = false) (h21 : (k == 21) = false) (x : World) : Calls Tryd.prog 27 #[.int .i64 k, .int .i64 w] x fun e x' => e = .returned (.int .i64 0) ∧ x = x' := by
  go_enter Tryd.func27, Tryd.ntmps27
  go_wp2_with fail
  go_ret
  exact ⟨rfl, rfl⟩
theorem ref20_Moved (k w : Int) (x : World) : Calls Tryd.prog 27 #[.int .i64 k, .int .i64 w] x fun e x' => e = .returned (.int .i64 (Fa.mvd k w)) ∧ x = x' := by
  by_cases e2 : k = 2
  · subst e2
    by_cases d6 : w = 6
    · subst d6; exact ref20_Moved_2_6 x
    rw [show Fa.mvd 2 w = 0 by simp [Fa.mvd, d6]]
    exact ref20_Moved_2_no w (by simpa using d6) x
  by_cases e26 : k = 26
  · subst e26
    by_cases d6 : w = 6
    · subst d6; exact ref20_Moved_26_6 x
    rw [show Fa.mvd 26 w = 0 by simp [Fa.mvd, d6]]
    exact ref20_Moved_26_no w (by simpa using d6) x
  by_cases e27 : k = 27
  · subst e27
    by_cases d6 : w = 6
    · subst d6; exact ref20_Moved_27_6 x
    rw [show Fa.mvd 27 w = 0 by simp [Fa.mvd, d6]]
    exact ref20_Moved_27_no w (by simpa using d6) x
  by_cases e13 : k = 13
  · subst e13
    by_cases d6 : w = 6
    · subst d6; exact ref20_Moved_13_6 x
    rw [show Fa.mvd 13 w = 0 by simp [Fa.mvd, d6]]
    exact ref20_Moved_13_no w (by simpa using d6) x
  by_cases e16 : k = 16
  · subst e16
    by_cases d6 : w = 6
    · subst d6; exact ref20_Moved_16_6 x
    rw [show Fa.mvd 16 w = 0 by simp [Fa.mvd, d6]]
    exact ref20_Moved_16_no w (by simpa using d6) x
  by_cases e19 : k = 19
  · subst e19
    by_cases d5 : w = 5
    · subst d5; exact ref20_Moved_19_5 x
    by_cases d0 : w = 0
    · subst d0; exact ref20_Moved_19_0 x
    rw [show Fa.mvd 19 w = 0 by simp [Fa.mvd, d5, d0]]
    exact ref20_Moved_19_no w (by simpa using d5) (by simpa using d0) x
  by_cases e21 : k = 21
  · subst e21
    by_cases d5 : w = 5
    · subst d5; exact ref20_Moved_21_5 x
    by_cases d6 : w = 6
    · subst d6; exact ref20_Moved_21_6 x
    by_cases d1 : w = 1
    · subst d1; exact ref20_Moved_21_1 x
    rw [show Fa.mvd 21 w = 0 by simp [Fa.mvd, d5, d6, d1]]
    exact ref20_Moved_21_no w (by simpa using d5) (by simpa using d6) (by simpa using d1) x
  rw [show Fa.mvd k w = 0 by simp [Fa.mvd, e2, e26, e27, e13, e16, e19, e21]]
  exact ref20_Moved_no k w (by simpa using e2) (by simpa using e26) (by simpa using e27) (by simpa using e13) (by simpa using e16) (by simpa using e19) (by simpa using e21) x
end Go.Proofs.YtagmdglmflcegaaDoor
