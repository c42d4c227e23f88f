/- Layer 11: the document's sums; which days may be. -/
import Derived.Test.YtncckpfenjokmaaDoorGreg3
namespace Go.Proofs.YtncckpfenjokmaaDoor
open Go.ChangeShapes Go.WideShapes Go.ChangeAt Go.RowKit
set_option linter.unusedVariables false
set_option maxRecDepth 100000
set_option maxHeartbeats 1000000 in
theorem ref11_ahead (y : Int) (w : World) (h1 : -9000 ≤ y) (h2 : y ≤ 9000) : Calls Tryd.prog 59 #[.int .i64 y] w fun e w' => e = .returned (.int .i64 (Gr.ahead y)) ∧ w = w' := by
  have d1 := Lib.hid (fun w => ref_Down_pos (y - 1) 4 w ⟨by omega, by omega⟩ (by omega))
  have d2 := Lib.hid (fun w => ref_Down_pos (y - 1) 100 w ⟨by omega, by omega⟩ (by omega))
  have d3 := Lib.hid (fun w => ref_Down_pos (y - 1) 400 w ⟨by omega, by omega⟩ (by omega))
  have b1 : -3000 ≤ (y - 1) / 4 ∧ (y - 1) / 4 ≤ 3000 := by omega
  have b2 : -3000 ≤ (y - 1) / 100 ∧ (y - 1) / 100 ≤ 3000 := by omega
  have b3 : -3000 ≤ (y - 1) / 400 ∧ (y - 1) / 400 ≤ 3000 := by omega
  unfold Gr.ahead
  generalize (y - 1) / 4 = q1 at *
  generalize (y - 1) / 100 = q2 at *
  generalize (y - 1) / 400 = q3 at *
  go_enter Tryd.func59, Tryd.ntmps59
  go_wp2_with fail
  refine (d1.out _).mono ?_
  rintro e w' ⟨rfl, rfl⟩
  go_wp2_with fail
  refine (d2.out _).mono ?_
  rintro e w' ⟨rfl, rfl⟩
  go_wp2_with fail
  refine (d3.out _).mono ?_
  rintro e w' ⟨rfl, rfl⟩
  go_wp2_with fail
  go_ret
  exact ⟨rfl, rfl⟩
theorem ref11_in (D : Int) (w : World) : Calls Tryd.prog 60 #[.int .i64 D] w fun e w' => e = .returned (.bool (decide (-1373427 ≤ D) && decide (D ≤ 2278650))) ∧ Below w.heap.size w w' := by
  have hl := Lib.hid (fun w => ref6_Last w)
  by_cases c : -1373427 ≤ D
  · have c2 : decide (-1373427 ≤ D) = true := by simpa using c
    go_enter Tryd.func60, Tryd.ntmps60
    go_wp2_with fail
    refine (hl.out _).mono ?_
    rintro e w1 ⟨rfl, hb1⟩
    go_wp2_with fail
    go_ret
    exact ⟨by simp [c], hb1⟩
  · have c2 : decide (-1373427 ≤ D) = false := by simpa using c
    go_enter Tryd.func60, Tryd.ntmps60
    go_wp2_with fail
    go_ret
    exact ⟨by rfl, Below.refl _ _⟩
end Go.Proofs.YtncckpfenjokmaaDoor
