/- Layer 5: the walks of its laws. -/
import Derived.Test.YtncckpfenjokmaaDoorFirst
import Derived.Deep.Light
import Derived.Deep.QuietTactic
import Derived.BigQuiet
namespace Go.Proofs.YtncckpfenjokmaaDoor
open Go.ChangeShapes Go.WideShapes Go.ChangeAt Go.RowKit
set_option linter.unusedVariables false

theorem tmod7 (a : Int) : (wrap64 (a.tmod 7 + 7)).tmod 7 = a % 7 := by
  have h1 := Int.tmod_lt_of_pos a (show (0 : Int) < 7 by omega)
  have h2 := Int.lt_tmod_of_pos a (show (0 : Int) < 7 by omega)
  rw [IntWalk.wrap64_in _ ⟨by omega, by omega⟩]
  by_cases h : a.tmod 7 < 0
  · have := (Cal.div_down a 7 (by omega) h).2
    rw [Int.tmod_eq_emod_of_nonneg (by omega)]
    omega
  · have := (Cal.div_down' a 7 (by omega) (by omega)).2
    rw [Int.tmod_eq_emod_of_nonneg (by omega)]
    omega
theorem newyear_First_5785 (w : World) : Calls Tryd.prog 151 #[.int .i64 5785] w fun e w' => e = .returned (.tuple #[.int .i64 739162, .int .i64 0]) ∧ Below w.heap.size w w' := by
  have := newyear_First_ok 5785 w (by omega) (by omega)
  rwa [show Cal.first 5785 = 739162 by decide +kernel] at this
end Go.Proofs.YtncckpfenjokmaaDoor
