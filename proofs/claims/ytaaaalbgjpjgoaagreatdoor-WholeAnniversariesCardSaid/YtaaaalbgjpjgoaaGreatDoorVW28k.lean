/- Through the layers: a year that there is. -/
import Derived.Test.YtaaaalbgjpjgoaaGreatDoorVHR
set_option linter.unusedVariables false
set_option linter.unusedSimpArgs false
set_option maxRecDepth 100000
namespace Go.Proofs.YtaaaalbgjpjgoaaGreatDoor
open Go.ChangeShapes Go.WideShapes Go.ChangeAt Go.RowKit Go.Lib
theorem top_year (y : Int) (hy : 0 ≤ y ∧ y ≤ 65535) (w : World) : Calls Tryo.prog 26 #[.int .u16 y] w fun e w' => e = .returned (.int .i64 (1 + y % 9999)) ∧ w = w' := by
  obtain ⟨y1, y2⟩ := hy
  have k0 : y.tmod 9999 = y % 9999 := Int.tmod_eq_emod_of_nonneg y1
  have k1 := Int.emod_nonneg y (show (9999 : Int) ≠ 0 by decide)
  have k2 := Int.emod_lt_of_pos y (show (0 : Int) < 9999 by decide)
  go_enter Tryo.func26, Tryz.ntmps26
  go_wp2_with fail
  go_ret
  exact ⟨rfl, rfl⟩
end Go.Proofs.YtaaaalbgjpjgoaaGreatDoor
