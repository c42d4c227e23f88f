/- Layer 1: the walks of its laws. -/
import Derived.Test.YtinpdamfdaefmaaMul
namespace Go.Proofs.Ytinpdamfdaefmaa
open Go.ChangeShapes Go.WideShapes Go.ChangeAt Go.RowKit
set_option linter.unusedVariables false

/-! Contracts by case. -/
theorem addV_ok (a b : Int) (h : Cal.fits (a + b) = true) : Cal.addV a b = a + b ∧ Cal.addE a b = 0 := by rw [Cal.addV, Cal.addE, h]; exact ⟨rfl, rfl⟩
theorem addV_no (a b : Int) (h : Cal.fits (a + b) = false) : Cal.addV a b = 0 ∧ Cal.addE a b = 6 := by rw [Cal.addV, Cal.addE, h]; exact ⟨rfl, rfl⟩
theorem divV_pos (a b : Int) (h : 0 < b) : Cal.divV a b = a / b ∧ Cal.modV a b = a % b ∧ Cal.divE b = 0 := by
  rw [Cal.divV, Cal.modV, Cal.divE, if_neg (by omega), if_neg (by omega), if_neg (by omega)]; exact ⟨rfl, rfl, rfl⟩
theorem exact_Mod_pos (a b : Int) (w : World) (ha : I64 a) (hb : I64 b) (h : 0 < b) :
    Calls Try.prog 35 #[.int .i64 a, .int .i64 b] w fun e w' => e = .returned (.tuple #[.int .i64 (a % b), .int .i64 0]) ∧ w = w' := by
  have := exact_Mod a b w ha hb
  rwa [(divV_pos a b h).2.1, (divV_pos a b h).2.2] at this
theorem ref_Left_pos (a b : Int) (w : World) (hb : I64 b) (h : 0 < b) :
    Calls Try.prog 34 #[.int .i64 a, .int .i64 b] w fun e w' => e = .returned (.int .i64 (a % b)) ∧ w = w' := by
  have := ref_Left a b w hb h
  rwa [(divV_pos a b h).2.1] at this

end Go.Proofs.Ytinpdamfdaefmaa
