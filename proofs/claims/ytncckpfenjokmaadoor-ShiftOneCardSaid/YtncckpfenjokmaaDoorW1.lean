/- Layer 1: the walks of its laws. -/
import Derived.Test.YtncckpfenjokmaaDoorMul
namespace Go.Proofs.YtncckpfenjokmaaDoor
open Go.ChangeShapes Go.WideShapes Go.ChangeAt Go.RowKit
set_option linter.unusedVariables false

/-! Contracts by case. -/
theorem exact_Mul_ok (a b : Int) (w : World) (ha : I64 a) (hb : I64 b) (h : Cal.fits (a * b) = true) :
    Calls Tryd.prog 205 #[.int .i64 a, .int .i64 b] w fun e w' => e = .returned (.tuple #[.int .i64 (a * b), .int .i64 0]) ∧ w = w' := by
  have := exact_Mul a b w ha hb
  rwa [← (mul_yes a b h).1, ← (mul_yes a b h).2] at this
theorem exact_Mul_no (a b : Int) (w : World) (ha : I64 a) (hb : I64 b) (h : Cal.fits (a * b) = false) :
    Calls Tryd.prog 205 #[.int .i64 a, .int .i64 b] w fun e w' => e = .returned (.tuple #[.int .i64 0, .int .i64 6]) ∧ w = w' := by
  have := exact_Mul a b w ha hb
  rwa [← (mul_no a b h).1, ← (mul_no a b h).2] at this
theorem addV_ok (a b : Int) (h : Cal.fits (a + b) = true) : Cal.addV a b = a + b ∧ Cal.addE a b = 0 := by rw [Cal.addV, Cal.addE, h]; exact ⟨rfl, rfl⟩
theorem addV_no (a b : Int) (h : Cal.fits (a + b) = false) : Cal.addV a b = 0 ∧ Cal.addE a b = 6 := by rw [Cal.addV, Cal.addE, h]; exact ⟨rfl, rfl⟩
theorem exact_Add_ok (a b : Int) (w : World) (ha : I64 a) (hb : I64 b) (h : Cal.fits (a + b) = true) :
    Calls Tryd.prog 206 #[.int .i64 a, .int .i64 b] w fun e w' => e = .returned (.tuple #[.int .i64 (a + b), .int .i64 0]) ∧ w = w' := by
  have := exact_Add a b w ha hb
  rwa [(addV_ok a b h).1, (addV_ok a b h).2] at this
theorem exact_Add_no (a b : Int) (w : World) (ha : I64 a) (hb : I64 b) (h : Cal.fits (a + b) = false) :
    Calls Tryd.prog 206 #[.int .i64 a, .int .i64 b] w fun e w' => e = .returned (.tuple #[.int .i64 0, .int .i64 6]) ∧ w = w' := by
  have := exact_Add a b w ha hb
  rwa [(addV_no a b h).1, (addV_no a b h).2] at this
theorem divV_pos (a b : Int) (h : 0 < b) : Cal.divV a b = a / b ∧ Cal.modV a b = a % b ∧ Cal.divE b = 0 := by
  rw [Cal.divV, Cal.modV, Cal.divE, if_neg (by omega), if_neg (by omega), if_neg (by omega)]; exact ⟨rfl, rfl, rfl⟩
theorem exact_Div_pos (a b : Int) (w : World) (ha : I64 a) (hb : I64 b) (h : 0 < b) :
    Calls Tryd.prog 138 #[.int .i64 a, .int .i64 b] w fun e w' => e = .returned (.tuple #[.int .i64 (a / b), .int .i64 0]) ∧ w = w' := by
  have := exact_Div a b w ha hb
  rwa [(divV_pos a b h).1, (divV_pos a b h).2.2] at this
theorem exact_Mod_pos (a b : Int) (w : World) (ha : I64 a) (hb : I64 b) (h : 0 < b) :
    Calls Tryd.prog 139 #[.int .i64 a, .int .i64 b] w fun e w' => e = .returned (.tuple #[.int .i64 (a % b), .int .i64 0]) ∧ w = w' := by
  have := exact_Mod a b w ha hb
  rwa [(divV_pos a b h).2.1, (divV_pos a b h).2.2] at this
theorem ref_Down_pos (a b : Int) (w : World) (ha : I64 a) (h : 0 < b) :
    Calls Tryd.prog 62 #[.int .i64 a, .int .i64 b] w fun e w' => e = .returned (.int .i64 (a / b)) ∧ w = w' := by
  have := ref_Down a b w ha h
  rwa [(divV_pos a b h).1] at this
theorem ref_Left_pos (a b : Int) (w : World) (hb : I64 b) (h : 0 < b) :
    Calls Tryd.prog 75 #[.int .i64 a, .int .i64 b] w fun e w' => e = .returned (.int .i64 (a % b)) ∧ w = w' := by
  have := ref_Left a b w hb h
  rwa [(divV_pos a b h).2.1] at this

end Go.Proofs.YtncckpfenjokmaaDoor
