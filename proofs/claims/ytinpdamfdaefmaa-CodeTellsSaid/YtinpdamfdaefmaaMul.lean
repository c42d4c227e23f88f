/- Layer 1: the product by 128 bits. -/
import Derived.Test.YtinpdamfdaefmaaExact
namespace Go.Proofs.Ytinpdamfdaefmaa
open Go.ChangeShapes Go.WideShapes Go.ChangeAt Go.RowKit
set_option linter.unusedVariables false

theorem prod_same (a b : Int) (h : a < 0 ↔ b < 0) : a * b = ((a.natAbs * b.natAbs : Nat) : Int) := by
  rw [Int.natCast_mul]
  by_cases c : a < 0
  · rw [show ((a.natAbs : Nat) : Int) = -a by omega, show ((b.natAbs : Nat) : Int) = -b by omega, Int.neg_mul_neg]
  · rw [show ((a.natAbs : Nat) : Int) = a by omega, show ((b.natAbs : Nat) : Int) = b by omega]
theorem prod_other (a b : Int) (h : ¬(a < 0 ↔ b < 0)) : a * b = -((a.natAbs * b.natAbs : Nat) : Int) := by
  rw [Int.natCast_mul]
  by_cases c : a < 0
  · rw [show ((a.natAbs : Nat) : Int) = -a by omega, show ((b.natAbs : Nat) : Int) = b by omega, Int.neg_mul, Int.neg_neg]
  · rw [show ((a.natAbs : Nat) : Int) = a by omega, show ((b.natAbs : Nat) : Int) = -b by omega, Int.mul_neg, Int.neg_neg]

/-- What the two words of the product say of it. -/
theorem same_no (m hi lo : Int) (hm : m = hi * 18446744073709551616 + lo) (l0 : 0 ≤ lo) (l1 : lo < 18446744073709551616) (h0 : 0 ≤ hi) (h : hi ≠ 0 ∨ wrap64 lo < 0) : Cal.fits m = false := by
  unfold wrap64 at h
  exact fits_no (by omega)
theorem same_yes (m hi lo : Int) (hm : m = hi * 18446744073709551616 + lo) (l0 : 0 ≤ lo) (l1 : lo < 18446744073709551616) (h : hi = 0) (h2 : 0 ≤ wrap64 lo) : Cal.fits m = true ∧ wrap64 lo = m := by
  unfold wrap64 at h2 ⊢
  exact ⟨fits_yes (by omega) (by omega), by omega⟩
theorem other_no (m hi lo : Int) (hm : m = -(hi * 18446744073709551616 + lo)) (l0 : 0 ≤ lo) (l1 : lo < 18446744073709551616) (h0 : 0 ≤ hi) (h : hi ≠ 0 ∨ 0 < wrap64 (IntKind.u64.wrap (-lo))) : Cal.fits m = false := by
  rw [IntKind.wrap_u64] at h
  unfold wrap64 at h
  exact fits_no (by omega)
theorem other_yes (m hi lo : Int) (hm : m = -(hi * 18446744073709551616 + lo)) (l0 : 0 ≤ lo) (l1 : lo < 18446744073709551616) (h : hi = 0) (h2 : wrap64 (IntKind.u64.wrap (-lo)) ≤ 0) : Cal.fits m = true ∧ wrap64 (IntKind.u64.wrap (-lo)) = m := by
  rw [IntKind.wrap_u64] at h2 ⊢
  unfold wrap64 at h2 ⊢
  exact ⟨fits_yes (by omega) (by omega), by omega⟩

end Go.Proofs.Ytinpdamfdaefmaa
