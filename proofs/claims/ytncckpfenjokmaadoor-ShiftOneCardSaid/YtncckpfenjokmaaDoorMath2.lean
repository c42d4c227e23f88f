/- Plain mathematics of parts. -/
import Derived.Test.YtncckpfenjokmaaDoorMath
namespace Go.Proofs.YtncckpfenjokmaaDoor
namespace Cal
/-- Parts. -/
def partsIn (d h p : Int) : Bool := fits (d * 25920) && fits (h * 1080) && fits (d * 25920 + h * 1080) && fits (d * 25920 + h * 1080 + p)
def partsV (d h p : Int) : Int := if partsIn d h p then d * 25920 + h * 1080 + p else 0
def partsE (d h p : Int) : Int := if partsIn d h p then 0 else 6
theorem parts_no (d h p : Int) (hx : (fits (d * 25920) && fits (h * 1080) && fits (d * 25920 + h * 1080)) = false) : partsV d h p = 0 ∧ partsE d h p = 6 := by
  unfold partsV partsE partsIn
  rw [hx]
  exact ⟨rfl, rfl⟩
theorem parts_ok (d h p : Int) (h1 : fits (d * 25920) = true) (h2 : fits (h * 1080) = true) (h3 : fits (d * 25920 + h * 1080) = true) :
    partsV d h p = addV (d * 25920 + h * 1080) p ∧ partsE d h p = addE (d * 25920 + h * 1080) p := by
  unfold partsV partsE partsIn addV addE
  rw [h1, h2, h3]
  exact ⟨rfl, rfl⟩
theorem parts_zero_ok (d p : Int) (h1 : fits (d * 25920) = true) : partsV d 0 p = addV (d * 25920) p ∧ partsE d 0 p = addE (d * 25920) p := by
  have := parts_ok d 0 p h1 (by decide) (by rw [Int.zero_mul, Int.add_zero]; exact h1)
  rwa [Int.zero_mul, Int.add_zero] at this
def inDay (p : Int) : Bool := decide (0 ≤ p) && decide (p < 25920)
theorem inDay_yes (p : Int) (h1 : 0 ≤ p) (h2 : p < 25920) : inDay p = true := by simp [inDay, h1, h2]
theorem inDay_no (p : Int) (h : p < 0 ∨ 25920 ≤ p) : inDay p = false := by
  rw [Bool.eq_false_iff]; intro h'; simp only [inDay, Bool.and_eq_true, decide_eq_true_eq] at h'; omega
def hoursV (p : Int) : Int := if inDay p then p / 1080 else 0
def hoursP (p : Int) : Int := if inDay p then p % 1080 else 0
theorem hours_yes (p : Int) (h1 : 0 ≤ p) (h2 : p < 25920) : hoursV p = p / 1080 ∧ hoursP p = p % 1080 := by
  rw [hoursV, hoursP, inDay_yes p h1 h2]; exact ⟨rfl, rfl⟩
theorem hours_no (p : Int) (h : p < 0 ∨ 25920 ≤ p) : hoursV p = 0 ∧ hoursP p = 0 := by
  rw [hoursV, hoursP, inDay_no p h]; exact ⟨rfl, rfl⟩
def joinV (d p : Int) : Int := if inDay p then (if d < 0 then partsV (d + 1) 0 (p - 25920) else partsV d 0 p) else 0
def joinE (d p : Int) : Int := if inDay p then (if d < 0 then partsE (d + 1) 0 (p - 25920) else partsE d 0 p) else 1
theorem join_neg (d p : Int) (h1 : 0 ≤ p) (h2 : p < 25920) (h3 : d < 0) : joinV d p = partsV (d + 1) 0 (p - 25920) ∧ joinE d p = partsE (d + 1) 0 (p - 25920) := by
  rw [joinV, joinE, inDay_yes p h1 h2, if_pos rfl, if_pos rfl, if_pos h3, if_pos h3]; exact ⟨rfl, rfl⟩
theorem join_pos (d p : Int) (h1 : 0 ≤ p) (h2 : p < 25920) (h3 : 0 ≤ d) : joinV d p = partsV d 0 p ∧ joinE d p = partsE d 0 p := by
  rw [joinV, joinE, inDay_yes p h1 h2, if_pos rfl, if_pos rfl, if_neg (by omega), if_neg (by omega)]; exact ⟨rfl, rfl⟩
theorem join_no (d p : Int) (h : p < 0 ∨ 25920 ≤ p) : joinV d p = 0 ∧ joinE d p = 1 := by
  rw [joinV, joinE, inDay_no p h]; exact ⟨rfl, rfl⟩

end Cal
end Go.Proofs.YtncckpfenjokmaaDoor
