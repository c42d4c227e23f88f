/- Layer 15: the document's months, year by year; both at any input. -/
import Derived.Test.YtmiadhiomingmaaDoorShiftM
namespace Go.Proofs.YtmiadhiomingmaaDoor
open Go.ChangeShapes Go.WideShapes Go.ChangeAt Go.RowKit Go.Sort
set_option linter.unusedVariables false
set_option maxRecDepth 100000
namespace S15
/-- What the loop knows: the year z, the month m of it. -/
def Mon (a z m : Int) : Prop := Cal.before z + m = a + 1 ∧ 0 ≤ z ∧ z ≤ 10000 ∧ (1 ≤ z ∨ a < 0) ∧ (z ≤ 9999 ∨ 123671 ≤ a) ∧ -5000000 ≤ m ∧ m ≤ 5000000
theorem months_most (z : Int) : Cal.months z = Cal.most (Cal.leap z) := rfl
theorem mon_up {a z m : Int} (h : Mon a z m) (h1 : 1 ≤ z) (h2 : z ≤ 9999) (hm : Cal.months z < m) : Mon a (z + 1) (m - Cal.months z) ∧ (mY a - (z + 1)).natAbs < (mY a - z).natAbs := by
  obtain ⟨e, _, _, _, _, b1, b2⟩ := h
  have hn := before_next z
  rw [← months_most] at hn
  have hb := months_bd z
  have hz : z = 9999 → Cal.before (z + 1) = 123671 := by rintro rfl; exact before_10000
  have hy : z + 1 ≤ mY a := by
    have : Cal.before (z + 1) ≤ a := by omega
    unfold Cal.before at this; unfold mY; omega
  refine ⟨⟨by omega, by omega, by omega, by omega, ?_, by omega, by omega⟩, by omega⟩
  by_cases c : z = 9999
  · have := hz c; omega
  · omega
theorem mon_down {a z m : Int} (h : Mon a z m) (h1 : 1 ≤ z) (h2 : z ≤ 9999) (hm : m < 1) : Mon a (z - 1) (m + Cal.months (z - 1)) ∧ (mY a - (z - 1)).natAbs < (mY a - z).natAbs := by
  obtain ⟨e, _, _, _, _, b1, b2⟩ := h
  have hn := before_next (z - 1)
  rw [← months_most, show z - 1 + 1 = z by omega] at hn
  have hb := months_bd (z - 1)
  have hz : z = 1 → Cal.before z = 0 := by rintro rfl; exact before_1
  have hy : mY a < z := by
    have : a < Cal.before z := by omega
    unfold Cal.before at this; unfold mY; omega
  refine ⟨⟨by omega, by omega, by omega, ?_, by omega, by omega, by omega⟩, by omega⟩
  by_cases c : z = 1
  · have := hz c; omega
  · omega
theorem mon_at {a z m : Int} (h : Mon a z m) (h1 : 1 ≤ m) (h2 : m ≤ Cal.months z) : mY a = z ∧ mM a = m := by
  obtain ⟨e, _⟩ := h
  have hn := before_next z
  rw [← months_most] at hn
  have hy := mY_one a z (by omega) (by omega)
  exact ⟨hy, by unfold mM; rw [hy]; omega⟩
theorem mon_out {a z m : Int} (h : Mon a z m) (h1 : z < 1 ∨ 9999 < z) : a < 0 ∨ 123671 ≤ a := by
  obtain ⟨_, _, _, c1, c2, _⟩ := h
  omega
theorem mon_in {a z m : Int} (h : Mon a z m) (h1 : 1 ≤ z) (h2 : z ≤ 9999) (m1 : 1 ≤ m) (m2 : m ≤ Cal.months z) : 0 ≤ a ∧ a < 123671 := by
  obtain ⟨e, _⟩ := h
  have hn := before_next z
  rw [← months_most] at hn
  have := before_mono 1 z h1
  have := before_mono (z + 1) 10000 (by omega)
  rw [before_1] at *
  rw [before_10000] at *
  omega
end S15
theorem shift_Months (y n : Int) (l : Bool) (k : Int) (w : World) (hy : I64 y) (hT : Tab w 8 kevCells) (hL : Tab w 5 lenCells) :
    Calls Tryd.prog 82 #[.int .i64 y, .agg #[.int .i64 n, .bool l], .int .i64 k] w fun e w' => e = .returned (.tuple #[.int .i64 (S15.monY y n l k), .agg #[.int .i64 (S15.monN y n l k), .bool (S15.monL y n l k)], .int .i64 (S15.monE y n l k)]) ∧ Below w.heap.size w w' := by
  unfold S15.monY S15.monN S15.monL
  by_cases he : D10.lastE y n l = 0
  · by_cases c1 : k < -4000000 ∨ 4000000 < k
    · rw [show S15.monE y n l k = 1 by simp [S15.monE, he, c1]]
      by_cases c : k < -4000000
      · exact shift_Months_low y n l k w hy hT hL he c
      · exact shift_Months_high y n l k w hy hT hL he (by omega) (by omega)
    · by_cases c2 : S15.monA y n l k < 0 ∨ 123671 ≤ S15.monA y n l k
      · rw [show S15.monE y n l k = 2 by simp [S15.monE, he, c1, c2]]
        by_cases c : S15.monA y n l k < 0
        · exact shift_Months_before y n l k w hy hT hL he (by omega) (by omega) c
        · exact shift_Months_beyond y n l k w hy hT hL he (by omega) (by omega) (by omega) (by omega)
      · rw [show S15.monE y n l k = 0 by simp [S15.monE, he, c1, c2], if_pos rfl, if_pos rfl, if_pos rfl]
        exact shift_Months_ok y n l k w hy hT hL he (by omega) (by omega) (by omega) (by omega)
  · have e : S15.monE y n l k = D10.lastE y n l := by simp [S15.monE, he]
    rw [e, if_neg he, if_neg he, if_neg he]
    exact shift_Months_last y n l k w hy hT hL he
end Go.Proofs.YtmiadhiomingmaaDoor
