/- Layer 11: the Gregorian date of a day. -/
import Derived.Test.YtmiadhiomingmaaDoorGreg2
import Derived.Test.YtmiadhiomingmaaDoorDates
import Derived.LoopTactic
namespace Go.Proofs.YtmiadhiomingmaaDoor
open Go.ChangeShapes Go.WideShapes Go.ChangeAt Go.RowKit
set_option linter.unusedVariables false
set_option maxRecDepth 100000
namespace Gr
def ml (y : Int) : List Int := [31, if leap y then 29 else 28, 31, 30, 31, 30, 31, 31, 30, 31, 30, 31]
theorem ml_len (y : Int) : (ml y).length = 12 := rfl
theorem ml_bd (y : Int) : ∀ x ∈ ml y, 28 ≤ x ∧ x ≤ 31 := by
  intro x hx
  cases h : leap y <;> simp [ml, h] at hx <;> omega
theorem ml_sum (y : Int) : (ml y).sum = long y := by cases h : leap y <;> simp [ml, long, h]
theorem ml_at (y : Int) (j : Nat) (hj : j < 12) : ∃ x, (ml y)[j]? = some x ∧ days y ((j : Int) + 1) = x ∧ 28 ≤ x ∧ x ≤ 31 := by
  match j, hj with
  | 0, _ | 1, _ | 2, _ | 3, _ | 4, _ | 5, _ | 6, _ | 7, _ | 8, _ | 9, _ | 10, _ | 11, _ =>
    cases h : leap y <;> simp [ml, days, h]
def gY (D : Int) : Int := yearV (D - 1)
def gF (D : Int) : Int × Int × Bool := findL (ml (gY D)) 1 (leftV (D - 1) + 1)
theorem drop_sum (xs : List Int) (j : Nat) (x : Int) (h : xs[j]? = some x) : (xs.drop j).sum = x + (xs.drop (j + 1)).sum := by
  obtain ⟨hj, e⟩ := List.getElem?_eq_some_iff.1 h
  rw [List.drop_eq_getElem_cons hj, List.sum_cons, e]
end Gr
def Res3 (w : World) (g : Nat) : Prop := w.cell? ⟨g, 0, none⟩ = some (.int .i64 0) ∧ w.cell? ⟨g, 1, none⟩ = some (.int .i64 0) ∧ w.cell? ⟨g, 2, none⟩ = some (.int .i64 0) ∧ (∀ i, w.frozen? ⟨g, i, none⟩ = false) ∧ g < w.heap.size
theorem Res3.below {w w' : World} {g : Nat} (h : Res3 w g) (hb : Below w.heap.size w w') : Res3 w' g := by
  obtain ⟨h0, h1, h2, hf, hs⟩ := h
  have c := fun i => hb.cell (p := ⟨g, i, none⟩) hs
  exact ⟨(c 0).trans h0, (c 1).trans h1, (c 2).trans h2, fun i => (hb.frozen (p := ⟨g, i, none⟩) hs).trans (hf i), Nat.lt_of_lt_of_le hs hb.size⟩
theorem res3_alloc (w : World) (t : TypeId) : Res3 (w.alloc (.cells #[.int .i64 0, .int .i64 0, .int .i64 0] t)) w.heap.size := ⟨by simp [go_sem], by simp [go_sem], by simp [go_sem], fun i => by simp [go_sem], by simp⟩
end Go.Proofs.YtmiadhiomingmaaDoor
