/- Days of a year, counted from its first one; plainly. -/
import Derived.Test.YtbmcpeccofadhaaDoorDates
import Derived.Test.YtbmcpeccofadhaaDoorW10
import Derived.Test.YtbmcpeccofadhaaDoorEv
namespace Go.Proofs.YtbmcpeccofadhaaDoor
open Go.ChangeShapes Go.WideShapes Go.ChangeAt Go.RowKit 
set_option linter.unusedVariables false
set_option maxRecDepth 100000
namespace Yr
/-- Year y is of row i. -/
def Is (y : Int) (i : Nat) : Prop := 1 ≤ y ∧ y ≤ 9999 ∧ i < 14 ∧ Cal.first y % 7 = kevB i ∧ Cal.kind y = kevK i ∧ Cal.leap y = kevL i
theorem is_some (y : Int) (h1 : 1 ≤ y) (h2 : y ≤ 9999) : ∃ i, Is y i := by
  obtain ⟨i, hi, a, b, c⟩ := year_row y h1 h2
  exact ⟨i, h1, h2, hi, a, b, c⟩
/-- How many days a date is behind its year's first one. -/
def offV (i : Nat) (n : Int) (l : Bool) (d : Int) : Int := aheadV (kevB i) (kevK i) (kevL i) (Cal.plV (kevL i) n l) + d - 1
def okV (i : Nat) (n : Int) (l : Bool) (d : Int) : Bool := Cal.plOk (kevL i) n l && (decide (1 ≤ d) && decide (d ≤ daysV (kevB i) (kevK i) (kevL i) (Cal.plV (kevL i) n l)))
def lenV (i : Nat) : Int := 353 + kevK i + if kevL i then 30 else 0
theorem day_off {y n d : Int} {i : Nat} {l : Bool} (h : Is y i) (hv : okV i n l d = true) : D10.dateE y n l d = 0 ∧ D10.dayV y n l d = Cal.first y + offV i n l d := by
  obtain ⟨h1, h2, hi, hb, hk, hl⟩ := h
  have hv2 := hv
  unfold okV at hv
  simp only [Bool.and_eq_true, decide_eq_true_eq] at hv
  obtain ⟨p, d1, d2⟩ := hv
  have he : D10.dateE y n l d = 0 := by
    unfold D10.dateE D10.dLen
    rw [Cal.yearIn_yes y h1 h2, hl, p, hb, hk]
    simp only [if_true]
    rw [decide_eq_true d1, decide_eq_true d2]
    rfl
  refine ⟨he, ?_⟩
  unfold D10.dayV
  rw [if_pos he]
  unfold D10.dayOf D10.dAhead offV
  rw [hl, hb, hk]
  omega
theorem first_bd {y : Int} {i : Nat} (h : Is y i) : -1373427 ≤ Cal.first y ∧ Cal.first y ≤ 2278650 := by
  obtain ⟨h1, h2, _⟩ := h
  have a := first_mono 1 y (by omega) h1 (by omega)
  have b := first_mono y 9999 (by omega) h2 (by omega)
  have c := first_mono 9999 10000 (by omega) (by omega) (by omega)
  rw [first_one] at a
  have d := D10.day_bd (y := y) (m := 1) (d := 1) ⟨h1, h2, by omega, D10.most_one y, by omega, by have := (D10.len_bd y 1 h1 h2 (by omega) (D10.most_one y)).1; omega⟩
  unfold D10.dayOf at d
  rw [D10.ahead_one y h1 h2] at d
  omega
theorem next_first {y : Int} {i : Nat} (h : Is y i) : Cal.first (y + 1) = Cal.first y + lenV i := by
  obtain ⟨h1, h2, hi, hb, hk, hl⟩ := h
  unfold lenV
  rw [← hk, ← hl]
  unfold Cal.kind Cal.long
  split <;> omega
end Yr
end Go.Proofs.YtbmcpeccofadhaaDoor
