/- Layer 11: the day of a Gregorian date, at any input. -/
import Derived.Test.YtmiadhiomingmaaDoorGreg6
namespace Go.Proofs.YtmiadhiomingmaaDoor
open Go.ChangeShapes Go.WideShapes Go.ChangeAt Go.RowKit
set_option linter.unusedVariables false
set_option maxRecDepth 100000
namespace Gr
def gtE (y m d : Int) : Int := if y < -4000 ∨ 7000 < y then 2 else if m < 1 ∨ 12 < m then 3 else if d < 1 ∨ days y m < d then 4 else if dayOf y m d < -1373427 ∨ 2278650 < dayOf y m d then 2 else 0
def gtV (y m d : Int) : Int := if gtE y m d = 0 then dayOf y m d else 0
end Gr
theorem greg_ToDay (y m d : Int) (w : World) (hG : Tab w 3 Gr.gregCells) :
    Calls Tryd.prog 70 #[.agg #[.int .i64 y, .int .i64 m, .int .i64 d]] w fun e w' => e = .returned (.tuple #[.int .i64 (Gr.gtV y m d), .int .i64 (Gr.gtE y m d)]) ∧ Below w.heap.size w w' := by
  by_cases c1 : y < -4000 ∨ 7000 < y
  · have e : Gr.gtE y m d = 2 := by unfold Gr.gtE; rw [if_pos c1]
    rw [show Gr.gtV y m d = 0 by unfold Gr.gtV; rw [e, if_neg (by omega)], e]
    by_cases h : y < -4000
    · exact greg_ToDay_y1 y m d w hG h
    · exact greg_ToDay_y2 y m d w hG (by omega) (by omega)
  by_cases c2 : m < 1 ∨ 12 < m
  · have e : Gr.gtE y m d = 3 := by unfold Gr.gtE; rw [if_neg c1, if_pos c2]
    rw [show Gr.gtV y m d = 0 by unfold Gr.gtV; rw [e, if_neg (by omega)], e]
    by_cases h : m < 1
    · exact greg_ToDay_m1 y m d w hG (by omega) (by omega) h
    · exact greg_ToDay_m2 y m d w hG (by omega) (by omega) (by omega) (by omega)
  by_cases c3 : d < 1 ∨ Gr.days y m < d
  · have e : Gr.gtE y m d = 4 := by unfold Gr.gtE; rw [if_neg c1, if_neg c2, if_pos c3]
    rw [show Gr.gtV y m d = 0 by unfold Gr.gtV; rw [e, if_neg (by omega)], e]
    by_cases h : d < 1
    · exact greg_ToDay_d1 y m d w hG (by omega) (by omega) (by omega) (by omega) h
    · exact greg_ToDay_d2 y m d w hG (by omega) (by omega) (by omega) (by omega) (by omega) (by omega)
  by_cases c4 : Gr.dayOf y m d < -1373427 ∨ 2278650 < Gr.dayOf y m d
  · have e : Gr.gtE y m d = 2 := by unfold Gr.gtE; rw [if_neg c1, if_neg c2, if_neg c3, if_pos c4]
    rw [show Gr.gtV y m d = 0 by unfold Gr.gtV; rw [e, if_neg (by omega)], e]
    exact greg_ToDay_ok_out y m d w hG (by omega) (by omega) (by omega) (by omega) (by omega) (by omega) c4
  · have e : Gr.gtE y m d = 0 := by unfold Gr.gtE; rw [if_neg c1, if_neg c2, if_neg c3, if_neg c4]
    rw [show Gr.gtV y m d = Gr.dayOf y m d by unfold Gr.gtV; rw [e, if_pos rfl], e]
    exact greg_ToDay_ok_in y m d w hG (by omega) (by omega) (by omega) (by omega) (by omega) (by omega) (by omega) (by omega)
end Go.Proofs.YtmiadhiomingmaaDoor
