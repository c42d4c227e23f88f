/- Layer 10: Check, ToDay, Last, Less, at any input. -/
import Derived.Test.YtjdogojjoekphaaGreatDoorHeb
namespace Go.Proofs.YtjdogojjoekphaaGreatDoor
open Go.ChangeShapes Go.WideShapes Go.ChangeAt Go.RowKit
set_option linter.unusedVariables false
set_option maxRecDepth 100000
theorem D10.dayV_ok (y n : Int) (l : Bool) (d : Int) (h : D10.dateE y n l d = 0) : D10.toF y + D10.toO y n l d = D10.dayV y n l d ∧ -1373427 ≤ D10.dayV y n l d ∧ D10.dayV y n l d ≤ 2278650 := by
  have hv := D10.date_valid h
  have hb := D10.day_bd hv.1
  have e : D10.dayV y n l d = D10.dayOf y (Cal.plV (Cal.leap y) n l) d := by simp [D10.dayV, h]
  rw [e]
  refine ⟨?_, hb⟩
  have hy := Cal.yearIn_yes y hv.1.1 hv.1.2.1
  simp only [D10.toF, D10.toO, D10.dayOf, hy, h, if_true]
  omega
theorem D10.dayV_no (y n : Int) (l : Bool) (d : Int) (h : ¬ D10.dateE y n l d = 0) : D10.dayV y n l d = 0 := by simp [D10.dayV, h]
set_option maxHeartbeats 1000000 in
theorem heb_ToDay (y n : Int) (l : Bool) (d : Int) (w : World) (hy : I64 y) (hT : Tab w 1 kevCells) (hL : Tab w 0 lenCells) :
    Calls Tryz.prog 71 #[.agg #[.int .i64 y, .int .i64 n, .bool l, .int .i64 d]] w fun e w' => e = .returned (.tuple #[.int .i64 (D10.dayV y n l d), .int .i64 (D10.dateE y n l d)]) ∧ Below w.heap.size w w' := by
  have hto := Lib.hid (fun w hT hL => heb_to y n l d w hy hT hL)
  by_cases c : D10.dateE y n l d = 0
  · obtain ⟨e1, e2, e3⟩ := D10.dayV_ok y n l d c
    have HE := Lib.hid e1
    rw [← e1] at e2 e3
    clear e1
    rw [← HE.out]
    generalize D10.toF y = tf at *
    generalize D10.toO y n l d = to at *
    generalize D10.dateE y n l d = de at *
    subst c
    go_enter Tryz.func71, Tryz.ntmps71
    go_wp2_with fail
    refine (hto.out _ (Tab.below hT (ba _ _)) (Tab.below hL (ba _ _))).mono ?_
    rintro e w1 ⟨rfl, hb1⟩
    have hb : Below w.heap.size w w1 := bt (ba _ _) hb1
    go_wp2_with fail
    go_ret2
    exact ⟨rfl, baa hb _⟩
  · rw [D10.dayV_no y n l d c]
    generalize D10.dateE y n l d = de at *
    go_enter Tryz.func71, Tryz.ntmps71
    go_wp2_with fail
    refine (hto.out _ (Tab.below hT (ba _ _)) (Tab.below hL (ba _ _))).mono ?_
    rintro e w1 ⟨rfl, hb1⟩
    have hb : Below w.heap.size w w1 := bt (ba _ _) hb1
    go_wp2_with fail
    go_region
    all_goals go_wp2_with fail
    all_goals go_ret2
    all_goals exact ⟨rfl, bdrew (baa hb _)⟩
/-- What the walk of heb.Last knows of the world. -/
def LastSt (w W : World) (n : Int) (l : Bool) : Prop :=
  W.cell? ⟨w.heap.size, 0, none⟩ = some (.int .i64 n) ∧ W.cell? ⟨w.heap.size, 1, none⟩ = some (.bool l) ∧ w.heap.size < W.heap.size ∧ Below w.heap.size w W ∧ Tab W 1 kevCells ∧ Tab W 0 lenCells
theorem LastSt.but {w W W' : World} {n : Int} {l : Bool} (hw1 : 1 < w.heap.size) (hw2 : 0 < w.heap.size) (h : LastSt w W n l) (hb : But (w.heap.size + 1) W W') : LastSt w W' n l := by
  obtain ⟨h0, h1, hs, hB, hT, hL⟩ := h
  have c := fun i => hb.cell (k := w.heap.size) (o := i) hs (by omega)
  exact ⟨(c 0).trans h0, (c 1).trans h1, Nat.lt_of_lt_of_le hs hb.size, hb.below hB (by omega), But.tab hT hb (by omega), But.tab hL hb (by omega)⟩
def D10.lessD (y n : Int) (l : Bool) (d z k : Int) (h : Bool) (f : Int) : Bool := if y = z then (if n = k ∧ l = h then decide (d < f) else Cal.lessV n l k h) else decide (y < z)
end Go.Proofs.YtjdogojjoekphaaGreatDoor
