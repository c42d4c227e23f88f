/- Layer 10: Check, ToDay, Last, Less, at any input. -/
import Derived.Test.YtgcpflbpiifdbaaDoorHeb
namespace Go.Proofs.YtgcpflbpiifdbaaDoor
open Go.ChangeShapes Go.WideShapes Go.ChangeAt Go.RowKit
set_option linter.unusedVariables false
set_option maxRecDepth 100000
set_option maxHeartbeats 1000000 in
theorem heb_Check (y n : Int) (l : Bool) (d : Int) (w : World) (hy : I64 y) (hT : Tab w 1 kevCells) (hL : Tab w 0 lenCells) :
    Calls Tryd.prog 21 #[.agg #[.int .i64 y, .int .i64 n, .bool l, .int .i64 d]] w fun e w' => e = .returned (.int .i64 (D10.dateE y n l d)) ∧ Below w.heap.size w w' := by
  go_enter Tryd.func21, Tryd.ntmps21
  go_wp2_with fail
  refine (heb_to y n l d _ hy (Tab.below hT (ba _ _)) (Tab.below hL (ba _ _))).mono ?_
  rintro e w1 ⟨rfl, hb1⟩
  have hb : Below w.heap.size w w1 := bt (ba _ _) hb1
  go_wp2_with fail
  go_ret
  exact ⟨rfl, baa hb _⟩
theorem D10.dayV_ok (y n : Int) (l : Bool) (d : Int) (h : D10.dateE y n l d = 0) : D10.toF y + D10.toO y n l d = D10.dayV y n l d ∧ -1373427 ≤ D10.dayV y n l d ∧ D10.dayV y n l d ≤ 2278650 := by
  have hv := D10.date_valid h
  have hb := D10.day_bd hv.1
  have e : D10.dayV y n l d = D10.dayOf y (Cal.plV (Cal.leap y) n l) d := by simp [D10.dayV, h]
  rw [e]
  refine ⟨?_, hb⟩
  have hy := Cal.yearIn_yes y hv.1.1 hv.1.2.1
  simp only [D10.toF, D10.toO, D10.dayOf, hy, h, if_true]
  omega
theorem D10.dayV_no (y n : Int) (l : Bool) (d : Int) (h : ¬ D10.dateE y n l d = 0) : D10.dayV y n l d = 0 := by simp [D10.dayV, h]
/-- What the walk of heb.Last knows of the world. -/
def LastSt (w W : World) (n : Int) (l : Bool) : Prop :=
  W.cell? ⟨w.heap.size, 0, none⟩ = some (.int .i64 n) ∧ W.cell? ⟨w.heap.size, 1, none⟩ = some (.bool l) ∧ w.heap.size < W.heap.size ∧ Below w.heap.size w W ∧ Tab W 1 kevCells ∧ Tab W 0 lenCells
theorem LastSt.but {w W W' : World} {n : Int} {l : Bool} (hw1 : 1 < w.heap.size) (hw2 : 0 < w.heap.size) (h : LastSt w W n l) (hb : But (w.heap.size + 1) W W') : LastSt w W' n l := by
  obtain ⟨h0, h1, hs, hB, hT, hL⟩ := h
  have c := fun i => hb.cell (k := w.heap.size) (o := i) hs (by omega)
  exact ⟨(c 0).trans h0, (c 1).trans h1, Nat.lt_of_lt_of_le hs hb.size, hb.below hB (by omega), But.tab hT hb (by omega), But.tab hL hb (by omega)⟩
set_option maxHeartbeats 2000000 in
theorem heb_Last_ok (y n : Int) (l : Bool) (w : World) (hy : I64 y) (hT : Tab w 1 kevCells) (hL : Tab w 0 lenCells) (h1 : 1 ≤ y) (h2 : y ≤ 9999) (hp : Cal.plOk (Cal.leap y) n l = true) :
    Calls Tryd.prog 22 #[.int .i64 y, .agg #[.int .i64 n, .bool l]] w fun e w' => e = .returned (.tuple #[.int .i64 (daysV (Cal.first y % 7) (Cal.kind y) (Cal.leap y) (Cal.plV (Cal.leap y) n l)), .int .i64 0]) ∧ Below w.heap.size w w' := by
  have hw1 := hT.lt
  have hw2 := hL.lt
  go_enter Tryd.func22, Tryd.ntmps22
  go_wp2_with fail
  refine settleC (fun W => LastSt w W n l ∧ PathAt W (w.heap.size + 1) 0 0 0 false 0 0 0) ⟨⟨by simp [go_sem], by simp [go_sem], by (simp; omega), baa (ba _ _) _, Tab.below hT (baa (ba _ _) _), Tab.below hL (baa (ba _ _) _)⟩, ⟨by simp [go_sem], by simp [go_sem], by simp [go_sem], by simp [go_sem], by simp [go_sem], by simp [go_sem], by simp [go_sem], fun i => by simp [go_sem], by simp⟩⟩ ?_
  rintro W0 ⟨hS0, hP0⟩
  refine (path_year_ok y h1 h2 (w.heap.size + 1) _ hP0).mono ?_
  rintro e w1 ⟨rfl, hP1, hB1⟩
  have hS1 := LastSt.but hw1 hw2 hS0 hB1
  have hs1 := hS1
  have hq1 := hP1
  obtain ⟨s1b0, s1b1, s1bs, s1B, s1T, s1L⟩ := hs1
  obtain ⟨q10, q11, q12, q13, q14, q15, q16, q1f, q1s⟩ := hq1
  go_wp2_with fail
  clear s1b0 s1b1 s1bs q10 q11 q12 q13 q14 q15 q16 q1f q1s
  refine (path_month_ok n l _ _ _ _ hp (w.heap.size + 1) _ hP1).mono ?_
  rintro e w2 ⟨rfl, hP2, hB2⟩
  have hS2 := LastSt.but hw1 hw2 hS1 hB2
  have hs2 := hS2
  have hq2 := hP2
  obtain ⟨s2b0, s2b1, s2bs, s2B, s2T, s2L⟩ := hs2
  obtain ⟨q20, q21, q22, q23, q24, q25, q26, q2f, q2s⟩ := hq2
  go_wp2_with fail
  refine (path_long _ _ _ _ _ _ _ (w.heap.size + 1) _ s2T s2L hP2).mono ?_
  rintro e w3 ⟨rfl, hb3⟩
  go_wp2_with fail
  go_ret2
  exact ⟨rfl, bt s2B hb3⟩
set_option maxHeartbeats 2000000 in
theorem heb_Last_month (y n : Int) (l : Bool) (w : World) (hy : I64 y) (hT : Tab w 1 kevCells) (hL : Tab w 0 lenCells) (h1 : 1 ≤ y) (h2 : y ≤ 9999) (hp : Cal.plOk (Cal.leap y) n l = false) :
    Calls Tryd.prog 22 #[.int .i64 y, .agg #[.int .i64 n, .bool l]] w fun e w' => e = .returned (.tuple #[.int .i64 (0), .int .i64 3]) ∧ Below w.heap.size w w' := by
  have hw1 := hT.lt
  have hw2 := hL.lt
  go_enter Tryd.func22, Tryd.ntmps22
  go_wp2_with fail
  refine settleC (fun W => LastSt w W n l ∧ PathAt W (w.heap.size + 1) 0 0 0 false 0 0 0) ⟨⟨by simp [go_sem], by simp [go_sem], by (simp; omega), baa (ba _ _) _, Tab.below hT (baa (ba _ _) _), Tab.below hL (baa (ba _ _) _)⟩, ⟨by simp [go_sem], by simp [go_sem], by simp [go_sem], by simp [go_sem], by simp [go_sem], by simp [go_sem], by simp [go_sem], fun i => by simp [go_sem], by simp⟩⟩ ?_
  rintro W0 ⟨hS0, hP0⟩
  refine (path_year_ok y h1 h2 (w.heap.size + 1) _ hP0).mono ?_
  rintro e w1 ⟨rfl, hP1, hB1⟩
  have hS1 := LastSt.but hw1 hw2 hS0 hB1
  have hs1 := hS1
  have hq1 := hP1
  obtain ⟨s1b0, s1b1, s1bs, s1B, s1T, s1L⟩ := hs1
  obtain ⟨q10, q11, q12, q13, q14, q15, q16, q1f, q1s⟩ := hq1
  go_wp2_with fail
  clear s1b0 s1b1 s1bs q10 q11 q12 q13 q14 q15 q16 q1f q1s
  refine (path_month_no n l _ _ _ _ hp (w.heap.size + 1) _ hP1).mono ?_
  rintro e w2 ⟨rfl, hP2, hB2⟩
  have hS2 := LastSt.but hw1 hw2 hS1 hB2
  have hs2 := hS2
  have hq2 := hP2
  obtain ⟨s2b0, s2b1, s2bs, s2B, s2T, s2L⟩ := hs2
  obtain ⟨q20, q21, q22, q23, q24, q25, q26, q2f, q2s⟩ := hq2
  go_wp2_with fail
  go_region
  all_goals go_wp2_with fail
  all_goals go_ret2
  all_goals exact ⟨rfl, bdrew s2B⟩
set_option maxHeartbeats 2000000 in
theorem heb_Last_year (y n : Int) (l : Bool) (w : World) (hy : I64 y) (hT : Tab w 1 kevCells) (hL : Tab w 0 lenCells) (h : y < 1 ∨ 9999 < y) :
    Calls Tryd.prog 22 #[.int .i64 y, .agg #[.int .i64 n, .bool l]] w fun e w' => e = .returned (.tuple #[.int .i64 (0), .int .i64 2]) ∧ Below w.heap.size w w' := by
  have hw1 := hT.lt
  have hw2 := hL.lt
  go_enter Tryd.func22, Tryd.ntmps22
  go_wp2_with fail
  refine settleC (fun W => LastSt w W n l ∧ PathAt W (w.heap.size + 1) 0 0 0 false 0 0 0) ⟨⟨by simp [go_sem], by simp [go_sem], by (simp; omega), baa (ba _ _) _, Tab.below hT (baa (ba _ _) _), Tab.below hL (baa (ba _ _) _)⟩, ⟨by simp [go_sem], by simp [go_sem], by simp [go_sem], by simp [go_sem], by simp [go_sem], by simp [go_sem], by simp [go_sem], fun i => by simp [go_sem], by simp⟩⟩ ?_
  rintro W0 ⟨hS0, hP0⟩
  refine (path_year_no y hy h (w.heap.size + 1) _ hP0).mono ?_
  rintro e w1 ⟨rfl, hP1, hB1⟩
  have hS1 := LastSt.but hw1 hw2 hS0 hB1
  have hs1 := hS1
  have hq1 := hP1
  obtain ⟨s1b0, s1b1, s1bs, s1B, s1T, s1L⟩ := hs1
  obtain ⟨q10, q11, q12, q13, q14, q15, q16, q1f, q1s⟩ := hq1
  go_wp2_with fail
  clear s1b0 s1b1 s1bs q10 q11 q12 q13 q14 q15 q16 q1f q1s
  refine (path_month_err n l _ _ _ _ _ _ _ (by decide) (w.heap.size + 1) _ hP1).mono ?_
  rintro e w2 ⟨rfl, hP2, hB2⟩
  have hS2 := LastSt.but hw1 hw2 hS1 hB2
  have hs2 := hS2
  have hq2 := hP2
  obtain ⟨s2b0, s2b1, s2bs, s2B, s2T, s2L⟩ := hs2
  obtain ⟨q20, q21, q22, q23, q24, q25, q26, q2f, q2s⟩ := hq2
  go_wp2_with fail
  go_region
  all_goals go_wp2_with fail
  all_goals go_ret2
  all_goals exact ⟨rfl, bdrew s2B⟩
theorem heb_Last (y n : Int) (l : Bool) (w : World) (hy : I64 y) (hT : Tab w 1 kevCells) (hL : Tab w 0 lenCells) :
    Calls Tryd.prog 22 #[.int .i64 y, .agg #[.int .i64 n, .bool l]] w fun e w' => e = .returned (.tuple #[.int .i64 (D10.lastV y n l), .int .i64 (D10.lastE y n l)]) ∧ Below w.heap.size w w' := by
  cases c : Cal.yearIn y
  · rw [show D10.lastV y n l = 0 by simp [D10.lastV, c], show D10.lastE y n l = 2 by simp [D10.lastE, c]]
    exact heb_Last_year y n l w hy hT hL (D10.year_out y c)
  · obtain ⟨h1, h2⟩ := D10.year_in y c
    cases p : Cal.plOk (Cal.leap y) n l
    · rw [show D10.lastV y n l = 0 by simp [D10.lastV, p], show D10.lastE y n l = 3 by simp [D10.lastE, c, p]]
      exact heb_Last_month y n l w hy hT hL h1 h2 p
    · rw [show D10.lastV y n l = D10.dLen y (Cal.plV (Cal.leap y) n l) by simp [D10.lastV, c, p], show D10.lastE y n l = 0 by simp [D10.lastE, c, p]]
      exact heb_Last_ok y n l w hy hT hL h1 h2 p
def D10.lessD (y n : Int) (l : Bool) (d z k : Int) (h : Bool) (f : Int) : Bool := if y = z then (if n = k ∧ l = h then decide (d < f) else Cal.lessV n l k h) else decide (y < z)
end Go.Proofs.YtgcpflbpiifdbaaDoor
