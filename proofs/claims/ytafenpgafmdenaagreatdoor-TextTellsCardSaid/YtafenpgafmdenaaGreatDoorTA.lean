/- Merged: Greg2, Greg3, Greg4, Greg5, Greg6, Greg7. -/
import Derived.Test.YtafenpgafmdenaaGreatDoorGreg
import Derived.Test.YtafenpgafmdenaaGreatDoorDates
import Derived.LoopTactic
/- Layer 11: a day's Gregorian year; the document's sums. -/
namespace Go.Proofs.YtafenpgafmdenaaGreatDoor
open Go.ChangeShapes Go.WideShapes Go.ChangeAt Go.RowKit
set_option linter.unusedVariables false
set_option maxRecDepth 100000
namespace Gr
def lens0 : List Int := [31, 28, 31, 30, 31, 30, 31, 31, 30, 31, 30, 31]
def long (y : Int) : Int := if leap y then 366 else 365
def h100 (r : Int) : Int := min (r / 36524) 3
def r2 (r : Int) : Int := r - h100 r * 36524
def r3 (r : Int) : Int := r2 r - r2 r / 1461 * 1461
def h1 (r : Int) : Int := min (r3 r / 365) 3
def yearV (s : Int) : Int := 400 * (s / 146097) + 100 * h100 (s % 146097) + 4 * (r2 (s % 146097) / 1461) + h1 (s % 146097) + 1
def leftV (s : Int) : Int := r3 (s % 146097) - h1 (s % 146097) * 365
theorem year_spec (s : Int) : ahead (yearV s) + leftV s = s ∧ 0 ≤ leftV s ∧ leftV s < long (yearV s) := by
  have e : s = 146097 * (s / 146097) + s % 146097 := by omega
  have b0 : 0 ≤ s % 146097 := by omega
  have b1 : s % 146097 < 146097 := by omega
  unfold yearV leftV
  generalize s / 146097 = q at *
  generalize s % 146097 = r at *
  have ha : h100 r = min (r / 36524) 3 := rfl
  have a0 : 0 ≤ h100 r ∧ h100 r ≤ 3 := by omega
  have a1 : 0 ≤ r2 r ∧ r2 r ≤ 36524 ∧ (h100 r ≤ 2 → r2 r ≤ 36523) := by unfold r2; omega
  have er : r = h100 r * 36524 + r2 r := by unfold r2; omega
  have c0 : 0 ≤ r2 r / 1461 ∧ r2 r / 1461 ≤ 24 := by omega
  have c1 : r2 r = r2 r / 1461 * 1461 + r3 r := by unfold r3; omega
  have c2 : 0 ≤ r3 r ∧ r3 r ≤ 1460 := by unfold r3; omega
  have hd : h1 r = min (r3 r / 365) 3 := rfl
  have d0 : 0 ≤ h1 r ∧ h1 r ≤ 3 := by omega
  have c3 : r2 r / 1461 = 24 → h100 r ≤ 2 → r3 r ≤ 1459 := by omega
  generalize r2 r / 1461 = b at *
  generalize h100 r = a at *
  generalize h1 r = c at *
  generalize r2 r = x2 at *
  generalize r3 r = x3 at *
  have f1 : (400 * q + 100 * a + 4 * b + c + 1 - 1) / 4 = 100 * q + 25 * a + b := by omega
  have f2 : (400 * q + 100 * a + 4 * b + c + 1 - 1) / 100 = 4 * q + a := by omega
  have f3 : (400 * q + 100 * a + 4 * b + c + 1 - 1) / 400 = q := by omega
  refine ⟨?_, by omega, ?_⟩
  · unfold ahead; rw [f1, f2, f3]; omega
  · unfold long leap
    have g1 : (400 * q + 100 * a + 4 * b + c + 1) % 4 = (c + 1) % 4 := by omega
    have g2 : (400 * q + 100 * a + 4 * b + c + 1) % 100 = (4 * b + c + 1) % 100 := by omega
    have g3 : (400 * q + 100 * a + 4 * b + c + 1) % 400 = (100 * a + 4 * b + c + 1) % 400 := by omega
    rw [g1, g2, g3]
    by_cases k1 : c = 3
    · subst k1
      by_cases k2 : b = 24
      · subst k2
        by_cases k3 : a = 3
        · subst k3
          simp; omega
        · simp; omega
      · have : ¬ (4 * b + 3 + 1) % 100 = 0 := by omega
        simp [this]; omega
    · have : ¬ (c + 1) % 4 = 0 := by omega
      simp [this]; omega
theorem year_bd (s : Int) (h1 : -1400000 ≤ s) (h2 : s ≤ 2300000) : -5000 ≤ yearV s ∧ yearV s ≤ 8000 ∧ 0 ≤ leftV s ∧ leftV s ≤ 365 := by
  obtain ⟨e, b, c⟩ := year_spec s
  have : long (yearV s) ≤ 366 := by unfold long; split <;> omega
  unfold ahead at e
  omega
end Gr
theorem greg_Days (y m : Int) (w : World) (hG : Tab w 2 Gr.gregCells) (hy : I64 y) : Calls Tryz.prog 90 #[.int .i64 y, .int .i64 m] w fun e w' => e = .returned (.int .i64 (Gr.days y m)) ∧ Below w.heap.size w w' := by
  by_cases h : m < 1 ∨ 12 < m
  · rw [show Gr.days y m = 0 by unfold Gr.days; rw [if_neg]; simp; omega]
    exact greg_Days_no y m w hG h
  · rcases (show m = 1 ∨ m = 2 ∨ m = 3 ∨ m = 4 ∨ m = 5 ∨ m = 6 ∨ m = 7 ∨ m = 8 ∨ m = 9 ∨ m = 10 ∨ m = 11 ∨ m = 12 by omega) with rfl | rfl | rfl | rfl | rfl | rfl | rfl | rfl | rfl | rfl | rfl | rfl
    · exact greg_Days_1 y w hG
    · rw [show Gr.days y 2 = if Gr.leap y then 29 else 28 by cases h : Gr.leap y <;> simp [Gr.days, h]]
      exact greg_Days_2 y w hG hy
    · exact greg_Days_3 y w hG
    · exact greg_Days_4 y w hG
    · exact greg_Days_5 y w hG
    · exact greg_Days_6 y w hG
    · exact greg_Days_7 y w hG
    · exact greg_Days_8 y w hG
    · exact greg_Days_9 y w hG
    · exact greg_Days_10 y w hG
    · exact greg_Days_11 y w hG
    · exact greg_Days_12 y w hG
theorem ref11_Days (y m : Int) (w : World)  (hy : I64 y) : Calls Tryz.prog 93 #[.int .i64 y, .int .i64 m] w fun e w' => e = .returned (.int .i64 (Gr.days y m)) ∧ Below w.heap.size w w' := by
  by_cases h : m < 1 ∨ 12 < m
  · rw [show Gr.days y m = 0 by unfold Gr.days; rw [if_neg]; simp; omega]
    exact ref11_Days_no y m w h
  · rcases (show m = 1 ∨ m = 2 ∨ m = 3 ∨ m = 4 ∨ m = 5 ∨ m = 6 ∨ m = 7 ∨ m = 8 ∨ m = 9 ∨ m = 10 ∨ m = 11 ∨ m = 12 by omega) with rfl | rfl | rfl | rfl | rfl | rfl | rfl | rfl | rfl | rfl | rfl | rfl
    · exact ref11_Days_1 y w
    · rw [show Gr.days y 2 = if Gr.leap y then 29 else 28 by cases h : Gr.leap y <;> simp [Gr.days, h]]
      exact ref11_Days_2 y w hy
    · exact ref11_Days_3 y w
    · exact ref11_Days_4 y w
    · exact ref11_Days_5 y w
    · exact ref11_Days_6 y w
    · exact ref11_Days_7 y w
    · exact ref11_Days_8 y w
    · exact ref11_Days_9 y w
    · exact ref11_Days_10 y w
    · exact ref11_Days_11 y w
    · exact ref11_Days_12 y w
end Go.Proofs.YtafenpgafmdenaaGreatDoor
/- Layer 11: the Gregorian date of a day. -/
namespace Go.Proofs.YtafenpgafmdenaaGreatDoor
open Go.ChangeShapes Go.WideShapes Go.ChangeAt Go.RowKit
set_option linter.unusedVariables false
set_option maxRecDepth 100000
namespace Gr
def ml (y : Int) : List Int := [31, if leap y then 29 else 28, 31, 30, 31, 30, 31, 31, 30, 31, 30, 31]
theorem ml_len (y : Int) : (ml y).length = 12 := rfl
theorem ml_bd (y : Int) : ∀ x ∈ ml y, 28 ≤ x ∧ x ≤ 31 := by
  intro x hx
  cases h : leap y <;> simp [ml, h] at hx <;> omega
theorem ml_sum (y : Int) : (ml y).sum = long y := by cases h : leap y <;> simp [ml, long, h]
theorem ml_at (y : Int) (j : Nat) (hj : j < 12) : ∃ x, (ml y)[j]? = some x ∧ days y ((j : Int) + 1) = x ∧ 28 ≤ x ∧ x ≤ 31 := by
  match j, hj with
  | 0, _ | 1, _ | 2, _ | 3, _ | 4, _ | 5, _ | 6, _ | 7, _ | 8, _ | 9, _ | 10, _ | 11, _ =>
    cases h : leap y <;> simp [ml, days, h]
def gY (D : Int) : Int := yearV (D - 1)
def gF (D : Int) : Int × Int × Bool := findL (ml (gY D)) 1 (leftV (D - 1) + 1)
theorem drop_sum (xs : List Int) (j : Nat) (x : Int) (h : xs[j]? = some x) : (xs.drop j).sum = x + (xs.drop (j + 1)).sum := by
  obtain ⟨hj, e⟩ := List.getElem?_eq_some_iff.1 h
  rw [List.drop_eq_getElem_cons hj, List.sum_cons, e]
end Gr
def Res3 (w : World) (g : Nat) : Prop := w.cell? ⟨g, 0, none⟩ = some (.int .i64 0) ∧ w.cell? ⟨g, 1, none⟩ = some (.int .i64 0) ∧ w.cell? ⟨g, 2, none⟩ = some (.int .i64 0) ∧ (∀ i, w.frozen? ⟨g, i, none⟩ = false) ∧ g < w.heap.size
theorem Res3.below {w w' : World} {g : Nat} (h : Res3 w g) (hb : Below w.heap.size w w') : Res3 w' g := by
  obtain ⟨h0, h1, h2, hf, hs⟩ := h
  have c := fun i => hb.cell (p := ⟨g, i, none⟩) hs
  exact ⟨(c 0).trans h0, (c 1).trans h1, (c 2).trans h2, fun i => (hb.frozen (p := ⟨g, i, none⟩) hs).trans (hf i), Nat.lt_of_lt_of_le hs hb.size⟩
theorem res3_alloc (w : World) (t : TypeId) : Res3 (w.alloc (.cells #[.int .i64 0, .int .i64 0, .int .i64 0] t)) w.heap.size := ⟨by simp [go_sem], by simp [go_sem], by simp [go_sem], fun i => by simp [go_sem], by simp⟩
end Go.Proofs.YtafenpgafmdenaaGreatDoor
/- Layer 11: the document's sums; which days may be. -/
namespace Go.Proofs.YtafenpgafmdenaaGreatDoor
open Go.ChangeShapes Go.WideShapes Go.ChangeAt Go.RowKit
set_option linter.unusedVariables false
set_option maxRecDepth 100000
set_option maxHeartbeats 1000000 in
theorem ref11_ahead (y : Int) (w : World) (h1 : -9000 ≤ y) (h2 : y ≤ 9000) : Calls Tryz.prog 94 #[.int .i64 y] w fun e w' => e = .returned (.int .i64 (Gr.ahead y)) ∧ w = w' := by
  have d1 := Lib.hid (fun w => ref_Down_pos (y - 1) 4 w ⟨by omega, by omega⟩ (by omega))
  have d2 := Lib.hid (fun w => ref_Down_pos (y - 1) 100 w ⟨by omega, by omega⟩ (by omega))
  have d3 := Lib.hid (fun w => ref_Down_pos (y - 1) 400 w ⟨by omega, by omega⟩ (by omega))
  have b1 : -3000 ≤ (y - 1) / 4 ∧ (y - 1) / 4 ≤ 3000 := by omega
  have b2 : -3000 ≤ (y - 1) / 100 ∧ (y - 1) / 100 ≤ 3000 := by omega
  have b3 : -3000 ≤ (y - 1) / 400 ∧ (y - 1) / 400 ≤ 3000 := by omega
  unfold Gr.ahead
  generalize (y - 1) / 4 = q1 at *
  generalize (y - 1) / 100 = q2 at *
  generalize (y - 1) / 400 = q3 at *
  go_enter Tryz.func94, Tryz.ntmps94
  go_wp2_with fail
  refine (d1.out _).mono ?_
  rintro e w' ⟨rfl, rfl⟩
  go_wp2_with fail
  refine (d2.out _).mono ?_
  rintro e w' ⟨rfl, rfl⟩
  go_wp2_with fail
  refine (d3.out _).mono ?_
  rintro e w' ⟨rfl, rfl⟩
  go_wp2_with fail
  go_ret
  exact ⟨rfl, rfl⟩
theorem ref11_in (D : Int) (w : World) : Calls Tryz.prog 95 #[.int .i64 D] w fun e w' => e = .returned (.bool (decide (-1373427 ≤ D) && decide (D ≤ 2278650))) ∧ Below w.heap.size w w' := by
  have hl := Lib.hid (fun w => ref6_Last w)
  by_cases c : -1373427 ≤ D
  · have c2 : decide (-1373427 ≤ D) = true := by simpa using c
    go_enter Tryz.func95, Tryz.ntmps95
    go_wp2_with fail
    refine (hl.out _).mono ?_
    rintro e w1 ⟨rfl, hb1⟩
    go_wp2_with fail
    go_ret
    exact ⟨by simp [c], hb1⟩
  · have c2 : decide (-1373427 ≤ D) = false := by simpa using c
    go_enter Tryz.func95, Tryz.ntmps95
    go_wp2_with fail
    go_ret
    exact ⟨by rfl, Below.refl _ _⟩
end Go.Proofs.YtafenpgafmdenaaGreatDoor
/- Layer 11: a Gregorian date's day. -/
namespace Go.Proofs.YtafenpgafmdenaaGreatDoor
open Go.ChangeShapes Go.WideShapes Go.ChangeAt Go.RowKit
set_option linter.unusedVariables false
set_option maxRecDepth 100000
namespace Gr
def before (y m : Int) : Int := ((ml y).take (m - 1).toNat).sum
def dayOf (y m d : Int) : Int := ahead y + d + before y m
theorem take_bd (y : Int) (j : Nat) (hj : j ≤ 12) : 0 ≤ ((ml y).take j).sum ∧ ((ml y).take j).sum ≤ 366 := by
  have a := D10.take_mono (ml y) (fun x hx => by have := ml_bd y x hx; omega) 0 j
  have b := D10.take_mono (ml y) (fun x hx => by have := ml_bd y x hx; omega) j (12 - j)
  rw [show j + (12 - j) = 12 by omega, List.take_of_length_le (show (ml y).length ≤ 12 from Nat.le_refl _), ml_sum] at b
  simp at a
  have : long y ≤ 366 := by unfold long; split <;> omega
  omega
theorem ahead_bd (y : Int) (h1 : -4000 ≤ y) (h2 : y ≤ 7000) : -2000000 ≤ ahead y ∧ ahead y ≤ 3000000 := by unfold ahead; omega
end Gr
set_option maxHeartbeats 1000000 in
theorem greg_ToDay_y1 (y m d : Int) (w : World) (hG : Tab w 2 Gr.gregCells) (h : y < -4000) :
    Calls Tryz.prog 43 #[.agg #[.int .i64 y, .int .i64 m, .int .i64 d]] w fun e w' => e = .returned (.tuple #[.int .i64 (0), .int .i64 2]) ∧ Below w.heap.size w w' := by
  go_enter Tryz.func43, Tryz.ntmps43
  go_wp2_with fail
  go_ret2
  exact ⟨rfl, ba _ _⟩
set_option maxHeartbeats 1000000 in
theorem greg_ToDay_y2 (y m d : Int) (w : World) (hG : Tab w 2 Gr.gregCells) (h1 : -4000 ≤ y) (h : 7000 < y) :
    Calls Tryz.prog 43 #[.agg #[.int .i64 y, .int .i64 m, .int .i64 d]] w fun e w' => e = .returned (.tuple #[.int .i64 (0), .int .i64 2]) ∧ Below w.heap.size w w' := by
  go_enter Tryz.func43, Tryz.ntmps43
  go_wp2_with fail
  go_ret2
  exact ⟨rfl, ba _ _⟩
set_option maxHeartbeats 1000000 in
theorem greg_ToDay_m1 (y m d : Int) (w : World) (hG : Tab w 2 Gr.gregCells) (h1 : -4000 ≤ y) (h2 : y ≤ 7000) (h : m < 1) :
    Calls Tryz.prog 43 #[.agg #[.int .i64 y, .int .i64 m, .int .i64 d]] w fun e w' => e = .returned (.tuple #[.int .i64 (0), .int .i64 3]) ∧ Below w.heap.size w w' := by
  go_enter Tryz.func43, Tryz.ntmps43
  go_wp2_with fail
  go_ret2
  exact ⟨rfl, ba _ _⟩
set_option maxHeartbeats 1000000 in
theorem greg_ToDay_m2 (y m d : Int) (w : World) (hG : Tab w 2 Gr.gregCells) (h1 : -4000 ≤ y) (h2 : y ≤ 7000) (h3 : 1 ≤ m) (h : 12 < m) :
    Calls Tryz.prog 43 #[.agg #[.int .i64 y, .int .i64 m, .int .i64 d]] w fun e w' => e = .returned (.tuple #[.int .i64 (0), .int .i64 3]) ∧ Below w.heap.size w w' := by
  go_enter Tryz.func43, Tryz.ntmps43
  go_wp2_with fail
  go_ret2
  exact ⟨rfl, ba _ _⟩
set_option maxHeartbeats 1000000 in
theorem greg_ToDay_d1 (y m d : Int) (w : World) (hG : Tab w 2 Gr.gregCells) (h1 : -4000 ≤ y) (h2 : y ≤ 7000) (h3 : 1 ≤ m) (h4 : m ≤ 12) (h : d < 1) :
    Calls Tryz.prog 43 #[.agg #[.int .i64 y, .int .i64 m, .int .i64 d]] w fun e w' => e = .returned (.tuple #[.int .i64 (0), .int .i64 4]) ∧ Below w.heap.size w w' := by
  have g1 : decide (d < 1) = true := by simpa using h
  go_enter Tryz.func43, Tryz.ntmps43
  go_wp2_with fail
  refine settle (fun W => W.cell? ⟨w.heap.size, 0, none⟩ = some (.int .i64 y) ∧ W.cell? ⟨w.heap.size, 1, none⟩ = some (.int .i64 m) ∧ W.cell? ⟨w.heap.size, 2, none⟩ = some (.int .i64 d) ∧ w.heap.size < W.heap.size ∧ Below w.heap.size w W ∧ Tab W 2 Gr.gregCells) ⟨by simp [go_sem], by simp [go_sem], by simp [go_sem], by simp, ba _ _, Tab.below hG (ba _ _)⟩ ?_
  rintro W0 ⟨c0, c1, c2, cs, hB0, hG0⟩
  refine wp_region_class (by kernel_rfl) (by kernel_rfl) (fun hall => ?_)
  repeat (first | go_big_quiet_skip | (go_big_quiet_want; first | (refine quiet_load1 _ _ _ rfl rfl ?_ ?_ ?_; (focus (intro _; simp; done)); (focus (first | assumption | omega | (simp; done) | (simp; omega))); apply Exists.intro; refine ⟨?_, ?_⟩; assumption; go_simp; go_big_quiet_on) | (refine quiet_load2 _ _ _ _ rfl rfl ?_ ?_ ?_ ?_; (focus (intro _; simp; done)); (focus (intro _; simp; done)); (focus (first | assumption | omega | (simp; done) | (simp; omega))); apply Exists.intro; apply Exists.intro; refine ⟨?_, ?_, ?_⟩; assumption; assumption; go_simp; go_big_quiet_on) | (refine quiet_load3 _ _ _ _ rfl rfl ?_ ?_ ?_ ?_; (focus (intro _; simp; done)); (focus (intro _; simp; done)); (focus (first | assumption | omega | (simp; done) | (simp; omega))); apply Exists.intro; apply Exists.intro; apply Exists.intro; refine ⟨?_, ?_, ?_, ?_⟩; assumption; assumption; assumption; go_simp; go_big_quiet_on) | (refine quiet_load4 _ _ _ _ rfl rfl ?_ ?_ ?_ ?_; (focus (intro _; simp; done)); (focus (intro _; simp; done)); (focus (first | assumption | omega | (simp; done) | (simp; omega))); apply Exists.intro; apply Exists.intro; apply Exists.intro; apply Exists.intro; refine ⟨?_, ?_, ?_, ?_, ?_⟩; assumption; assumption; assumption; assumption; go_simp; go_big_quiet_on) | (go_big_quiet_op; first | go_big_quiet_on | (apply Exists.intro; refine ⟨fun x hx => ?_, ?_⟩; (first | fail); go_big_quiet_on))))
  refine wpQuiet_nil ?_
  clear hall
  intro x1 hx1
  go_wp2_with fail
  go_ret2
  exact ⟨rfl, bt hB0 hx1⟩
set_option maxHeartbeats 1000000 in
theorem greg_ToDay_d2 (y m d : Int) (w : World) (hG : Tab w 2 Gr.gregCells) (h1 : -4000 ≤ y) (h2 : y ≤ 7000) (h3 : 1 ≤ m) (h4 : m ≤ 12) (h5 : 1 ≤ d) (h : Gr.days y m < d) :
    Calls Tryz.prog 43 #[.agg #[.int .i64 y, .int .i64 m, .int .i64 d]] w fun e w' => e = .returned (.tuple #[.int .i64 (0), .int .i64 4]) ∧ Below w.heap.size w w' := by
  have HD := Lib.hid (fun i w hG => greg_Days y i w hG ⟨by omega, by omega⟩)
  have g1 : decide (d < 1) = false := by simp; omega
  generalize hN : Gr.days y m = N at *
  have HDm := Lib.hid (fun w hG => (hN ▸ HD.out m w hG : Calls Tryz.prog 90 #[.int .i64 y, .int .i64 m] w fun e w' => e = .returned (.int .i64 N) ∧ Below w.heap.size w w'))
  clear hN
  go_enter Tryz.func43, Tryz.ntmps43
  go_wp2_with fail
  refine settle (fun W => W.cell? ⟨w.heap.size, 0, none⟩ = some (.int .i64 y) ∧ W.cell? ⟨w.heap.size, 1, none⟩ = some (.int .i64 m) ∧ W.cell? ⟨w.heap.size, 2, none⟩ = some (.int .i64 d) ∧ w.heap.size < W.heap.size ∧ Below w.heap.size w W ∧ Tab W 2 Gr.gregCells) ⟨by simp [go_sem], by simp [go_sem], by simp [go_sem], by simp, ba _ _, Tab.below hG (ba _ _)⟩ ?_
  rintro W0 ⟨c0, c1, c2, cs, hB0, hG0⟩
  refine wp_region_class (by kernel_rfl) (by kernel_rfl) (fun hall => ?_)
  repeat (first | go_big_quiet_skip | (go_big_quiet_want; first | (refine quiet_load1 _ _ _ rfl rfl ?_ ?_ ?_; (focus (intro _; simp; done)); (focus (first | assumption | omega | (simp; done) | (simp; omega))); apply Exists.intro; refine ⟨?_, ?_⟩; assumption; go_simp; go_big_quiet_on) | (refine quiet_load2 _ _ _ _ rfl rfl ?_ ?_ ?_ ?_; (focus (intro _; simp; done)); (focus (intro _; simp; done)); (focus (first | assumption | omega | (simp; done) | (simp; omega))); apply Exists.intro; apply Exists.intro; refine ⟨?_, ?_, ?_⟩; assumption; assumption; go_simp; go_big_quiet_on) | (refine quiet_load3 _ _ _ _ rfl rfl ?_ ?_ ?_ ?_; (focus (intro _; simp; done)); (focus (intro _; simp; done)); (focus (first | assumption | omega | (simp; done) | (simp; omega))); apply Exists.intro; apply Exists.intro; apply Exists.intro; refine ⟨?_, ?_, ?_, ?_⟩; assumption; assumption; assumption; go_simp; go_big_quiet_on) | (refine quiet_load4 _ _ _ _ rfl rfl ?_ ?_ ?_ ?_; (focus (intro _; simp; done)); (focus (intro _; simp; done)); (focus (first | assumption | omega | (simp; done) | (simp; omega))); apply Exists.intro; apply Exists.intro; apply Exists.intro; apply Exists.intro; refine ⟨?_, ?_, ?_, ?_, ?_⟩; assumption; assumption; assumption; assumption; go_simp; go_big_quiet_on) | (go_big_quiet_op; first | go_big_quiet_on | (apply Exists.intro; refine ⟨fun x hx => ?_, ?_⟩; (first | exact call_below hx (HDm.out x (Tab.below hG0 hx))); go_big_quiet_on))))
  refine wpQuiet_nil ?_
  clear hall
  intro x1 hx1
  go_wp2_with fail
  go_ret2
  exact ⟨rfl, bt hB0 hx1⟩
end Go.Proofs.YtafenpgafmdenaaGreatDoor
/- Layer 11: the day of a Gregorian date that may be. -/
namespace Go.Proofs.YtafenpgafmdenaaGreatDoor
open Go.ChangeShapes Go.WideShapes Go.ChangeAt Go.RowKit
set_option linter.unusedVariables false
set_option maxRecDepth 100000
set_option maxHeartbeats 1000000 in
theorem greg_ToDay_ok_in (y m d : Int) (w : World) (hG : Tab w 2 Gr.gregCells) (h1 : -4000 ≤ y) (h2 : y ≤ 7000) (h3 : 1 ≤ m) (h4 : m ≤ 12) (h5 : 1 ≤ d) (h : d ≤ Gr.days y m) (b1 : -1373427 ≤ Gr.dayOf y m d) (b2 : Gr.dayOf y m d ≤ 2278650) :
    Calls Tryz.prog 43 #[.agg #[.int .i64 y, .int .i64 m, .int .i64 d]] w fun e w' => e = .returned (.tuple #[.int .i64 (Gr.dayOf y m d), .int .i64 0]) ∧ Below w.heap.size w w' := by
  have HD := Lib.hid (fun i w hG => greg_Days y i w hG ⟨by omega, by omega⟩)
  obtain ⟨hy, y1, y2, f1, f2⟩ := year_of _ b1 b2
  have HC := Lib.hid (fun w => closed_Year_at (Gr.dayOf y m d) hy w y1 y2 f1 f2 b1 b2)
  clear f1 f2 y1 y2 b1 b2
  obtain ⟨M, hM, hM2⟩ : ∃ M : Nat, m = (M : Int) + 1 ∧ M < 12 := ⟨(m - 1).toNat, by omega, by omega⟩
  subst hM
  obtain ⟨N, hN, hN1, hN2, hN3⟩ := Gr.ml_at y M hM2
  have hab := Gr.ahead_bd y h1 h2
  have HA := Lib.hid (fun w => greg_ahead y w (by omega) (by omega))
  have hat := Lib.hid (Gr.ml_at y)
  have htk := Lib.hid (Gr.take_bd y)
  have hdo : Gr.dayOf y ((M : Int) + 1) d = Gr.ahead y + d + ((Gr.ml y).take M).sum := by unfold Gr.dayOf Gr.before; rw [show ((M : Int) + 1 - 1).toNat = M by omega]
  rw [hdo] at HC
  rw [hN1] at h
  have HDm := Lib.hid (fun w hG => (hN1 ▸ HD.out ((M : Int) + 1) w hG : Calls Tryz.prog 90 #[.int .i64 y, .int .i64 ((M : Int) + 1)] w fun e w' => e = .returned (.int .i64 N) ∧ Below w.heap.size w w'))
  clear hN1 hN
  rw [hdo]
  clear hdo
  generalize Gr.ahead y = A at *
  have g1 : decide (d < 1) = false := by simp; omega
  go_enter Tryz.func43, Tryz.ntmps43
  go_wp2_with fail
  refine settle (fun W => W.cell? ⟨w.heap.size, 0, none⟩ = some (.int .i64 y) ∧ W.cell? ⟨w.heap.size, 1, none⟩ = some (.int .i64 ((M : Int) + 1)) ∧ W.cell? ⟨w.heap.size, 2, none⟩ = some (.int .i64 d) ∧ w.heap.size < W.heap.size ∧ Below w.heap.size w W ∧ Tab W 2 Gr.gregCells) ⟨by simp [go_sem], by simp [go_sem], by simp [go_sem], by simp, ba _ _, Tab.below hG (ba _ _)⟩ ?_
  rintro W0 ⟨c0, c1, c2, cs, hB0, hG0⟩
  refine wp_region_class (by kernel_rfl) (by kernel_rfl) (fun hall => ?_)
  repeat (first | go_big_quiet_skip | (go_big_quiet_want; first | (refine quiet_load1 _ _ _ rfl rfl ?_ ?_ ?_; (focus (intro _; simp; done)); (focus (first | assumption | omega | (simp; done) | (simp; omega))); apply Exists.intro; refine ⟨?_, ?_⟩; assumption; go_simp; go_big_quiet_on) | (refine quiet_load2 _ _ _ _ rfl rfl ?_ ?_ ?_ ?_; (focus (intro _; simp; done)); (focus (intro _; simp; done)); (focus (first | assumption | omega | (simp; done) | (simp; omega))); apply Exists.intro; apply Exists.intro; refine ⟨?_, ?_, ?_⟩; assumption; assumption; go_simp; go_big_quiet_on) | (refine quiet_load3 _ _ _ _ rfl rfl ?_ ?_ ?_ ?_; (focus (intro _; simp; done)); (focus (intro _; simp; done)); (focus (first | assumption | omega | (simp; done) | (simp; omega))); apply Exists.intro; apply Exists.intro; apply Exists.intro; refine ⟨?_, ?_, ?_, ?_⟩; assumption; assumption; assumption; go_simp; go_big_quiet_on) | (refine quiet_load4 _ _ _ _ rfl rfl ?_ ?_ ?_ ?_; (focus (intro _; simp; done)); (focus (intro _; simp; done)); (focus (first | assumption | omega | (simp; done) | (simp; omega))); apply Exists.intro; apply Exists.intro; apply Exists.intro; apply Exists.intro; refine ⟨?_, ?_, ?_, ?_, ?_⟩; assumption; assumption; assumption; assumption; go_simp; go_big_quiet_on) | (go_big_quiet_op; first | go_big_quiet_on | (apply Exists.intro; refine ⟨fun x hx => ?_, ?_⟩; (first | exact call_below hx (HDm.out x (Tab.below hG0 hx))); go_big_quiet_on))))
  refine wpQuiet_nil ?_
  clear hall
  intro x1 hx1
  have k0 := (hx1.cell (p := ⟨w.heap.size, 0, none⟩) cs).trans c0
  have k1 := (hx1.cell (p := ⟨w.heap.size, 1, none⟩) cs).trans c1
  have k2 := (hx1.cell (p := ⟨w.heap.size, 2, none⟩) cs).trans c2
  have ks : w.heap.size < x1.heap.size := Nat.lt_of_lt_of_le cs hx1.size
  have hB1 : Below w.heap.size w x1 := bt hB0 hx1
  clear c0 c1 c2 cs
  go_wp2_with fail
  refine wp_region_class (by kernel_rfl) (by kernel_rfl) (fun hall => ?_)
  repeat (first | go_big_quiet_skip | (go_big_quiet_want; first | (refine quiet_load1 _ _ _ rfl rfl ?_ ?_ ?_; (focus (intro _; simp; done)); (focus (first | assumption | omega | (simp; done) | (simp; omega))); apply Exists.intro; refine ⟨?_, ?_⟩; assumption; go_simp; go_big_quiet_on) | (refine quiet_load2 _ _ _ _ rfl rfl ?_ ?_ ?_ ?_; (focus (intro _; simp; done)); (focus (intro _; simp; done)); (focus (first | assumption | omega | (simp; done) | (simp; omega))); apply Exists.intro; apply Exists.intro; refine ⟨?_, ?_, ?_⟩; assumption; assumption; go_simp; go_big_quiet_on) | (refine quiet_load3 _ _ _ _ rfl rfl ?_ ?_ ?_ ?_; (focus (intro _; simp; done)); (focus (intro _; simp; done)); (focus (first | assumption | omega | (simp; done) | (simp; omega))); apply Exists.intro; apply Exists.intro; apply Exists.intro; refine ⟨?_, ?_, ?_, ?_⟩; assumption; assumption; assumption; go_simp; go_big_quiet_on) | (refine quiet_load4 _ _ _ _ rfl rfl ?_ ?_ ?_ ?_; (focus (intro _; simp; done)); (focus (intro _; simp; done)); (focus (first | assumption | omega | (simp; done) | (simp; omega))); apply Exists.intro; apply Exists.intro; apply Exists.intro; apply Exists.intro; refine ⟨?_, ?_, ?_, ?_, ?_⟩; assumption; assumption; assumption; assumption; go_simp; go_big_quiet_on) | (go_big_quiet_op; first | go_big_quiet_on | (apply Exists.intro; refine ⟨fun x hx => ?_, ?_⟩; (first | exact call_same hx (HA.out x)); go_big_quiet_on))))
  refine wpQuiet_nil ?_
  clear hall
  intro x2 hx2
  have c0 := (hx2.cell (p := ⟨w.heap.size, 0, none⟩) ks).trans k0
  have c1 := (hx2.cell (p := ⟨w.heap.size, 1, none⟩) ks).trans k1
  have cs : w.heap.size < x2.heap.size := Nat.lt_of_lt_of_le ks hx2.size
  have hB2 : Below w.heap.size w x2 := bt hB1 hx2
  clear k0 k1 k2 ks hx1 hx2
  go_wp2_with fail
  go_loopw [4, 5] (fun s i wr => ∃ j : Nat, j ≤ M ∧ i = .int .i64 ((j : Int) + 1) ∧ s = .int .i64 (A + d + ((Gr.ml y).take j).sum) ∧ wr.cell? ⟨w.heap.size, 0, none⟩ = some (.int .i64 y) ∧ wr.cell? ⟨w.heap.size, 1, none⟩ = some (.int .i64 ((M : Int) + 1)) ∧ w.heap.size < wr.heap.size ∧ Below w.heap.size w wr) (fun _ i _ => M + 1 - (intOf i).toNat)
  case atStart => exact ⟨0, by omega, rfl, by simp, c0, c1, cs, hB2⟩
  case round =>
    obtain ⟨j, hj, rfl, rfl, e0, e1, es, hB⟩ := hrel
    clear c0 c1 cs hB2 hB1 hB0 hG0
    have tb := htk.out j (by omega)
    by_cases c : j < M
    · obtain ⟨x, x1', x2', x3, x4⟩ := hat.out j (by omega)
      have tn := sum_take (Gr.ml y) j x x1'
      have HDj := Lib.hid (fun w hG => (x2' ▸ HD.out ((j : Int) + 1) w hG : Calls Tryz.prog 90 #[.int .i64 y, .int .i64 ((j : Int) + 1)] w fun e w' => e = .returned (.int .i64 x) ∧ Below w.heap.size w w'))
      have HS := Lib.hid tn
      clear tn x1' x2'
      generalize hS : ((Gr.ml y).take j).sum = S at *
      go_wp2_with fail
      refine (HDj.out _ (Tab.below hG hB)).mono ?_
      rintro e w5 ⟨rfl, hb5⟩
      have e0' := (hb5.cell (p := ⟨w.heap.size, 0, none⟩) es).trans e0
      have e1' := (hb5.cell (p := ⟨w.heap.size, 1, none⟩) es).trans e1
      have es' := Nat.lt_of_lt_of_le es hb5.size
      have hB5 := bt hB hb5
      go_wp2_with fail
      go_roundw
      case rel => exact ⟨j + 1, by omega, by simp, by rw [HS.out]; simp; omega, e0', e1', es', hB5⟩
      case measure => simp [intOf]; omega
    · obtain rfl : j = M := by omega
      clear c
      generalize hS : ((Gr.ml y).take j).sum = S at *
      go_wp2_with fail
      refine (HC.out _).mono ?_
      rintro e w5 ⟨rfl, hb5⟩
      go_wp2_with fail
      subst hS
      go_ret2
      exact ⟨rfl, bt hB hb5⟩
set_option maxHeartbeats 1000000 in
theorem greg_ToDay_ok_out (y m d : Int) (w : World) (hG : Tab w 2 Gr.gregCells) (h1 : -4000 ≤ y) (h2 : y ≤ 7000) (h3 : 1 ≤ m) (h4 : m ≤ 12) (h5 : 1 ≤ d) (h : d ≤ Gr.days y m) (b : Gr.dayOf y m d < -1373427 ∨ 2278650 < Gr.dayOf y m d) :
    Calls Tryz.prog 43 #[.agg #[.int .i64 y, .int .i64 m, .int .i64 d]] w fun e w' => e = .returned (.tuple #[.int .i64 (0), .int .i64 2]) ∧ Below w.heap.size w w' := by
  have HD := Lib.hid (fun i w hG => greg_Days y i w hG ⟨by omega, by omega⟩)
  have HC := Lib.hid (fun w => closed_Year_no (Gr.dayOf y m d) w b)
  clear b
  obtain ⟨M, hM, hM2⟩ : ∃ M : Nat, m = (M : Int) + 1 ∧ M < 12 := ⟨(m - 1).toNat, by omega, by omega⟩
  subst hM
  obtain ⟨N, hN, hN1, hN2, hN3⟩ := Gr.ml_at y M hM2
  have hab := Gr.ahead_bd y h1 h2
  have HA := Lib.hid (fun w => greg_ahead y w (by omega) (by omega))
  have hat := Lib.hid (Gr.ml_at y)
  have htk := Lib.hid (Gr.take_bd y)
  have hdo : Gr.dayOf y ((M : Int) + 1) d = Gr.ahead y + d + ((Gr.ml y).take M).sum := by unfold Gr.dayOf Gr.before; rw [show ((M : Int) + 1 - 1).toNat = M by omega]
  rw [hdo] at HC
  rw [hN1] at h
  have HDm := Lib.hid (fun w hG => (hN1 ▸ HD.out ((M : Int) + 1) w hG : Calls Tryz.prog 90 #[.int .i64 y, .int .i64 ((M : Int) + 1)] w fun e w' => e = .returned (.int .i64 N) ∧ Below w.heap.size w w'))
  clear hN1 hN
  clear hdo
  generalize Gr.ahead y = A at *
  have g1 : decide (d < 1) = false := by simp; omega
  go_enter Tryz.func43, Tryz.ntmps43
  go_wp2_with fail
  refine settle (fun W => W.cell? ⟨w.heap.size, 0, none⟩ = some (.int .i64 y) ∧ W.cell? ⟨w.heap.size, 1, none⟩ = some (.int .i64 ((M : Int) + 1)) ∧ W.cell? ⟨w.heap.size, 2, none⟩ = some (.int .i64 d) ∧ w.heap.size < W.heap.size ∧ Below w.heap.size w W ∧ Tab W 2 Gr.gregCells) ⟨by simp [go_sem], by simp [go_sem], by simp [go_sem], by simp, ba _ _, Tab.below hG (ba _ _)⟩ ?_
  rintro W0 ⟨c0, c1, c2, cs, hB0, hG0⟩
  refine wp_region_class (by kernel_rfl) (by kernel_rfl) (fun hall => ?_)
  repeat (first | go_big_quiet_skip | (go_big_quiet_want; first | (refine quiet_load1 _ _ _ rfl rfl ?_ ?_ ?_; (focus (intro _; simp; done)); (focus (first | assumption | omega | (simp; done) | (simp; omega))); apply Exists.intro; refine ⟨?_, ?_⟩; assumption; go_simp; go_big_quiet_on) | (refine quiet_load2 _ _ _ _ rfl rfl ?_ ?_ ?_ ?_; (focus (intro _; simp; done)); (focus (intro _; simp; done)); (focus (first | assumption | omega | (simp; done) | (simp; omega))); apply Exists.intro; apply Exists.intro; refine ⟨?_, ?_, ?_⟩; assumption; assumption; go_simp; go_big_quiet_on) | (refine quiet_load3 _ _ _ _ rfl rfl ?_ ?_ ?_ ?_; (focus (intro _; simp; done)); (focus (intro _; simp; done)); (focus (first | assumption | omega | (simp; done) | (simp; omega))); apply Exists.intro; apply Exists.intro; apply Exists.intro; refine ⟨?_, ?_, ?_, ?_⟩; assumption; assumption; assumption; go_simp; go_big_quiet_on) | (refine quiet_load4 _ _ _ _ rfl rfl ?_ ?_ ?_ ?_; (focus (intro _; simp; done)); (focus (intro _; simp; done)); (focus (first | assumption | omega | (simp; done) | (simp; omega))); apply Exists.intro; apply Exists.intro; apply Exists.intro; apply Exists.intro; refine ⟨?_, ?_, ?_, ?_, ?_⟩; assumption; assumption; assumption; assumption; go_simp; go_big_quiet_on) | (go_big_quiet_op; first | go_big_quiet_on | (apply Exists.intro; refine ⟨fun x hx => ?_, ?_⟩; (first | exact call_below hx (HDm.out x (Tab.below hG0 hx))); go_big_quiet_on))))
  refine wpQuiet_nil ?_
  clear hall
  intro x1 hx1
  have k0 := (hx1.cell (p := ⟨w.heap.size, 0, none⟩) cs).trans c0
  have k1 := (hx1.cell (p := ⟨w.heap.size, 1, none⟩) cs).trans c1
  have k2 := (hx1.cell (p := ⟨w.heap.size, 2, none⟩) cs).trans c2
  have ks : w.heap.size < x1.heap.size := Nat.lt_of_lt_of_le cs hx1.size
  have hB1 : Below w.heap.size w x1 := bt hB0 hx1
  clear c0 c1 c2 cs
  go_wp2_with fail
  refine wp_region_class (by kernel_rfl) (by kernel_rfl) (fun hall => ?_)
  repeat (first | go_big_quiet_skip | (go_big_quiet_want; first | (refine quiet_load1 _ _ _ rfl rfl ?_ ?_ ?_; (focus (intro _; simp; done)); (focus (first | assumption | omega | (simp; done) | (simp; omega))); apply Exists.intro; refine ⟨?_, ?_⟩; assumption; go_simp; go_big_quiet_on) | (refine quiet_load2 _ _ _ _ rfl rfl ?_ ?_ ?_ ?_; (focus (intro _; simp; done)); (focus (intro _; simp; done)); (focus (first | assumption | omega | (simp; done) | (simp; omega))); apply Exists.intro; apply Exists.intro; refine ⟨?_, ?_, ?_⟩; assumption; assumption; go_simp; go_big_quiet_on) | (refine quiet_load3 _ _ _ _ rfl rfl ?_ ?_ ?_ ?_; (focus (intro _; simp; done)); (focus (intro _; simp; done)); (focus (first | assumption | omega | (simp; done) | (simp; omega))); apply Exists.intro; apply Exists.intro; apply Exists.intro; refine ⟨?_, ?_, ?_, ?_⟩; assumption; assumption; assumption; go_simp; go_big_quiet_on) | (refine quiet_load4 _ _ _ _ rfl rfl ?_ ?_ ?_ ?_; (focus (intro _; simp; done)); (focus (intro _; simp; done)); (focus (first | assumption | omega | (simp; done) | (simp; omega))); apply Exists.intro; apply Exists.intro; apply Exists.intro; apply Exists.intro; refine ⟨?_, ?_, ?_, ?_, ?_⟩; assumption; assumption; assumption; assumption; go_simp; go_big_quiet_on) | (go_big_quiet_op; first | go_big_quiet_on | (apply Exists.intro; refine ⟨fun x hx => ?_, ?_⟩; (first | exact call_same hx (HA.out x)); go_big_quiet_on))))
  refine wpQuiet_nil ?_
  clear hall
  intro x2 hx2
  have c0 := (hx2.cell (p := ⟨w.heap.size, 0, none⟩) ks).trans k0
  have c1 := (hx2.cell (p := ⟨w.heap.size, 1, none⟩) ks).trans k1
  have cs : w.heap.size < x2.heap.size := Nat.lt_of_lt_of_le ks hx2.size
  have hB2 : Below w.heap.size w x2 := bt hB1 hx2
  clear k0 k1 k2 ks hx1 hx2
  go_wp2_with fail
  go_loopw [4, 5] (fun s i wr => ∃ j : Nat, j ≤ M ∧ i = .int .i64 ((j : Int) + 1) ∧ s = .int .i64 (A + d + ((Gr.ml y).take j).sum) ∧ wr.cell? ⟨w.heap.size, 0, none⟩ = some (.int .i64 y) ∧ wr.cell? ⟨w.heap.size, 1, none⟩ = some (.int .i64 ((M : Int) + 1)) ∧ w.heap.size < wr.heap.size ∧ Below w.heap.size w wr) (fun _ i _ => M + 1 - (intOf i).toNat)
  case atStart => exact ⟨0, by omega, rfl, by simp, c0, c1, cs, hB2⟩
  case round =>
    obtain ⟨j, hj, rfl, rfl, e0, e1, es, hB⟩ := hrel
    clear c0 c1 cs hB2 hB1 hB0 hG0
    have tb := htk.out j (by omega)
    by_cases c : j < M
    · obtain ⟨x, x1', x2', x3, x4⟩ := hat.out j (by omega)
      have tn := sum_take (Gr.ml y) j x x1'
      have HDj := Lib.hid (fun w hG => (x2' ▸ HD.out ((j : Int) + 1) w hG : Calls Tryz.prog 90 #[.int .i64 y, .int .i64 ((j : Int) + 1)] w fun e w' => e = .returned (.int .i64 x) ∧ Below w.heap.size w w'))
      have HS := Lib.hid tn
      clear tn x1' x2'
      generalize hS : ((Gr.ml y).take j).sum = S at *
      go_wp2_with fail
      refine (HDj.out _ (Tab.below hG hB)).mono ?_
      rintro e w5 ⟨rfl, hb5⟩
      have e0' := (hb5.cell (p := ⟨w.heap.size, 0, none⟩) es).trans e0
      have e1' := (hb5.cell (p := ⟨w.heap.size, 1, none⟩) es).trans e1
      have es' := Nat.lt_of_lt_of_le es hb5.size
      have hB5 := bt hB hb5
      go_wp2_with fail
      go_roundw
      case rel => exact ⟨j + 1, by omega, by simp, by rw [HS.out]; simp; omega, e0', e1', es', hB5⟩
      case measure => simp [intOf]; omega
    · obtain rfl : j = M := by omega
      clear c
      generalize hS : ((Gr.ml y).take j).sum = S at *
      go_wp2_with fail
      refine (HC.out _).mono ?_
      rintro e w5 ⟨rfl, hb5⟩
      go_wp2_with fail
      subst hS
      go_ret2
      exact ⟨rfl, bt hB hb5⟩
end Go.Proofs.YtafenpgafmdenaaGreatDoor
/- Layer 11: the day of a Gregorian date, at any input. -/
namespace Go.Proofs.YtafenpgafmdenaaGreatDoor
open Go.ChangeShapes Go.WideShapes Go.ChangeAt Go.RowKit
set_option linter.unusedVariables false
set_option maxRecDepth 100000
namespace Gr
def gtE (y m d : Int) : Int := if y < -4000 ∨ 7000 < y then 2 else if m < 1 ∨ 12 < m then 3 else if d < 1 ∨ days y m < d then 4 else if dayOf y m d < -1373427 ∨ 2278650 < dayOf y m d then 2 else 0
def gtV (y m d : Int) : Int := if gtE y m d = 0 then dayOf y m d else 0
end Gr
theorem greg_ToDay (y m d : Int) (w : World) (hG : Tab w 2 Gr.gregCells) :
    Calls Tryz.prog 43 #[.agg #[.int .i64 y, .int .i64 m, .int .i64 d]] w fun e w' => e = .returned (.tuple #[.int .i64 (Gr.gtV y m d), .int .i64 (Gr.gtE y m d)]) ∧ Below w.heap.size w w' := by
  by_cases c1 : y < -4000 ∨ 7000 < y
  · have e : Gr.gtE y m d = 2 := by unfold Gr.gtE; rw [if_pos c1]
    rw [show Gr.gtV y m d = 0 by unfold Gr.gtV; rw [e, if_neg (by omega)], e]
    by_cases h : y < -4000
    · exact greg_ToDay_y1 y m d w hG h
    · exact greg_ToDay_y2 y m d w hG (by omega) (by omega)
  by_cases c2 : m < 1 ∨ 12 < m
  · have e : Gr.gtE y m d = 3 := by unfold Gr.gtE; rw [if_neg c1, if_pos c2]
    rw [show Gr.gtV y m d = 0 by unfold Gr.gtV; rw [e, if_neg (by omega)], e]
    by_cases h : m < 1
    · exact greg_ToDay_m1 y m d w hG (by omega) (by omega) h
    · exact greg_ToDay_m2 y m d w hG (by omega) (by omega) (by omega) (by omega)
  by_cases c3 : d < 1 ∨ Gr.days y m < d
  · have e : Gr.gtE y m d = 4 := by unfold Gr.gtE; rw [if_neg c1, if_neg c2, if_pos c3]
    rw [show Gr.gtV y m d = 0 by unfold Gr.gtV; rw [e, if_neg (by omega)], e]
    by_cases h : d < 1
    · exact greg_ToDay_d1 y m d w hG (by omega) (by omega) (by omega) (by omega) h
    · exact greg_ToDay_d2 y m d w hG (by omega) (by omega) (by omega) (by omega) (by omega) (by omega)
  by_cases c4 : Gr.dayOf y m d < -1373427 ∨ 2278650 < Gr.dayOf y m d
  · have e : Gr.gtE y m d = 2 := by unfold Gr.gtE; rw [if_neg c1, if_neg c2, if_neg c3, if_pos c4]
    rw [show Gr.gtV y m d = 0 by unfold Gr.gtV; rw [e, if_neg (by omega)], e]
    exact greg_ToDay_ok_out y m d w hG (by omega) (by omega) (by omega) (by omega) (by omega) (by omega) c4
  · have e : Gr.gtE y m d = 0 := by unfold Gr.gtE; rw [if_neg c1, if_neg c2, if_neg c3, if_neg c4]
    rw [show Gr.gtV y m d = Gr.dayOf y m d by unfold Gr.gtV; rw [e, if_pos rfl], e]
    exact greg_ToDay_ok_in y m d w hG (by omega) (by omega) (by omega) (by omega) (by omega) (by omega) (by omega) (by omega)
end Go.Proofs.YtafenpgafmdenaaGreatDoor
