/- Layer 11: a Gregorian date's day. -/
import Derived.Test.YtmiadhiomingmaaDoorGreg4
namespace Go.Proofs.YtmiadhiomingmaaDoor
open Go.ChangeShapes Go.WideShapes Go.ChangeAt Go.RowKit
set_option linter.unusedVariables false
set_option maxRecDepth 100000
namespace Gr
def before (y m : Int) : Int := ((ml y).take (m - 1).toNat).sum
def dayOf (y m d : Int) : Int := ahead y + d + before y m
theorem take_bd (y : Int) (j : Nat) (hj : j ≤ 12) : 0 ≤ ((ml y).take j).sum ∧ ((ml y).take j).sum ≤ 366 := by
  have a := D10.take_mono (ml y) (fun x hx => by have := ml_bd y x hx; omega) 0 j
  have b := D10.take_mono (ml y) (fun x hx => by have := ml_bd y x hx; omega) j (12 - j)
  rw [show j + (12 - j) = 12 by omega, List.take_of_length_le (show (ml y).length ≤ 12 from Nat.le_refl _), ml_sum] at b
  simp at a
  have : long y ≤ 366 := by unfold long; split <;> omega
  omega
theorem ahead_bd (y : Int) (h1 : -4000 ≤ y) (h2 : y ≤ 7000) : -2000000 ≤ ahead y ∧ ahead y ≤ 3000000 := by unfold ahead; omega
end Gr
set_option maxHeartbeats 1000000 in
theorem greg_ToDay_y1 (y m d : Int) (w : World) (hG : Tab w 3 Gr.gregCells) (h : y < -4000) :
    Calls Tryd.prog 70 #[.agg #[.int .i64 y, .int .i64 m, .int .i64 d]] w fun e w' => e = .returned (.tuple #[.int .i64 (0), .int .i64 2]) ∧ Below w.heap.size w w' := by
  go_enter Tryd.func70, Tryd.ntmps70
  go_wp2_with fail
  go_ret2
  exact ⟨rfl, ba _ _⟩
set_option maxHeartbeats 1000000 in
theorem greg_ToDay_y2 (y m d : Int) (w : World) (hG : Tab w 3 Gr.gregCells) (h1 : -4000 ≤ y) (h : 7000 < y) :
    Calls Tryd.prog 70 #[.agg #[.int .i64 y, .int .i64 m, .int .i64 d]] w fun e w' => e = .returned (.tuple #[.int .i64 (0), .int .i64 2]) ∧ Below w.heap.size w w' := by
  go_enter Tryd.func70, Tryd.ntmps70
  go_wp2_with fail
  go_ret2
  exact ⟨rfl, ba _ _⟩
set_option maxHeartbeats 1000000 in
theorem greg_ToDay_m1 (y m d : Int) (w : World) (hG : Tab w 3 Gr.gregCells) (h1 : -4000 ≤ y) (h2 : y ≤ 7000) (h : m < 1) :
    Calls Tryd.prog 70 #[.agg #[.int .i64 y, .int .i64 m, .int .i64 d]] w fun e w' => e = .returned (.tuple #[.int .i64 (0), .int .i64 3]) ∧ Below w.heap.size w w' := by
  go_enter Tryd.func70, Tryd.ntmps70
  go_wp2_with fail
  go_ret2
  exact ⟨rfl, ba _ _⟩
set_option maxHeartbeats 1000000 in
theorem greg_ToDay_m2 (y m d : Int) (w : World) (hG : Tab w 3 Gr.gregCells) (h1 : -4000 ≤ y) (h2 : y ≤ 7000) (h3 : 1 ≤ m) (h : 12 < m) :
    Calls Tryd.prog 70 #[.agg #[.int .i64 y, .int .i64 m, .int .i64 d]] w fun e w' => e = .returned (.tuple #[.int .i64 (0), .int .i64 3]) ∧ Below w.heap.size w w' := by
  go_enter Tryd.func70, Tryd.ntmps70
  go_wp2_with fail
  go_ret2
  exact ⟨rfl, ba _ _⟩
set_option maxHeartbeats 1000000 in
theorem greg_ToDay_d1 (y m d : Int) (w : World) (hG : Tab w 3 Gr.gregCells) (h1 : -4000 ≤ y) (h2 : y ≤ 7000) (h3 : 1 ≤ m) (h4 : m ≤ 12) (h : d < 1) :
    Calls Tryd.prog 70 #[.agg #[.int .i64 y, .int .i64 m, .int .i64 d]] w fun e w' => e = .returned (.tuple #[.int .i64 (0), .int .i64 4]) ∧ Below w.heap.size w w' := by
  have g1 : decide (d < 1) = true := by simpa using h
  go_enter Tryd.func70, Tryd.ntmps70
  go_wp2_with fail
  refine settle (fun W => W.cell? ⟨w.heap.size, 0, none⟩ = some (.int .i64 y) ∧ W.cell? ⟨w.heap.size, 1, none⟩ = some (.int .i64 m) ∧ W.cell? ⟨w.heap.size, 2, none⟩ = some (.int .i64 d) ∧ w.heap.size < W.heap.size ∧ Below w.heap.size w W ∧ Tab W 3 Gr.gregCells) ⟨by simp [go_sem], by simp [go_sem], by simp [go_sem], by simp, ba _ _, Tab.below hG (ba _ _)⟩ ?_
  rintro W0 ⟨c0, c1, c2, cs, hB0, hG0⟩
  refine wp_region_class (by kernel_rfl) (by kernel_rfl) (fun hall => ?_)
  repeat (first | go_big_quiet_skip | (go_big_quiet_want; first | (refine quiet_load1 _ _ _ rfl rfl ?_ ?_ ?_; (focus (intro _; simp; done)); (focus (first | assumption | omega | (simp; done) | (simp; omega))); apply Exists.intro; refine ⟨?_, ?_⟩; assumption; go_simp; go_big_quiet_on) | (refine quiet_load2 _ _ _ _ rfl rfl ?_ ?_ ?_ ?_; (focus (intro _; simp; done)); (focus (intro _; simp; done)); (focus (first | assumption | omega | (simp; done) | (simp; omega))); apply Exists.intro; apply Exists.intro; refine ⟨?_, ?_, ?_⟩; assumption; assumption; go_simp; go_big_quiet_on) | (refine quiet_load3 _ _ _ _ rfl rfl ?_ ?_ ?_ ?_; (focus (intro _; simp; done)); (focus (intro _; simp; done)); (focus (first | assumption | omega | (simp; done) | (simp; omega))); apply Exists.intro; apply Exists.intro; apply Exists.intro; refine ⟨?_, ?_, ?_, ?_⟩; assumption; assumption; assumption; go_simp; go_big_quiet_on) | (refine quiet_load4 _ _ _ _ rfl rfl ?_ ?_ ?_ ?_; (focus (intro _; simp; done)); (focus (intro _; simp; done)); (focus (first | assumption | omega | (simp; done) | (simp; omega))); apply Exists.intro; apply Exists.intro; apply Exists.intro; apply Exists.intro; refine ⟨?_, ?_, ?_, ?_, ?_⟩; assumption; assumption; assumption; assumption; go_simp; go_big_quiet_on) | (go_big_quiet_op; first | go_big_quiet_on | (apply Exists.intro; refine ⟨fun x hx => ?_, ?_⟩; (first | fail); go_big_quiet_on))))
  refine wpQuiet_nil ?_
  clear hall
  intro x1 hx1
  go_wp2_with fail
  go_ret2
  exact ⟨rfl, bt hB0 hx1⟩
set_option maxHeartbeats 1000000 in
theorem greg_ToDay_d2 (y m d : Int) (w : World) (hG : Tab w 3 Gr.gregCells) (h1 : -4000 ≤ y) (h2 : y ≤ 7000) (h3 : 1 ≤ m) (h4 : m ≤ 12) (h5 : 1 ≤ d) (h : Gr.days y m < d) :
    Calls Tryd.prog 70 #[.agg #[.int .i64 y, .int .i64 m, .int .i64 d]] w fun e w' => e = .returned (.tuple #[.int .i64 (0), .int .i64 4]) ∧ Below w.heap.size w w' := by
  have HD := Lib.hid (fun i w hG => greg_Days y i w hG ⟨by omega, by omega⟩)
  have g1 : decide (d < 1) = false := by simp; omega
  generalize hN : Gr.days y m = N at *
  have HDm := Lib.hid (fun w hG => (hN ▸ HD.out m w hG : Calls Tryd.prog 103 #[.int .i64 y, .int .i64 m] w fun e w' => e = .returned (.int .i64 N) ∧ Below w.heap.size w w'))
  clear hN
  go_enter Tryd.func70, Tryd.ntmps70
  go_wp2_with fail
  refine settle (fun W => W.cell? ⟨w.heap.size, 0, none⟩ = some (.int .i64 y) ∧ W.cell? ⟨w.heap.size, 1, none⟩ = some (.int .i64 m) ∧ W.cell? ⟨w.heap.size, 2, none⟩ = some (.int .i64 d) ∧ w.heap.size < W.heap.size ∧ Below w.heap.size w W ∧ Tab W 3 Gr.gregCells) ⟨by simp [go_sem], by simp [go_sem], by simp [go_sem], by simp, ba _ _, Tab.below hG (ba _ _)⟩ ?_
  rintro W0 ⟨c0, c1, c2, cs, hB0, hG0⟩
  refine wp_region_class (by kernel_rfl) (by kernel_rfl) (fun hall => ?_)
  repeat (first | go_big_quiet_skip | (go_big_quiet_want; first | (refine quiet_load1 _ _ _ rfl rfl ?_ ?_ ?_; (focus (intro _; simp; done)); (focus (first | assumption | omega | (simp; done) | (simp; omega))); apply Exists.intro; refine ⟨?_, ?_⟩; assumption; go_simp; go_big_quiet_on) | (refine quiet_load2 _ _ _ _ rfl rfl ?_ ?_ ?_ ?_; (focus (intro _; simp; done)); (focus (intro _; simp; done)); (focus (first | assumption | omega | (simp; done) | (simp; omega))); apply Exists.intro; apply Exists.intro; refine ⟨?_, ?_, ?_⟩; assumption; assumption; go_simp; go_big_quiet_on) | (refine quiet_load3 _ _ _ _ rfl rfl ?_ ?_ ?_ ?_; (focus (intro _; simp; done)); (focus (intro _; simp; done)); (focus (first | assumption | omega | (simp; done) | (simp; omega))); apply Exists.intro; apply Exists.intro; apply Exists.intro; refine ⟨?_, ?_, ?_, ?_⟩; assumption; assumption; assumption; go_simp; go_big_quiet_on) | (refine quiet_load4 _ _ _ _ rfl rfl ?_ ?_ ?_ ?_; (focus (intro _; simp; done)); (focus (intro _; simp; done)); (focus (first | assumption | omega | (simp; done) | (simp; omega))); apply Exists.intro; apply Exists.intro; apply Exists.intro; apply Exists.intro; refine ⟨?_, ?_, ?_, ?_, ?_⟩; assumption; assumption; assumption; assumption; go_simp; go_big_quiet_on) | (go_big_quiet_op; first | go_big_quiet_on | (apply Exists.intro; refine ⟨fun x hx => ?_, ?_⟩; (first | exact call_below hx (HDm.out x (Tab.below hG0 hx))); go_big_quiet_on))))
  refine wpQuiet_nil ?_
  clear hall
  intro x1 hx1
  go_wp2_with fail
  go_ret2
  exact ⟨rfl, bt hB0 hx1⟩
end Go.Proofs.YtmiadhiomingmaaDoor
