/- Merged: Greg4, Greg5, Greg6, Greg7, Greg8, W11. -/
import Derived.Test.YtaaaalbgjpjgoaaGreatDoorVG1
section
/- Layer 11: the document's sums; which days may be. -/
namespace Go.Proofs.YtaaaalbgjpjgoaaGreatDoor
open Go.ChangeShapes Go.WideShapes Go.ChangeAt Go.RowKit
set_option linter.unusedVariables false
set_option maxRecDepth 100000
end Go.Proofs.YtaaaalbgjpjgoaaGreatDoor
end
section
/- Layer 11: a Gregorian date's day. -/
namespace Go.Proofs.YtaaaalbgjpjgoaaGreatDoor
open Go.ChangeShapes Go.WideShapes Go.ChangeAt Go.RowKit
set_option linter.unusedVariables false
set_option maxRecDepth 100000
namespace Gr
def before (y m : Int) : Int := ((ml y).take (m - 1).toNat).sum
def dayOf (y m d : Int) : Int := ahead y + d + before y m
theorem take_bd (y : Int) (j : Nat) (hj : j ≤ 12) : 0 ≤ ((ml y).take j).sum ∧ ((ml y).take j).sum ≤ 366 := by
  have a := D10.take_mono (ml y) (fun x hx => by have := ml_bd y x hx; omega) 0 j
  have b := D10.take_mono (ml y) (fun x hx => by have := ml_bd y x hx; omega) j (12 - j)
  rw [show j + (12 - j) = 12 by omega, List.take_of_length_le (show (ml y).length ≤ 12 from Nat.le_refl _), ml_sum] at b
  simp at a
  have : long y ≤ 366 := by unfold long; split <;> omega
  omega
theorem ahead_bd (y : Int) (h1 : -4000 ≤ y) (h2 : y ≤ 7000) : -2000000 ≤ ahead y ∧ ahead y ≤ 3000000 := by unfold ahead; omega
end Gr
set_option maxHeartbeats 1000000 in
theorem greg_ToDay_y1 (y m d : Int) (w : World) (hG : Tab w 4 Gr.gregCells) (h : y < -4000) :
    Calls Tryo.prog 41 #[.agg #[.int .i64 y, .int .i64 m, .int .i64 d]] w fun e w' => e = .returned (.tuple #[.int .i64 (0), .int .i64 2]) ∧ Below w.heap.size w w' := by
  go_enter Tryo.func41, Tryz.ntmps41
  go_wp2_with fail
  go_ret2
  exact ⟨rfl, ba _ _⟩
set_option maxHeartbeats 1000000 in
theorem greg_ToDay_y2 (y m d : Int) (w : World) (hG : Tab w 4 Gr.gregCells) (h1 : -4000 ≤ y) (h : 7000 < y) :
    Calls Tryo.prog 41 #[.agg #[.int .i64 y, .int .i64 m, .int .i64 d]] w fun e w' => e = .returned (.tuple #[.int .i64 (0), .int .i64 2]) ∧ Below w.heap.size w w' := by
  go_enter Tryo.func41, Tryz.ntmps41
  go_wp2_with fail
  go_ret2
  exact ⟨rfl, ba _ _⟩
set_option maxHeartbeats 1000000 in
theorem greg_ToDay_m1 (y m d : Int) (w : World) (hG : Tab w 4 Gr.gregCells) (h1 : -4000 ≤ y) (h2 : y ≤ 7000) (h : m < 1) :
    Calls Tryo.prog 41 #[.agg #[.int .i64 y, .int .i64 m, .int .i64 d]] w fun e w' => e = .returned (.tuple #[.int .i64 (0), .int .i64 3]) ∧ Below w.heap.size w w' := by
  go_enter Tryo.func41, Tryz.ntmps41
  go_wp2_with fail
  go_ret2
  exact ⟨rfl, ba _ _⟩
set_option maxHeartbeats 1000000 in
theorem greg_ToDay_m2 (y m d : Int) (w : World) (hG : Tab w 4 Gr.gregCells) (h1 : -4000 ≤ y) (h2 : y ≤ 7000) (h3 : 1 ≤ m) (h : 12 < m) :
    Calls Tryo.prog 41 #[.agg #[.int .i64 y, .int .i64 m, .int .i64 d]] w fun e w' => e = .returned (.tuple #[.int .i64 (0), .int .i64 3]) ∧ Below w.heap.size w w' := by
  go_enter Tryo.func41, Tryz.ntmps41
  go_wp2_with fail
  go_ret2
  exact ⟨rfl, ba _ _⟩
set_option maxHeartbeats 1000000 in
theorem greg_ToDay_d1 (y m d : Int) (w : World) (hG : Tab w 4 Gr.gregCells) (h1 : -4000 ≤ y) (h2 : y ≤ 7000) (h3 : 1 ≤ m) (h4 : m ≤ 12) (h : d < 1) :
    Calls Tryo.prog 41 #[.agg #[.int .i64 y, .int .i64 m, .int .i64 d]] w fun e w' => e = .returned (.tuple #[.int .i64 (0), .int .i64 4]) ∧ Below w.heap.size w w' := by
  have g1 : decide (d < 1) = true := by simpa using h
  go_enter Tryo.func41, Tryz.ntmps41
  go_wp2_with fail
  refine settle (fun W => W.cell? ⟨w.heap.size, 0, none⟩ = some (.int .i64 y) ∧ W.cell? ⟨w.heap.size, 1, none⟩ = some (.int .i64 m) ∧ W.cell? ⟨w.heap.size, 2, none⟩ = some (.int .i64 d) ∧ w.heap.size < W.heap.size ∧ Below w.heap.size w W ∧ Tab W 4 Gr.gregCells) ⟨by simp [go_sem], by simp [go_sem], by simp [go_sem], by simp, ba _ _, Tab.below hG (ba _ _)⟩ ?_
  rintro W0 ⟨c0, c1, c2, cs, hB0, hG0⟩
  refine wp_region_class (by kernel_rfl) (by kernel_rfl) (fun hall => ?_)
  repeat (first | go_big_quiet_skip | (go_big_quiet_want; first | (refine quiet_load1 _ _ _ rfl rfl ?_ ?_ ?_; (focus (intro _; simp; done)); (focus (first | assumption | omega | (simp; done) | (simp; omega))); apply Exists.intro; refine ⟨?_, ?_⟩; assumption; go_simp; go_big_quiet_on) | (refine quiet_load2 _ _ _ _ rfl rfl ?_ ?_ ?_ ?_; (focus (intro _; simp; done)); (focus (intro _; simp; done)); (focus (first | assumption | omega | (simp; done) | (simp; omega))); apply Exists.intro; apply Exists.intro; refine ⟨?_, ?_, ?_⟩; assumption; assumption; go_simp; go_big_quiet_on) | (refine quiet_load3 _ _ _ _ rfl rfl ?_ ?_ ?_ ?_; (focus (intro _; simp; done)); (focus (intro _; simp; done)); (focus (first | assumption | omega | (simp; done) | (simp; omega))); apply Exists.intro; apply Exists.intro; apply Exists.intro; refine ⟨?_, ?_, ?_, ?_⟩; assumption; assumption; assumption; go_simp; go_big_quiet_on) | (refine quiet_load4 _ _ _ _ rfl rfl ?_ ?_ ?_ ?_; (focus (intro _; simp; done)); (focus (intro _; simp; done)); (focus (first | assumption | omega | (simp; done) | (simp; omega))); apply Exists.intro; apply Exists.intro; apply Exists.intro; apply Exists.intro; refine ⟨?_, ?_, ?_, ?_, ?_⟩; assumption; assumption; assumption; assumption; go_simp; go_big_quiet_on) | (go_big_quiet_op; first | go_big_quiet_on | (apply Exists.intro; refine ⟨fun x hx => ?_, ?_⟩; (first | fail); go_big_quiet_on))))
  refine wpQuiet_nil ?_
  clear hall
  intro x1 hx1
  go_wp2_with fail
  go_ret2
  exact ⟨rfl, bt hB0 hx1⟩
set_option maxHeartbeats 1000000 in
theorem greg_ToDay_d2 (y m d : Int) (w : World) (hG : Tab w 4 Gr.gregCells) (h1 : -4000 ≤ y) (h2 : y ≤ 7000) (h3 : 1 ≤ m) (h4 : m ≤ 12) (h5 : 1 ≤ d) (h : Gr.days y m < d) :
    Calls Tryo.prog 41 #[.agg #[.int .i64 y, .int .i64 m, .int .i64 d]] w fun e w' => e = .returned (.tuple #[.int .i64 (0), .int .i64 4]) ∧ Below w.heap.size w w' := by
  have HD := Lib.hid (fun i w hG => greg_Days y i w hG ⟨by omega, by omega⟩)
  have g1 : decide (d < 1) = false := by simp; omega
  generalize hN : Gr.days y m = N at *
  have HDm := Lib.hid (fun w hG => (hN ▸ HD.out m w hG : Calls Tryo.prog 84 #[.int .i64 y, .int .i64 m] w fun e w' => e = .returned (.int .i64 N) ∧ Below w.heap.size w w'))
  clear hN
  go_enter Tryo.func41, Tryz.ntmps41
  go_wp2_with fail
  refine settle (fun W => W.cell? ⟨w.heap.size, 0, none⟩ = some (.int .i64 y) ∧ W.cell? ⟨w.heap.size, 1, none⟩ = some (.int .i64 m) ∧ W.cell? ⟨w.heap.size, 2, none⟩ = some (.int .i64 d) ∧ w.heap.size < W.heap.size ∧ Below w.heap.size w W ∧ Tab W 4 Gr.gregCells) ⟨by simp [go_sem], by simp [go_sem], by simp [go_sem], by simp, ba _ _, Tab.below hG (ba _ _)⟩ ?_
  rintro W0 ⟨c0, c1, c2, cs, hB0, hG0⟩
  refine wp_region_class (by kernel_rfl) (by kernel_rfl) (fun hall => ?_)
  repeat (first | go_big_quiet_skip | (go_big_quiet_want; first | (refine quiet_load1 _ _ _ rfl rfl ?_ ?_ ?_; (focus (intro _; simp; done)); (focus (first | assumption | omega | (simp; done) | (simp; omega))); apply Exists.intro; refine ⟨?_, ?_⟩; assumption; go_simp; go_big_quiet_on) | (refine quiet_load2 _ _ _ _ rfl rfl ?_ ?_ ?_ ?_; (focus (intro _; simp; done)); (focus (intro _; simp; done)); (focus (first | assumption | omega | (simp; done) | (simp; omega))); apply Exists.intro; apply Exists.intro; refine ⟨?_, ?_, ?_⟩; assumption; assumption; go_simp; go_big_quiet_on) | (refine quiet_load3 _ _ _ _ rfl rfl ?_ ?_ ?_ ?_; (focus (intro _; simp; done)); (focus (intro _; simp; done)); (focus (first | assumption | omega | (simp; done) | (simp; omega))); apply Exists.intro; apply Exists.intro; apply Exists.intro; refine ⟨?_, ?_, ?_, ?_⟩; assumption; assumption; assumption; go_simp; go_big_quiet_on) | (refine quiet_load4 _ _ _ _ rfl rfl ?_ ?_ ?_ ?_; (focus (intro _; simp; done)); (focus (intro _; simp; done)); (focus (first | assumption | omega | (simp; done) | (simp; omega))); apply Exists.intro; apply Exists.intro; apply Exists.intro; apply Exists.intro; refine ⟨?_, ?_, ?_, ?_, ?_⟩; assumption; assumption; assumption; assumption; go_simp; go_big_quiet_on) | (go_big_quiet_op; first | go_big_quiet_on | (apply Exists.intro; refine ⟨fun x hx => ?_, ?_⟩; (first | exact call_below hx (HDm.out x (Tab.below hG0 hx))); go_big_quiet_on))))
  refine wpQuiet_nil ?_
  clear hall
  intro x1 hx1
  go_wp2_with fail
  go_ret2
  exact ⟨rfl, bt hB0 hx1⟩
end Go.Proofs.YtaaaalbgjpjgoaaGreatDoor
end
section
/- Layer 11: the day of a Gregorian date that may be. -/
namespace Go.Proofs.YtaaaalbgjpjgoaaGreatDoor
open Go.ChangeShapes Go.WideShapes Go.ChangeAt Go.RowKit
set_option linter.unusedVariables false
set_option maxRecDepth 100000
set_option maxHeartbeats 1000000 in
theorem greg_ToDay_ok_in (y m d : Int) (w : World) (hG : Tab w 4 Gr.gregCells) (h1 : -4000 ≤ y) (h2 : y ≤ 7000) (h3 : 1 ≤ m) (h4 : m ≤ 12) (h5 : 1 ≤ d) (h : d ≤ Gr.days y m) (b1 : -1373427 ≤ Gr.dayOf y m d) (b2 : Gr.dayOf y m d ≤ 2278650) :
    Calls Tryo.prog 41 #[.agg #[.int .i64 y, .int .i64 m, .int .i64 d]] w fun e w' => e = .returned (.tuple #[.int .i64 (Gr.dayOf y m d), .int .i64 0]) ∧ Below w.heap.size w w' := by
  have HD := Lib.hid (fun i w hG => greg_Days y i w hG ⟨by omega, by omega⟩)
  obtain ⟨hy, y1, y2, f1, f2⟩ := year_of _ b1 b2
  have HC := Lib.hid (fun w => closed_Year_at (Gr.dayOf y m d) hy w y1 y2 f1 f2 b1 b2)
  clear f1 f2 y1 y2 b1 b2
  obtain ⟨M, hM, hM2⟩ : ∃ M : Nat, m = (M : Int) + 1 ∧ M < 12 := ⟨(m - 1).toNat, by omega, by omega⟩
  subst hM
  obtain ⟨N, hN, hN1, hN2, hN3⟩ := Gr.ml_at y M hM2
  have hab := Gr.ahead_bd y h1 h2
  have HA := Lib.hid (fun w => greg_ahead y w (by omega) (by omega))
  have hat := Lib.hid (Gr.ml_at y)
  have htk := Lib.hid (Gr.take_bd y)
  have hdo : Gr.dayOf y ((M : Int) + 1) d = Gr.ahead y + d + ((Gr.ml y).take M).sum := by unfold Gr.dayOf Gr.before; rw [show ((M : Int) + 1 - 1).toNat = M by omega]
  rw [hdo] at HC
  rw [hN1] at h
  have HDm := Lib.hid (fun w hG => (hN1 ▸ HD.out ((M : Int) + 1) w hG : Calls Tryo.prog 84 #[.int .i64 y, .int .i64 ((M : Int) + 1)] w fun e w' => e = .returned (.int .i64 N) ∧ Below w.heap.size w w'))
  clear hN1 hN
  rw [hdo]
  clear hdo
  generalize Gr.ahead y = A at *
  have g1 : decide (d < 1) = false := by simp; omega
  go_enter Tryo.func41, Tryz.ntmps41
  go_wp2_with fail
  refine settle (fun W => W.cell? ⟨w.heap.size, 0, none⟩ = some (.int .i64 y) ∧ W.cell? ⟨w.heap.size, 1, none⟩ = some (.int .i64 ((M : Int) + 1)) ∧ W.cell? ⟨w.heap.size, 2, none⟩ = some (.int .i64 d) ∧ w.heap.size < W.heap.size ∧ Below w.heap.size w W ∧ Tab W 4 Gr.gregCells) ⟨by simp [go_sem], by simp [go_sem], by simp [go_sem], by simp, ba _ _, Tab.below hG (ba _ _)⟩ ?_
  rintro W0 ⟨c0, c1, c2, cs, hB0, hG0⟩
  refine wp_region_class (by kernel_rfl) (by kernel_rfl) (fun hall => ?_)
  repeat (first | go_big_quiet_skip | (go_big_quiet_want; first | (refine quiet_load1 _ _ _ rfl rfl ?_ ?_ ?_; (focus (intro _; simp; done)); (focus (first | assumption | omega | (simp; done) | (simp; omega))); apply Exists.intro; refine ⟨?_, ?_⟩; assumption; go_simp; go_big_quiet_on) | (refine quiet_load2 _ _ _ _ rfl rfl ?_ ?_ ?_ ?_; (focus (intro _; simp; done)); (focus (intro _; simp; done)); (focus (first | assumption | omega | (simp; done) | (simp; omega))); apply Exists.intro; apply Exists.intro; refine ⟨?_, ?_, ?_⟩; assumption; assumption; go_simp; go_big_quiet_on) | (refine quiet_load3 _ _ _ _ rfl rfl ?_ ?_ ?_ ?_; (focus (intro _; simp; done)); (focus (intro _; simp; done)); (focus (first | assumption | omega | (simp; done) | (simp; omega))); apply Exists.intro; apply Exists.intro; apply Exists.intro; refine ⟨?_, ?_, ?_, ?_⟩; assumption; assumption; assumption; go_simp; go_big_quiet_on) | (refine quiet_load4 _ _ _ _ rfl rfl ?_ ?_ ?_ ?_; (focus (intro _; simp; done)); (focus (intro _; simp; done)); (focus (first | assumption | omega | (simp; done) | (simp; omega))); apply Exists.intro; apply Exists.intro; apply Exists.intro; apply Exists.intro; refine ⟨?_, ?_, ?_, ?_, ?_⟩; assumption; assumption; assumption; assumption; go_simp; go_big_quiet_on) | (go_big_quiet_op; first | go_big_quiet_on | (apply Exists.intro; refine ⟨fun x hx => ?_, ?_⟩; (first | exact call_below hx (HDm.out x (Tab.below hG0 hx))); go_big_quiet_on))))
  refine wpQuiet_nil ?_
  clear hall
  intro x1 hx1
  have k0 := (hx1.cell (p := ⟨w.heap.size, 0, none⟩) cs).trans c0
  have k1 := (hx1.cell (p := ⟨w.heap.size, 1, none⟩) cs).trans c1
  have k2 := (hx1.cell (p := ⟨w.heap.size, 2, none⟩) cs).trans c2
  have ks : w.heap.size < x1.heap.size := Nat.lt_of_lt_of_le cs hx1.size
  have hB1 : Below w.heap.size w x1 := bt hB0 hx1
  clear c0 c1 c2 cs
  go_wp2_with fail
  refine wp_region_class (by kernel_rfl) (by kernel_rfl) (fun hall => ?_)
  repeat (first | go_big_quiet_skip | (go_big_quiet_want; first | (refine quiet_load1 _ _ _ rfl rfl ?_ ?_ ?_; (focus (intro _; simp; done)); (focus (first | assumption | omega | (simp; done) | (simp; omega))); apply Exists.intro; refine ⟨?_, ?_⟩; assumption; go_simp; go_big_quiet_on) | (refine quiet_load2 _ _ _ _ rfl rfl ?_ ?_ ?_ ?_; (focus (intro _; simp; done)); (focus (intro _; simp; done)); (focus (first | assumption | omega | (simp; done) | (simp; omega))); apply Exists.intro; apply Exists.intro; refine ⟨?_, ?_, ?_⟩; assumption; assumption; go_simp; go_big_quiet_on) | (refine quiet_load3 _ _ _ _ rfl rfl ?_ ?_ ?_ ?_; (focus (intro _; simp; done)); (focus (intro _; simp; done)); (focus (first | assumption | omega | (simp; done) | (simp; omega))); apply Exists.intro; apply Exists.intro; apply Exists.intro; refine ⟨?_, ?_, ?_, ?_⟩; assumption; assumption; assumption; go_simp; go_big_quiet_on) | (refine quiet_load4 _ _ _ _ rfl rfl ?_ ?_ ?_ ?_; (focus (intro _; simp; done)); (focus (intro _; simp; done)); (focus (first | assumption | omega | (simp; done) | (simp; omega))); apply Exists.intro; apply Exists.intro; apply Exists.intro; apply Exists.intro; refine ⟨?_, ?_, ?_, ?_, ?_⟩; assumption; assumption; assumption; assumption; go_simp; go_big_quiet_on) | (go_big_quiet_op; first | go_big_quiet_on | (apply Exists.intro; refine ⟨fun x hx => ?_, ?_⟩; (first | exact call_same hx (HA.out x)); go_big_quiet_on))))
  refine wpQuiet_nil ?_
  clear hall
  intro x2 hx2
  have c0 := (hx2.cell (p := ⟨w.heap.size, 0, none⟩) ks).trans k0
  have c1 := (hx2.cell (p := ⟨w.heap.size, 1, none⟩) ks).trans k1
  have cs : w.heap.size < x2.heap.size := Nat.lt_of_lt_of_le ks hx2.size
  have hB2 : Below w.heap.size w x2 := bt hB1 hx2
  clear k0 k1 k2 ks hx1 hx2
  go_wp2_with fail
  go_loopw [4, 5] (fun s i wr => ∃ j : Nat, j ≤ M ∧ i = .int .i64 ((j : Int) + 1) ∧ s = .int .i64 (A + d + ((Gr.ml y).take j).sum) ∧ wr.cell? ⟨w.heap.size, 0, none⟩ = some (.int .i64 y) ∧ wr.cell? ⟨w.heap.size, 1, none⟩ = some (.int .i64 ((M : Int) + 1)) ∧ w.heap.size < wr.heap.size ∧ Below w.heap.size w wr) (fun _ i _ => M + 1 - (intOf i).toNat)
  case atStart => exact ⟨0, by omega, rfl, by simp, c0, c1, cs, hB2⟩
  case round =>
    obtain ⟨j, hj, rfl, rfl, e0, e1, es, hB⟩ := hrel
    clear c0 c1 cs hB2 hB1 hB0 hG0
    have tb := htk.out j (by omega)
    by_cases c : j < M
    · obtain ⟨x, x1', x2', x3, x4⟩ := hat.out j (by omega)
      have tn := sum_take (Gr.ml y) j x x1'
      have HDj := Lib.hid (fun w hG => (x2' ▸ HD.out ((j : Int) + 1) w hG : Calls Tryo.prog 84 #[.int .i64 y, .int .i64 ((j : Int) + 1)] w fun e w' => e = .returned (.int .i64 x) ∧ Below w.heap.size w w'))
      have HS := Lib.hid tn
      clear tn x1' x2'
      generalize hS : ((Gr.ml y).take j).sum = S at *
      go_wp2_with fail
      refine (HDj.out _ (Tab.below hG hB)).mono ?_
      rintro e w5 ⟨rfl, hb5⟩
      have e0' := (hb5.cell (p := ⟨w.heap.size, 0, none⟩) es).trans e0
      have e1' := (hb5.cell (p := ⟨w.heap.size, 1, none⟩) es).trans e1
      have es' := Nat.lt_of_lt_of_le es hb5.size
      have hB5 := bt hB hb5
      go_wp2_with fail
      go_roundw
      case rel => exact ⟨j + 1, by omega, by simp, by rw [HS.out]; simp; omega, e0', e1', es', hB5⟩
      case measure => simp [intOf]; omega
    · obtain rfl : j = M := by omega
      clear c
      generalize hS : ((Gr.ml y).take j).sum = S at *
      go_wp2_with fail
      refine (HC.out _).mono ?_
      rintro e w5 ⟨rfl, hb5⟩
      go_wp2_with fail
      subst hS
      go_ret2
      exact ⟨rfl, bt hB hb5⟩
set_option maxHeartbeats 1000000 in
theorem greg_ToDay_ok_out (y m d : Int) (w : World) (hG : Tab w 4 Gr.gregCells) (h1 : -4000 ≤ y) (h2 : y ≤ 7000) (h3 : 1 ≤ m) (h4 : m ≤ 12) (h5 : 1 ≤ d) (h : d ≤ Gr.days y m) (b : Gr.dayOf y m d < -1373427 ∨ 2278650 < Gr.dayOf y m d) :
    Calls Tryo.prog 41 #[.agg #[.int .i64 y, .int .i64 m, .int .i64 d]] w fun e w' => e = .returned (.tuple #[.int .i64 (0), .int .i64 2]) ∧ Below w.heap.size w w' := by
  have HD := Lib.hid (fun i w hG => greg_Days y i w hG ⟨by omega, by omega⟩)
  have HC := Lib.hid (fun w => closed_Year_no (Gr.dayOf y m d) w b)
  clear b
  obtain ⟨M, hM, hM2⟩ : ∃ M : Nat, m = (M : Int) + 1 ∧ M < 12 := ⟨(m - 1).toNat, by omega, by omega⟩
  subst hM
  obtain ⟨N, hN, hN1, hN2, hN3⟩ := Gr.ml_at y M hM2
  have hab := Gr.ahead_bd y h1 h2
  have HA := Lib.hid (fun w => greg_ahead y w (by omega) (by omega))
  have hat := Lib.hid (Gr.ml_at y)
  have htk := Lib.hid (Gr.take_bd y)
  have hdo : Gr.dayOf y ((M : Int) + 1) d = Gr.ahead y + d + ((Gr.ml y).take M).sum := by unfold Gr.dayOf Gr.before; rw [show ((M : Int) + 1 - 1).toNat = M by omega]
  rw [hdo] at HC
  rw [hN1] at h
  have HDm := Lib.hid (fun w hG => (hN1 ▸ HD.out ((M : Int) + 1) w hG : Calls Tryo.prog 84 #[.int .i64 y, .int .i64 ((M : Int) + 1)] w fun e w' => e = .returned (.int .i64 N) ∧ Below w.heap.size w w'))
  clear hN1 hN
  clear hdo
  generalize Gr.ahead y = A at *
  have g1 : decide (d < 1) = false := by simp; omega
  go_enter Tryo.func41, Tryz.ntmps41
  go_wp2_with fail
  refine settle (fun W => W.cell? ⟨w.heap.size, 0, none⟩ = some (.int .i64 y) ∧ W.cell? ⟨w.heap.size, 1, none⟩ = some (.int .i64 ((M : Int) + 1)) ∧ W.cell? ⟨w.heap.size, 2, none⟩ = some (.int .i64 d) ∧ w.heap.size < W.heap.size ∧ Below w.heap.size w W ∧ Tab W 4 Gr.gregCells) ⟨by simp [go_sem], by simp [go_sem], by simp [go_sem], by simp, ba _ _, Tab.below hG (ba _ _)⟩ ?_
  rintro W0 ⟨c0, c1, c2, cs, hB0, hG0⟩
  refine wp_region_class (by kernel_rfl) (by kernel_rfl) (fun hall => ?_)
  repeat (first | go_big_quiet_skip | (go_big_quiet_want; first | (refine quiet_load1 _ _ _ rfl rfl ?_ ?_ ?_; (focus (intro _; simp; done)); (focus (first | assumption | omega | (simp; done) | (simp; omega))); apply Exists.intro; refine ⟨?_, ?_⟩; assumption; go_simp; go_big_quiet_on) | (refine quiet_load2 _ _ _ _ rfl rfl ?_ ?_ ?_ ?_; (focus (intro _; simp; done)); (focus (intro _; simp; done)); (focus (first | assumption | omega | (simp; done) | (simp; omega))); apply Exists.intro; apply Exists.intro; refine ⟨?_, ?_, ?_⟩; assumption; assumption; go_simp; go_big_quiet_on) | (refine quiet_load3 _ _ _ _ rfl rfl ?_ ?_ ?_ ?_; (focus (intro _; simp; done)); (focus (intro _; simp; done)); (focus (first | assumption | omega | (simp; done) | (simp; omega))); apply Exists.intro; apply Exists.intro; apply Exists.intro; refine ⟨?_, ?_, ?_, ?_⟩; assumption; assumption; assumption; go_simp; go_big_quiet_on) | (refine quiet_load4 _ _ _ _ rfl rfl ?_ ?_ ?_ ?_; (focus (intro _; simp; done)); (focus (intro _; simp; done)); (focus (first | assumption | omega | (simp; done) | (simp; omega))); apply Exists.intro; apply Exists.intro; apply Exists.intro; apply Exists.intro; refine ⟨?_, ?_, ?_, ?_, ?_⟩; assumption; assumption; assumption; assumption; go_simp; go_big_quiet_on) | (go_big_quiet_op; first | go_big_quiet_on | (apply Exists.intro; refine ⟨fun x hx => ?_, ?_⟩; (first | exact call_below hx (HDm.out x (Tab.below hG0 hx))); go_big_quiet_on))))
  refine wpQuiet_nil ?_
  clear hall
  intro x1 hx1
  have k0 := (hx1.cell (p := ⟨w.heap.size, 0, none⟩) cs).trans c0
  have k1 := (hx1.cell (p := ⟨w.heap.size, 1, none⟩) cs).trans c1
  have k2 := (hx1.cell (p := ⟨w.heap.size, 2, none⟩) cs).trans c2
  have ks : w.heap.size < x1.heap.size := Nat.lt_of_lt_of_le cs hx1.size
  have hB1 : Below w.heap.size w x1 := bt hB0 hx1
  clear c0 c1 c2 cs
  go_wp2_with fail
  refine wp_region_class (by kernel_rfl) (by kernel_rfl) (fun hall => ?_)
  repeat (first | go_big_quiet_skip | (go_big_quiet_want; first | (refine quiet_load1 _ _ _ rfl rfl ?_ ?_ ?_; (focus (intro _; simp; done)); (focus (first | assumption | omega | (simp; done) | (simp; omega))); apply Exists.intro; refine ⟨?_, ?_⟩; assumption; go_simp; go_big_quiet_on) | (refine quiet_load2 _ _ _ _ rfl rfl ?_ ?_ ?_ ?_; (focus (intro _; simp; done)); (focus (intro _; simp; done)); (focus (first | assumption | omega | (simp; done) | (simp; omega))); apply Exists.intro; apply Exists.intro; refine ⟨?_, ?_, ?_⟩; assumption; assumption; go_simp; go_big_quiet_on) | (refine quiet_load3 _ _ _ _ rfl rfl ?_ ?_ ?_ ?_; (focus (intro _; simp; done)); (focus (intro _; simp; done)); (focus (first | assumption | omega | (simp; done) | (simp; omega))); apply Exists.intro; apply Exists.intro; apply Exists.intro; refine ⟨?_, ?_, ?_, ?_⟩; assumption; assumption; assumption; go_simp; go_big_quiet_on) | (refine quiet_load4 _ _ _ _ rfl rfl ?_ ?_ ?_ ?_; (focus (intro _; simp; done)); (focus (intro _; simp; done)); (focus (first | assumption | omega | (simp; done) | (simp; omega))); apply Exists.intro; apply Exists.intro; apply Exists.intro; apply Exists.intro; refine ⟨?_, ?_, ?_, ?_, ?_⟩; assumption; assumption; assumption; assumption; go_simp; go_big_quiet_on) | (go_big_quiet_op; first | go_big_quiet_on | (apply Exists.intro; refine ⟨fun x hx => ?_, ?_⟩; (first | exact call_same hx (HA.out x)); go_big_quiet_on))))
  refine wpQuiet_nil ?_
  clear hall
  intro x2 hx2
  have c0 := (hx2.cell (p := ⟨w.heap.size, 0, none⟩) ks).trans k0
  have c1 := (hx2.cell (p := ⟨w.heap.size, 1, none⟩) ks).trans k1
  have cs : w.heap.size < x2.heap.size := Nat.lt_of_lt_of_le ks hx2.size
  have hB2 : Below w.heap.size w x2 := bt hB1 hx2
  clear k0 k1 k2 ks hx1 hx2
  go_wp2_with fail
  go_loopw [4, 5] (fun s i wr => ∃ j : Nat, j ≤ M ∧ i = .int .i64 ((j : Int) + 1) ∧ s = .int .i64 (A + d + ((Gr.ml y).take j).sum) ∧ wr.cell? ⟨w.heap.size, 0, none⟩ = some (.int .i64 y) ∧ wr.cell? ⟨w.heap.size, 1, none⟩ = some (.int .i64 ((M : Int) + 1)) ∧ w.heap.size < wr.heap.size ∧ Below w.heap.size w wr) (fun _ i _ => M + 1 - (intOf i).toNat)
  case atStart => exact ⟨0, by omega, rfl, by simp, c0, c1, cs, hB2⟩
  case round =>
    obtain ⟨j, hj, rfl, rfl, e0, e1, es, hB⟩ := hrel
    clear c0 c1 cs hB2 hB1 hB0 hG0
    have tb := htk.out j (by omega)
    by_cases c : j < M
    · obtain ⟨x, x1', x2', x3, x4⟩ := hat.out j (by omega)
      have tn := sum_take (Gr.ml y) j x x1'
      have HDj := Lib.hid (fun w hG => (x2' ▸ HD.out ((j : Int) + 1) w hG : Calls Tryo.prog 84 #[.int .i64 y, .int .i64 ((j : Int) + 1)] w fun e w' => e = .returned (.int .i64 x) ∧ Below w.heap.size w w'))
      have HS := Lib.hid tn
      clear tn x1' x2'
      generalize hS : ((Gr.ml y).take j).sum = S at *
      go_wp2_with fail
      refine (HDj.out _ (Tab.below hG hB)).mono ?_
      rintro e w5 ⟨rfl, hb5⟩
      have e0' := (hb5.cell (p := ⟨w.heap.size, 0, none⟩) es).trans e0
      have e1' := (hb5.cell (p := ⟨w.heap.size, 1, none⟩) es).trans e1
      have es' := Nat.lt_of_lt_of_le es hb5.size
      have hB5 := bt hB hb5
      go_wp2_with fail
      go_roundw
      case rel => exact ⟨j + 1, by omega, by simp, by rw [HS.out]; simp; omega, e0', e1', es', hB5⟩
      case measure => simp [intOf]; omega
    · obtain rfl : j = M := by omega
      clear c
      generalize hS : ((Gr.ml y).take j).sum = S at *
      go_wp2_with fail
      refine (HC.out _).mono ?_
      rintro e w5 ⟨rfl, hb5⟩
      go_wp2_with fail
      subst hS
      go_ret2
      exact ⟨rfl, bt hB hb5⟩
end Go.Proofs.YtaaaalbgjpjgoaaGreatDoor
end
section
/- Layer 11: the day of a Gregorian date, at any input. -/
namespace Go.Proofs.YtaaaalbgjpjgoaaGreatDoor
open Go.ChangeShapes Go.WideShapes Go.ChangeAt Go.RowKit
set_option linter.unusedVariables false
set_option maxRecDepth 100000
namespace Gr
def gtE (y m d : Int) : Int := if y < -4000 ∨ 7000 < y then 2 else if m < 1 ∨ 12 < m then 3 else if d < 1 ∨ days y m < d then 4 else if dayOf y m d < -1373427 ∨ 2278650 < dayOf y m d then 2 else 0
def gtV (y m d : Int) : Int := if gtE y m d = 0 then dayOf y m d else 0
end Gr
theorem greg_ToDay (y m d : Int) (w : World) (hG : Tab w 4 Gr.gregCells) :
    Calls Tryo.prog 41 #[.agg #[.int .i64 y, .int .i64 m, .int .i64 d]] w fun e w' => e = .returned (.tuple #[.int .i64 (Gr.gtV y m d), .int .i64 (Gr.gtE y m d)]) ∧ Below w.heap.size w w' := by
  by_cases c1 : y < -4000 ∨ 7000 < y
  · have e : Gr.gtE y m d = 2 := by unfold Gr.gtE; rw [if_pos c1]
    rw [show Gr.gtV y m d = 0 by unfold Gr.gtV; rw [e, if_neg (by omega)], e]
    by_cases h : y < -4000
    · exact greg_ToDay_y1 y m d w hG h
    · exact greg_ToDay_y2 y m d w hG (by omega) (by omega)
  by_cases c2 : m < 1 ∨ 12 < m
  · have e : Gr.gtE y m d = 3 := by unfold Gr.gtE; rw [if_neg c1, if_pos c2]
    rw [show Gr.gtV y m d = 0 by unfold Gr.gtV; rw [e, if_neg (by omega)], e]
    by_cases h : m < 1
    · exact greg_ToDay_m1 y m d w hG (by omega) (by omega) h
    · exact greg_ToDay_m2 y m d w hG (by omega) (by omega) (by omega) (by omega)
  by_cases c3 : d < 1 ∨ Gr.days y m < d
  · have e : Gr.gtE y m d = 4 := by unfold Gr.gtE; rw [if_neg c1, if_neg c2, if_pos c3]
    rw [show Gr.gtV y m d = 0 by unfold Gr.gtV; rw [e, if_neg (by omega)], e]
    by_cases h : d < 1
    · exact greg_ToDay_d1 y m d w hG (by omega) (by omega) (by omega) (by omega) h
    · exact greg_ToDay_d2 y m d w hG (by omega) (by omega) (by omega) (by omega) (by omega) (by omega)
  by_cases c4 : Gr.dayOf y m d < -1373427 ∨ 2278650 < Gr.dayOf y m d
  · have e : Gr.gtE y m d = 2 := by unfold Gr.gtE; rw [if_neg c1, if_neg c2, if_neg c3, if_pos c4]
    rw [show Gr.gtV y m d = 0 by unfold Gr.gtV; rw [e, if_neg (by omega)], e]
    exact greg_ToDay_ok_out y m d w hG (by omega) (by omega) (by omega) (by omega) (by omega) (by omega) c4
  · have e : Gr.gtE y m d = 0 := by unfold Gr.gtE; rw [if_neg c1, if_neg c2, if_neg c3, if_neg c4]
    rw [show Gr.gtV y m d = Gr.dayOf y m d by unfold Gr.gtV; rw [e, if_pos rfl], e]
    exact greg_ToDay_ok_in y m d w hG (by omega) (by omega) (by omega) (by omega) (by omega) (by omega) (by omega) (by omega)
end Go.Proofs.YtaaaalbgjpjgoaaGreatDoor
end
section
/- Layer 11: the document's days of Gregorian dates, and dates of days. -/
namespace Go.Proofs.YtaaaalbgjpjgoaaGreatDoor
open Go.ChangeShapes Go.WideShapes Go.ChangeAt Go.RowKit
set_option linter.unusedVariables false
set_option maxRecDepth 100000
namespace Gr
theorem ahead_up (y : Int) : ahead (y + 1) = ahead y + long y := by
  unfold ahead long leap
  by_cases a : y % 4 = 0 <;> by_cases b : y % 100 = 0 <;> by_cases c : y % 400 = 0 <;> simp [a, b, c] <;> omega
theorem long_bd (y : Int) : 365 ≤ long y ∧ long y ≤ 366 := by unfold long; split <;> omega
theorem ahead_mono (y : Int) : ∀ n : Nat, ahead y + 365 * n ≤ ahead (y + n)
  | 0 => by simp
  | n + 1 => by
    have ih := ahead_mono y n
    have := ahead_up (y + n)
    have := long_bd (y + n)
    rw [show y + ((n + 1 : Nat) : Int) = y + n + 1 by omega]
    omega
theorem ahead_le (y z : Int) (h : y ≤ z) : ahead y + 365 * (z - y) ≤ ahead z := by
  have := ahead_mono y (z - y).toNat
  rw [show y + ((z - y).toNat : Int) = z by omega] at this
  omega
theorem gY_spec (D : Int) : ahead (gY D) < D ∧ D ≤ ahead (gY D + 1) ∧ D = ahead (gY D) + leftV (D - 1) + 1 := by
  obtain ⟨a, b, c⟩ := year_spec (D - 1)
  have := ahead_up (yearV (D - 1))
  unfold gY
  omega
end Gr
end Go.Proofs.YtaaaalbgjpjgoaaGreatDoor
end
section
/- Layer 11: dates and days, as plain arithmetic; the laws' example. -/
namespace Go.Proofs.YtaaaalbgjpjgoaaGreatDoor
open Go.ChangeShapes Go.WideShapes Go.ChangeAt Go.RowKit
set_option linter.unusedVariables false
set_option maxRecDepth 100000
namespace Gr
def Valid (y m d : Int) : Prop := 1 ≤ m ∧ m ≤ 12 ∧ 1 ≤ d ∧ d ≤ days y m
theorem ml_nn (y : Int) : ∀ x ∈ ml y, 0 ≤ x := fun x hx => by have := ml_bd y x hx; omega
theorem year_one (y D : Int) (h1 : ahead y < D) (h2 : D ≤ ahead (y + 1)) : gY D = y := by
  obtain ⟨a, b, _⟩ := gY_spec D
  by_cases c : gY D < y
  · have := ahead_le (gY D + 1) y (by omega); omega
  · by_cases c' : y < gY D
    · have := ahead_le (y + 1) (gY D) (by omega); omega
    · omega
theorem date_of {y m d : Int} (h : Valid y m d) : gY (dayOf y m d) = y ∧ gF (dayOf y m d) = (m, d, true) := by
  obtain ⟨h1, h2, h3, h4⟩ := h
  obtain ⟨x, e1, e2, e3, e4⟩ := ml_at y (m - 1).toNat (by omega)
  rw [show (((m - 1).toNat : Nat) : Int) + 1 = m by omega] at e2
  have t1 := take_bd y (m - 1).toNat (by omega)
  have t2 := sum_take (ml y) (m - 1).toNat x e1
  have t3 := D10.take_mono (ml y) (ml_nn y) ((m - 1).toNat + 1) (12 - ((m - 1).toNat + 1))
  rw [show (m - 1).toNat + 1 + (12 - ((m - 1).toNat + 1)) = 12 by omega, List.take_of_length_le (show (ml y).length ≤ 12 from Nat.le_refl _), ml_sum] at t3
  have hu := ahead_up y
  have hd : dayOf y m d = ahead y + d + ((ml y).take (m - 1).toNat).sum := rfl
  have hy : gY (dayOf y m d) = y := year_one y _ (by omega) (by omega)
  refine ⟨hy, ?_⟩
  obtain ⟨_, _, s⟩ := gY_spec (dayOf y m d)
  have f := D10.findL_in d h3 (m - 1).toNat (ml y) 1 x (ml_nn y) e1 (by omega)
  unfold gF
  rw [hy] at s ⊢
  rw [show leftV (dayOf y m d - 1) + 1 = ((ml y).take (m - 1).toNat).sum + d by omega, f]
  simp only [Prod.mk.injEq, and_true]
  omega
theorem day_there (D : Int) : ∃ y m d, Valid y m d ∧ D = dayOf y m d := by
  obtain ⟨a, b, c⟩ := gY_spec D
  have hu := ahead_up (gY D)
  have hs := ml_sum (gY D)
  obtain ⟨j, x, q, e1, e2, e3, e4⟩ := D10.sum_there (ml (gY D)) (D - ahead (gY D)) (by omega) (by omega)
  have hj : j < 12 := (List.getElem?_eq_some_iff.1 e1).1
  obtain ⟨x', f1, f2, _⟩ := ml_at (gY D) j hj
  rw [e1] at f1
  cases f1
  refine ⟨gY D, (j : Int) + 1, q, ⟨by omega, by omega, e2, by omega⟩, ?_⟩
  unfold dayOf before
  rw [show ((j : Int) + 1 - 1).toNat = j by omega]
  omega
theorem year_in {y m d : Int} (h : Valid y m d) (b1 : -1373427 ≤ dayOf y m d) (b2 : dayOf y m d ≤ 2278650) : -4000 ≤ y ∧ y ≤ 6500 := by
  obtain ⟨h1, h2, h3, h4⟩ := h
  have t1 := take_bd y (m - 1).toNat (by omega)
  have hd : dayOf y m d = ahead y + d + ((ml y).take (m - 1).toNat).sum := rfl
  have hdd : d ≤ 31 := by
    obtain ⟨x, e1, e2, e3, e4⟩ := ml_at y (m - 1).toNat (by omega)
    rw [show (((m - 1).toNat : Nat) : Int) + 1 = m by omega] at e2
    omega
  unfold ahead at hd
  omega
theorem gt_valid {y m d : Int} (h : Valid y m d) (b1 : -1373427 ≤ dayOf y m d) (b2 : dayOf y m d ≤ 2278650) : gtE y m d = 0 ∧ gtV y m d = dayOf y m d := by
  have hy := year_in h b1 b2
  obtain ⟨h1, h2, h3, h4⟩ := h
  have e : gtE y m d = 0 := by unfold gtE; rw [if_neg (by omega), if_neg (by omega), if_neg (by omega), if_neg (by omega)]
  exact ⟨e, by unfold gtV; rw [e, if_pos rfl]⟩
end Gr
theorem greg_FromDay_v (y m d : Int) (w : World) (hG : Tab w 4 Gr.gregCells) (hv : Gr.Valid y m d) (b1 : -1373427 ≤ Gr.dayOf y m d) (b2 : Gr.dayOf y m d ≤ 2278650) :
    Calls Tryo.prog 39 #[.int .i64 (Gr.dayOf y m d)] w fun e w' => e = .returned (.tuple #[.agg #[.int .i64 y, .int .i64 m, .int .i64 d], .int .i64 0]) ∧ Below w.heap.size w w' := by
  have := greg_FromDay_at (Gr.dayOf y m d) w hG b1 b2
  rwa [(Gr.date_of hv).1, (Gr.date_of hv).2] at this
end Go.Proofs.YtaaaalbgjpjgoaaGreatDoor
end
