/- Layer 11: the document's days of Gregorian dates, and dates of days. -/
import Derived.Test.YtncckpfenjokmaaDoorGreg7
namespace Go.Proofs.YtncckpfenjokmaaDoor
open Go.ChangeShapes Go.WideShapes Go.ChangeAt Go.RowKit
set_option linter.unusedVariables false
set_option maxRecDepth 100000
set_option maxHeartbeats 1000000 in
theorem ref11_ToDay_y1 (y m d : Int) (w : World) (h : y < -4000) :
    Calls Tryd.prog 20 #[.agg #[.int .i64 y, .int .i64 m, .int .i64 d]] w fun e w' => e = .returned (.tuple #[.int .i64 (0), .int .i64 2]) ∧ Below w.heap.size w w' := by
  go_enter Tryd.func20, Tryd.ntmps20
  go_wp2_with fail
  go_ret2
  exact ⟨rfl, ba _ _⟩
set_option maxHeartbeats 1000000 in
theorem ref11_ToDay_y2 (y m d : Int) (w : World) (h1 : -4000 ≤ y) (h : 7000 < y) :
    Calls Tryd.prog 20 #[.agg #[.int .i64 y, .int .i64 m, .int .i64 d]] w fun e w' => e = .returned (.tuple #[.int .i64 (0), .int .i64 2]) ∧ Below w.heap.size w w' := by
  go_enter Tryd.func20, Tryd.ntmps20
  go_wp2_with fail
  go_ret2
  exact ⟨rfl, ba _ _⟩
set_option maxHeartbeats 1000000 in
theorem ref11_ToDay_m1 (y m d : Int) (w : World) (h1 : -4000 ≤ y) (h2 : y ≤ 7000) (h : m < 1) :
    Calls Tryd.prog 20 #[.agg #[.int .i64 y, .int .i64 m, .int .i64 d]] w fun e w' => e = .returned (.tuple #[.int .i64 (0), .int .i64 3]) ∧ Below w.heap.size w w' := by
  go_enter Tryd.func20, Tryd.ntmps20
  go_wp2_with fail
  go_ret2
  exact ⟨rfl, ba _ _⟩
set_option maxHeartbeats 1000000 in
theorem ref11_ToDay_m2 (y m d : Int) (w : World) (h1 : -4000 ≤ y) (h2 : y ≤ 7000) (h3 : 1 ≤ m) (h : 12 < m) :
    Calls Tryd.prog 20 #[.agg #[.int .i64 y, .int .i64 m, .int .i64 d]] w fun e w' => e = .returned (.tuple #[.int .i64 (0), .int .i64 3]) ∧ Below w.heap.size w w' := by
  go_enter Tryd.func20, Tryd.ntmps20
  go_wp2_with fail
  go_ret2
  exact ⟨rfl, ba _ _⟩
set_option maxHeartbeats 1000000 in
theorem ref11_ToDay_d1 (y m d : Int) (w : World) (h1 : -4000 ≤ y) (h2 : y ≤ 7000) (h3 : 1 ≤ m) (h4 : m ≤ 12) (h : d < 1) :
    Calls Tryd.prog 20 #[.agg #[.int .i64 y, .int .i64 m, .int .i64 d]] w fun e w' => e = .returned (.tuple #[.int .i64 (0), .int .i64 4]) ∧ Below w.heap.size w w' := by
  have g1 : decide (d < 1) = true := by simpa using h
  go_enter Tryd.func20, Tryd.ntmps20
  go_wp2_with fail
  refine settle (fun W => W.cell? ⟨w.heap.size, 0, none⟩ = some (.int .i64 y) ∧ W.cell? ⟨w.heap.size, 1, none⟩ = some (.int .i64 m) ∧ W.cell? ⟨w.heap.size, 2, none⟩ = some (.int .i64 d) ∧ w.heap.size < W.heap.size ∧ Below w.heap.size w W) ⟨by simp [go_sem], by simp [go_sem], by simp [go_sem], by simp, ba _ _⟩ ?_
  rintro W0 ⟨c0, c1, c2, cs, hB0⟩
  refine wp_region_class (by kernel_rfl) (by kernel_rfl) (fun hall => ?_)
  repeat (first | go_big_quiet_skip | (go_big_quiet_want; first | (refine quiet_load1 _ _ _ rfl rfl ?_ ?_ ?_; (focus (intro _; simp; done)); (focus (first | assumption | omega | (simp; done) | (simp; omega))); apply Exists.intro; refine ⟨?_, ?_⟩; assumption; go_simp; go_big_quiet_on) | (refine quiet_load2 _ _ _ _ rfl rfl ?_ ?_ ?_ ?_; (focus (intro _; simp; done)); (focus (intro _; simp; done)); (focus (first | assumption | omega | (simp; done) | (simp; omega))); apply Exists.intro; apply Exists.intro; refine ⟨?_, ?_, ?_⟩; assumption; assumption; go_simp; go_big_quiet_on) | (refine quiet_load3 _ _ _ _ rfl rfl ?_ ?_ ?_ ?_; (focus (intro _; simp; done)); (focus (intro _; simp; done)); (focus (first | assumption | omega | (simp; done) | (simp; omega))); apply Exists.intro; apply Exists.intro; apply Exists.intro; refine ⟨?_, ?_, ?_, ?_⟩; assumption; assumption; assumption; go_simp; go_big_quiet_on) | (refine quiet_load4 _ _ _ _ rfl rfl ?_ ?_ ?_ ?_; (focus (intro _; simp; done)); (focus (intro _; simp; done)); (focus (first | assumption | omega | (simp; done) | (simp; omega))); apply Exists.intro; apply Exists.intro; apply Exists.intro; apply Exists.intro; refine ⟨?_, ?_, ?_, ?_, ?_⟩; assumption; assumption; assumption; assumption; go_simp; go_big_quiet_on) | (go_big_quiet_op; first | go_big_quiet_on | (apply Exists.intro; refine ⟨fun x hx => ?_, ?_⟩; (first | fail); go_big_quiet_on))))
  refine wpQuiet_nil ?_
  clear hall
  intro x1 hx1
  go_wp2_with fail
  go_ret2
  exact ⟨rfl, bt hB0 hx1⟩
set_option maxHeartbeats 1000000 in
theorem ref11_ToDay_d2 (y m d : Int) (w : World) (h1 : -4000 ≤ y) (h2 : y ≤ 7000) (h3 : 1 ≤ m) (h4 : m ≤ 12) (h5 : 1 ≤ d) (h : Gr.days y m < d) :
    Calls Tryd.prog 20 #[.agg #[.int .i64 y, .int .i64 m, .int .i64 d]] w fun e w' => e = .returned (.tuple #[.int .i64 (0), .int .i64 4]) ∧ Below w.heap.size w w' := by
  have HD := Lib.hid (fun i w => ref11_Days y i w ⟨by omega, by omega⟩)
  have g1 : decide (d < 1) = false := by simp; omega
  generalize hN : Gr.days y m = N at *
  have HDm := Lib.hid (fun w => (hN ▸ HD.out m w : Calls Tryd.prog 27 #[.int .i64 y, .int .i64 m] w fun e w' => e = .returned (.int .i64 N) ∧ Below w.heap.size w w'))
  clear hN
  go_enter Tryd.func20, Tryd.ntmps20
  go_wp2_with fail
  refine settle (fun W => W.cell? ⟨w.heap.size, 0, none⟩ = some (.int .i64 y) ∧ W.cell? ⟨w.heap.size, 1, none⟩ = some (.int .i64 m) ∧ W.cell? ⟨w.heap.size, 2, none⟩ = some (.int .i64 d) ∧ w.heap.size < W.heap.size ∧ Below w.heap.size w W) ⟨by simp [go_sem], by simp [go_sem], by simp [go_sem], by simp, ba _ _⟩ ?_
  rintro W0 ⟨c0, c1, c2, cs, hB0⟩
  refine wp_region_class (by kernel_rfl) (by kernel_rfl) (fun hall => ?_)
  repeat (first | go_big_quiet_skip | (go_big_quiet_want; first | (refine quiet_load1 _ _ _ rfl rfl ?_ ?_ ?_; (focus (intro _; simp; done)); (focus (first | assumption | omega | (simp; done) | (simp; omega))); apply Exists.intro; refine ⟨?_, ?_⟩; assumption; go_simp; go_big_quiet_on) | (refine quiet_load2 _ _ _ _ rfl rfl ?_ ?_ ?_ ?_; (focus (intro _; simp; done)); (focus (intro _; simp; done)); (focus (first | assumption | omega | (simp; done) | (simp; omega))); apply Exists.intro; apply Exists.intro; refine ⟨?_, ?_, ?_⟩; assumption; assumption; go_simp; go_big_quiet_on) | (refine quiet_load3 _ _ _ _ rfl rfl ?_ ?_ ?_ ?_; (focus (intro _; simp; done)); (focus (intro _; simp; done)); (focus (first | assumption | omega | (simp; done) | (simp; omega))); apply Exists.intro; apply Exists.intro; apply Exists.intro; refine ⟨?_, ?_, ?_, ?_⟩; assumption; assumption; assumption; go_simp; go_big_quiet_on) | (refine quiet_load4 _ _ _ _ rfl rfl ?_ ?_ ?_ ?_; (focus (intro _; simp; done)); (focus (intro _; simp; done)); (focus (first | assumption | omega | (simp; done) | (simp; omega))); apply Exists.intro; apply Exists.intro; apply Exists.intro; apply Exists.intro; refine ⟨?_, ?_, ?_, ?_, ?_⟩; assumption; assumption; assumption; assumption; go_simp; go_big_quiet_on) | (go_big_quiet_op; first | go_big_quiet_on | (apply Exists.intro; refine ⟨fun x hx => ?_, ?_⟩; (first | exact call_below hx (HDm.out x)); go_big_quiet_on))))
  refine wpQuiet_nil ?_
  clear hall
  intro x1 hx1
  go_wp2_with fail
  go_ret2
  exact ⟨rfl, bt hB0 hx1⟩
set_option maxHeartbeats 1000000 in
theorem ref11_ToDay_ok_in (y m d : Int) (w : World) (h1 : -4000 ≤ y) (h2 : y ≤ 7000) (h3 : 1 ≤ m) (h4 : m ≤ 12) (h5 : 1 ≤ d) (h : d ≤ Gr.days y m) (b1 : -1373427 ≤ Gr.dayOf y m d) (b2 : Gr.dayOf y m d ≤ 2278650) :
    Calls Tryd.prog 20 #[.agg #[.int .i64 y, .int .i64 m, .int .i64 d]] w fun e w' => e = .returned (.tuple #[.int .i64 (Gr.dayOf y m d), .int .i64 0]) ∧ Below w.heap.size w w' := by
  have HD := Lib.hid (fun i w => ref11_Days y i w ⟨by omega, by omega⟩)
  have HC0 := fun w => ref11_in (Gr.dayOf y m d) w
  rw [show (decide (-1373427 ≤ Gr.dayOf y m d) && decide (Gr.dayOf y m d ≤ 2278650)) = true by simp [b1, b2]] at HC0
  have HC := Lib.hid HC0
  clear HC0 b1 b2
  obtain ⟨M, hM, hM2⟩ : ∃ M : Nat, m = (M : Int) + 1 ∧ M < 12 := ⟨(m - 1).toNat, by omega, by omega⟩
  subst hM
  obtain ⟨N, hN, hN1, hN2, hN3⟩ := Gr.ml_at y M hM2
  have hab := Gr.ahead_bd y h1 h2
  have HA := Lib.hid (fun w => ref11_ahead y w (by omega) (by omega))
  have hat := Lib.hid (Gr.ml_at y)
  have htk := Lib.hid (Gr.take_bd y)
  have hdo : Gr.dayOf y ((M : Int) + 1) d = Gr.ahead y + d + ((Gr.ml y).take M).sum := by unfold Gr.dayOf Gr.before; rw [show ((M : Int) + 1 - 1).toNat = M by omega]
  rw [hdo] at HC
  rw [hN1] at h
  have HDm := Lib.hid (fun w => (hN1 ▸ HD.out ((M : Int) + 1) w : Calls Tryd.prog 27 #[.int .i64 y, .int .i64 ((M : Int) + 1)] w fun e w' => e = .returned (.int .i64 N) ∧ Below w.heap.size w w'))
  clear hN1 hN
  rw [hdo]
  clear hdo
  generalize Gr.ahead y = A at *
  have g1 : decide (d < 1) = false := by simp; omega
  go_enter Tryd.func20, Tryd.ntmps20
  go_wp2_with fail
  refine settle (fun W => W.cell? ⟨w.heap.size, 0, none⟩ = some (.int .i64 y) ∧ W.cell? ⟨w.heap.size, 1, none⟩ = some (.int .i64 ((M : Int) + 1)) ∧ W.cell? ⟨w.heap.size, 2, none⟩ = some (.int .i64 d) ∧ w.heap.size < W.heap.size ∧ Below w.heap.size w W) ⟨by simp [go_sem], by simp [go_sem], by simp [go_sem], by simp, ba _ _⟩ ?_
  rintro W0 ⟨c0, c1, c2, cs, hB0⟩
  refine wp_region_class (by kernel_rfl) (by kernel_rfl) (fun hall => ?_)
  repeat (first | go_big_quiet_skip | (go_big_quiet_want; first | (refine quiet_load1 _ _ _ rfl rfl ?_ ?_ ?_; (focus (intro _; simp; done)); (focus (first | assumption | omega | (simp; done) | (simp; omega))); apply Exists.intro; refine ⟨?_, ?_⟩; assumption; go_simp; go_big_quiet_on) | (refine quiet_load2 _ _ _ _ rfl rfl ?_ ?_ ?_ ?_; (focus (intro _; simp; done)); (focus (intro _; simp; done)); (focus (first | assumption | omega | (simp; done) | (simp; omega))); apply Exists.intro; apply Exists.intro; refine ⟨?_, ?_, ?_⟩; assumption; assumption; go_simp; go_big_quiet_on) | (refine quiet_load3 _ _ _ _ rfl rfl ?_ ?_ ?_ ?_; (focus (intro _; simp; done)); (focus (intro _; simp; done)); (focus (first | assumption | omega | (simp; done) | (simp; omega))); apply Exists.intro; apply Exists.intro; apply Exists.intro; refine ⟨?_, ?_, ?_, ?_⟩; assumption; assumption; assumption; go_simp; go_big_quiet_on) | (refine quiet_load4 _ _ _ _ rfl rfl ?_ ?_ ?_ ?_; (focus (intro _; simp; done)); (focus (intro _; simp; done)); (focus (first | assumption | omega | (simp; done) | (simp; omega))); apply Exists.intro; apply Exists.intro; apply Exists.intro; apply Exists.intro; refine ⟨?_, ?_, ?_, ?_, ?_⟩; assumption; assumption; assumption; assumption; go_simp; go_big_quiet_on) | (go_big_quiet_op; first | go_big_quiet_on | (apply Exists.intro; refine ⟨fun x hx => ?_, ?_⟩; (first | exact call_below hx (HDm.out x)); go_big_quiet_on))))
  refine wpQuiet_nil ?_
  clear hall
  intro x1 hx1
  have k0 := (hx1.cell (p := ⟨w.heap.size, 0, none⟩) cs).trans c0
  have k1 := (hx1.cell (p := ⟨w.heap.size, 1, none⟩) cs).trans c1
  have k2 := (hx1.cell (p := ⟨w.heap.size, 2, none⟩) cs).trans c2
  have ks : w.heap.size < x1.heap.size := Nat.lt_of_lt_of_le cs hx1.size
  have hB1 : Below w.heap.size w x1 := bt hB0 hx1
  clear c0 c1 c2 cs
  go_wp2_with fail
  refine wp_region_class (by kernel_rfl) (by kernel_rfl) (fun hall => ?_)
  repeat (first | go_big_quiet_skip | (go_big_quiet_want; first | (refine quiet_load1 _ _ _ rfl rfl ?_ ?_ ?_; (focus (intro _; simp; done)); (focus (first | assumption | omega | (simp; done) | (simp; omega))); apply Exists.intro; refine ⟨?_, ?_⟩; assumption; go_simp; go_big_quiet_on) | (refine quiet_load2 _ _ _ _ rfl rfl ?_ ?_ ?_ ?_; (focus (intro _; simp; done)); (focus (intro _; simp; done)); (focus (first | assumption | omega | (simp; done) | (simp; omega))); apply Exists.intro; apply Exists.intro; refine ⟨?_, ?_, ?_⟩; assumption; assumption; go_simp; go_big_quiet_on) | (refine quiet_load3 _ _ _ _ rfl rfl ?_ ?_ ?_ ?_; (focus (intro _; simp; done)); (focus (intro _; simp; done)); (focus (first | assumption | omega | (simp; done) | (simp; omega))); apply Exists.intro; apply Exists.intro; apply Exists.intro; refine ⟨?_, ?_, ?_, ?_⟩; assumption; assumption; assumption; go_simp; go_big_quiet_on) | (refine quiet_load4 _ _ _ _ rfl rfl ?_ ?_ ?_ ?_; (focus (intro _; simp; done)); (focus (intro _; simp; done)); (focus (first | assumption | omega | (simp; done) | (simp; omega))); apply Exists.intro; apply Exists.intro; apply Exists.intro; apply Exists.intro; refine ⟨?_, ?_, ?_, ?_, ?_⟩; assumption; assumption; assumption; assumption; go_simp; go_big_quiet_on) | (go_big_quiet_op; first | go_big_quiet_on | (apply Exists.intro; refine ⟨fun x hx => ?_, ?_⟩; (first | exact call_same hx (HA.out x)); go_big_quiet_on))))
  refine wpQuiet_nil ?_
  clear hall
  intro x2 hx2
  have c0 := (hx2.cell (p := ⟨w.heap.size, 0, none⟩) ks).trans k0
  have c1 := (hx2.cell (p := ⟨w.heap.size, 1, none⟩) ks).trans k1
  have cs : w.heap.size < x2.heap.size := Nat.lt_of_lt_of_le ks hx2.size
  have hB2 : Below w.heap.size w x2 := bt hB1 hx2
  clear k0 k1 k2 ks hx1 hx2
  go_wp2_with fail
  go_loopw [4, 5] (fun s i wr => ∃ j : Nat, j ≤ M ∧ i = .int .i64 ((j : Int) + 1) ∧ s = .int .i64 (A + d + ((Gr.ml y).take j).sum) ∧ wr.cell? ⟨w.heap.size, 0, none⟩ = some (.int .i64 y) ∧ wr.cell? ⟨w.heap.size, 1, none⟩ = some (.int .i64 ((M : Int) + 1)) ∧ w.heap.size < wr.heap.size ∧ Below w.heap.size w wr) (fun _ i _ => M + 1 - (intOf i).toNat)
  case atStart => exact ⟨0, by omega, rfl, by simp, c0, c1, cs, hB2⟩
  case round =>
    obtain ⟨j, hj, rfl, rfl, e0, e1, es, hB⟩ := hrel
    clear c0 c1 cs hB2 hB1 hB0
    have tb := htk.out j (by omega)
    by_cases c : j < M
    · obtain ⟨x, x1', x2', x3, x4⟩ := hat.out j (by omega)
      have tn := sum_take (Gr.ml y) j x x1'
      have HDj := Lib.hid (fun w => (x2' ▸ HD.out ((j : Int) + 1) w : Calls Tryd.prog 27 #[.int .i64 y, .int .i64 ((j : Int) + 1)] w fun e w' => e = .returned (.int .i64 x) ∧ Below w.heap.size w w'))
      have HS := Lib.hid tn
      clear tn x1' x2'
      generalize hS : ((Gr.ml y).take j).sum = S at *
      go_wp2_with fail
      refine (HDj.out _).mono ?_
      rintro e w5 ⟨rfl, hb5⟩
      have e0' := (hb5.cell (p := ⟨w.heap.size, 0, none⟩) es).trans e0
      have e1' := (hb5.cell (p := ⟨w.heap.size, 1, none⟩) es).trans e1
      have es' := Nat.lt_of_lt_of_le es hb5.size
      have hB5 := bt hB hb5
      go_wp2_with fail
      go_roundw
      case rel => exact ⟨j + 1, by omega, by simp, by rw [HS.out]; simp; omega, e0', e1', es', hB5⟩
      case measure => simp [intOf]; omega
    · obtain rfl : j = M := by omega
      clear c
      generalize hS : ((Gr.ml y).take j).sum = S at *
      go_wp2_with fail
      refine (HC.out _).mono ?_
      rintro e w5 ⟨rfl, hb5⟩
      go_wp2_with fail
      subst hS
      go_ret2
      exact ⟨rfl, bt hB hb5⟩
set_option maxHeartbeats 1000000 in
theorem ref11_ToDay_ok_out (y m d : Int) (w : World) (h1 : -4000 ≤ y) (h2 : y ≤ 7000) (h3 : 1 ≤ m) (h4 : m ≤ 12) (h5 : 1 ≤ d) (h : d ≤ Gr.days y m) (b : Gr.dayOf y m d < -1373427 ∨ 2278650 < Gr.dayOf y m d) :
    Calls Tryd.prog 20 #[.agg #[.int .i64 y, .int .i64 m, .int .i64 d]] w fun e w' => e = .returned (.tuple #[.int .i64 (0), .int .i64 2]) ∧ Below w.heap.size w w' := by
  have HD := Lib.hid (fun i w => ref11_Days y i w ⟨by omega, by omega⟩)
  have HC0 := fun w => ref11_in (Gr.dayOf y m d) w
  rw [show (decide (-1373427 ≤ Gr.dayOf y m d) && decide (Gr.dayOf y m d ≤ 2278650)) = false by simp only [Bool.and_eq_false_iff, decide_eq_false_iff_not]; omega] at HC0
  have HC := Lib.hid HC0
  clear HC0 b
  obtain ⟨M, hM, hM2⟩ : ∃ M : Nat, m = (M : Int) + 1 ∧ M < 12 := ⟨(m - 1).toNat, by omega, by omega⟩
  subst hM
  obtain ⟨N, hN, hN1, hN2, hN3⟩ := Gr.ml_at y M hM2
  have hab := Gr.ahead_bd y h1 h2
  have HA := Lib.hid (fun w => ref11_ahead y w (by omega) (by omega))
  have hat := Lib.hid (Gr.ml_at y)
  have htk := Lib.hid (Gr.take_bd y)
  have hdo : Gr.dayOf y ((M : Int) + 1) d = Gr.ahead y + d + ((Gr.ml y).take M).sum := by unfold Gr.dayOf Gr.before; rw [show ((M : Int) + 1 - 1).toNat = M by omega]
  rw [hdo] at HC
  rw [hN1] at h
  have HDm := Lib.hid (fun w => (hN1 ▸ HD.out ((M : Int) + 1) w : Calls Tryd.prog 27 #[.int .i64 y, .int .i64 ((M : Int) + 1)] w fun e w' => e = .returned (.int .i64 N) ∧ Below w.heap.size w w'))
  clear hN1 hN
  clear hdo
  generalize Gr.ahead y = A at *
  have g1 : decide (d < 1) = false := by simp; omega
  go_enter Tryd.func20, Tryd.ntmps20
  go_wp2_with fail
  refine settle (fun W => W.cell? ⟨w.heap.size, 0, none⟩ = some (.int .i64 y) ∧ W.cell? ⟨w.heap.size, 1, none⟩ = some (.int .i64 ((M : Int) + 1)) ∧ W.cell? ⟨w.heap.size, 2, none⟩ = some (.int .i64 d) ∧ w.heap.size < W.heap.size ∧ Below w.heap.size w W) ⟨by simp [go_sem], by simp [go_sem], by simp [go_sem], by simp, ba _ _⟩ ?_
  rintro W0 ⟨c0, c1, c2, cs, hB0⟩
  refine wp_region_class (by kernel_rfl) (by kernel_rfl) (fun hall => ?_)
  repeat (first | go_big_quiet_skip | (go_big_quiet_want; first | (refine quiet_load1 _ _ _ rfl rfl ?_ ?_ ?_; (focus (intro _; simp; done)); (focus (first | assumption | omega | (simp; done) | (simp; omega))); apply Exists.intro; refine ⟨?_, ?_⟩; assumption; go_simp; go_big_quiet_on) | (refine quiet_load2 _ _ _ _ rfl rfl ?_ ?_ ?_ ?_; (focus (intro _; simp; done)); (focus (intro _; simp; done)); (focus (first | assumption | omega | (simp; done) | (simp; omega))); apply Exists.intro; apply Exists.intro; refine ⟨?_, ?_, ?_⟩; assumption; assumption; go_simp; go_big_quiet_on) | (refine quiet_load3 _ _ _ _ rfl rfl ?_ ?_ ?_ ?_; (focus (intro _; simp; done)); (focus (intro _; simp; done)); (focus (first | assumption | omega | (simp; done) | (simp; omega))); apply Exists.intro; apply Exists.intro; apply Exists.intro; refine ⟨?_, ?_, ?_, ?_⟩; assumption; assumption; assumption; go_simp; go_big_quiet_on) | (refine quiet_load4 _ _ _ _ rfl rfl ?_ ?_ ?_ ?_; (focus (intro _; simp; done)); (focus (intro _; simp; done)); (focus (first | assumption | omega | (simp; done) | (simp; omega))); apply Exists.intro; apply Exists.intro; apply Exists.intro; apply Exists.intro; refine ⟨?_, ?_, ?_, ?_, ?_⟩; assumption; assumption; assumption; assumption; go_simp; go_big_quiet_on) | (go_big_quiet_op; first | go_big_quiet_on | (apply Exists.intro; refine ⟨fun x hx => ?_, ?_⟩; (first | exact call_below hx (HDm.out x)); go_big_quiet_on))))
  refine wpQuiet_nil ?_
  clear hall
  intro x1 hx1
  have k0 := (hx1.cell (p := ⟨w.heap.size, 0, none⟩) cs).trans c0
  have k1 := (hx1.cell (p := ⟨w.heap.size, 1, none⟩) cs).trans c1
  have k2 := (hx1.cell (p := ⟨w.heap.size, 2, none⟩) cs).trans c2
  have ks : w.heap.size < x1.heap.size := Nat.lt_of_lt_of_le cs hx1.size
  have hB1 : Below w.heap.size w x1 := bt hB0 hx1
  clear c0 c1 c2 cs
  go_wp2_with fail
  refine wp_region_class (by kernel_rfl) (by kernel_rfl) (fun hall => ?_)
  repeat (first | go_big_quiet_skip | (go_big_quiet_want; first | (refine quiet_load1 _ _ _ rfl rfl ?_ ?_ ?_; (focus (intro _; simp; done)); (focus (first | assumption | omega | (simp; done) | (simp; omega))); apply Exists.intro; refine ⟨?_, ?_⟩; assumption; go_simp; go_big_quiet_on) | (refine quiet_load2 _ _ _ _ rfl rfl ?_ ?_ ?_ ?_; (focus (intro _; simp; done)); (focus (intro _; simp; done)); (focus (first | assumption | omega | (simp; done) | (simp; omega))); apply Exists.intro; apply Exists.intro; refine ⟨?_, ?_, ?_⟩; assumption; assumption; go_simp; go_big_quiet_on) | (refine quiet_load3 _ _ _ _ rfl rfl ?_ ?_ ?_ ?_; (focus (intro _; simp; done)); (focus (intro _; simp; done)); (focus (first | assumption | omega | (simp; done) | (simp; omega))); apply Exists.intro; apply Exists.intro; apply Exists.intro; refine ⟨?_, ?_, ?_, ?_⟩; assumption; assumption; assumption; go_simp; go_big_quiet_on) | (refine quiet_load4 _ _ _ _ rfl rfl ?_ ?_ ?_ ?_; (focus (intro _; simp; done)); (focus (intro _; simp; done)); (focus (first | assumption | omega | (simp; done) | (simp; omega))); apply Exists.intro; apply Exists.intro; apply Exists.intro; apply Exists.intro; refine ⟨?_, ?_, ?_, ?_, ?_⟩; assumption; assumption; assumption; assumption; go_simp; go_big_quiet_on) | (go_big_quiet_op; first | go_big_quiet_on | (apply Exists.intro; refine ⟨fun x hx => ?_, ?_⟩; (first | exact call_same hx (HA.out x)); go_big_quiet_on))))
  refine wpQuiet_nil ?_
  clear hall
  intro x2 hx2
  have c0 := (hx2.cell (p := ⟨w.heap.size, 0, none⟩) ks).trans k0
  have c1 := (hx2.cell (p := ⟨w.heap.size, 1, none⟩) ks).trans k1
  have cs : w.heap.size < x2.heap.size := Nat.lt_of_lt_of_le ks hx2.size
  have hB2 : Below w.heap.size w x2 := bt hB1 hx2
  clear k0 k1 k2 ks hx1 hx2
  go_wp2_with fail
  go_loopw [4, 5] (fun s i wr => ∃ j : Nat, j ≤ M ∧ i = .int .i64 ((j : Int) + 1) ∧ s = .int .i64 (A + d + ((Gr.ml y).take j).sum) ∧ wr.cell? ⟨w.heap.size, 0, none⟩ = some (.int .i64 y) ∧ wr.cell? ⟨w.heap.size, 1, none⟩ = some (.int .i64 ((M : Int) + 1)) ∧ w.heap.size < wr.heap.size ∧ Below w.heap.size w wr) (fun _ i _ => M + 1 - (intOf i).toNat)
  case atStart => exact ⟨0, by omega, rfl, by simp, c0, c1, cs, hB2⟩
  case round =>
    obtain ⟨j, hj, rfl, rfl, e0, e1, es, hB⟩ := hrel
    clear c0 c1 cs hB2 hB1 hB0
    have tb := htk.out j (by omega)
    by_cases c : j < M
    · obtain ⟨x, x1', x2', x3, x4⟩ := hat.out j (by omega)
      have tn := sum_take (Gr.ml y) j x x1'
      have HDj := Lib.hid (fun w => (x2' ▸ HD.out ((j : Int) + 1) w : Calls Tryd.prog 27 #[.int .i64 y, .int .i64 ((j : Int) + 1)] w fun e w' => e = .returned (.int .i64 x) ∧ Below w.heap.size w w'))
      have HS := Lib.hid tn
      clear tn x1' x2'
      generalize hS : ((Gr.ml y).take j).sum = S at *
      go_wp2_with fail
      refine (HDj.out _).mono ?_
      rintro e w5 ⟨rfl, hb5⟩
      have e0' := (hb5.cell (p := ⟨w.heap.size, 0, none⟩) es).trans e0
      have e1' := (hb5.cell (p := ⟨w.heap.size, 1, none⟩) es).trans e1
      have es' := Nat.lt_of_lt_of_le es hb5.size
      have hB5 := bt hB hb5
      go_wp2_with fail
      go_roundw
      case rel => exact ⟨j + 1, by omega, by simp, by rw [HS.out]; simp; omega, e0', e1', es', hB5⟩
      case measure => simp [intOf]; omega
    · obtain rfl : j = M := by omega
      clear c
      generalize hS : ((Gr.ml y).take j).sum = S at *
      go_wp2_with fail
      refine (HC.out _).mono ?_
      rintro e w5 ⟨rfl, hb5⟩
      go_wp2_with fail
      subst hS
      go_ret2
      exact ⟨rfl, bt hB hb5⟩
theorem ref11_ToDay (y m d : Int) (w : World) :
    Calls Tryd.prog 20 #[.agg #[.int .i64 y, .int .i64 m, .int .i64 d]] w fun e w' => e = .returned (.tuple #[.int .i64 (Gr.gtV y m d), .int .i64 (Gr.gtE y m d)]) ∧ Below w.heap.size w w' := by
  by_cases c1 : y < -4000 ∨ 7000 < y
  · have e : Gr.gtE y m d = 2 := by unfold Gr.gtE; rw [if_pos c1]
    rw [show Gr.gtV y m d = 0 by unfold Gr.gtV; rw [e, if_neg (by omega)], e]
    by_cases h : y < -4000
    · exact ref11_ToDay_y1 y m d w h
    · exact ref11_ToDay_y2 y m d w (by omega) (by omega)
  by_cases c2 : m < 1 ∨ 12 < m
  · have e : Gr.gtE y m d = 3 := by unfold Gr.gtE; rw [if_neg c1, if_pos c2]
    rw [show Gr.gtV y m d = 0 by unfold Gr.gtV; rw [e, if_neg (by omega)], e]
    by_cases h : m < 1
    · exact ref11_ToDay_m1 y m d w (by omega) (by omega) h
    · exact ref11_ToDay_m2 y m d w (by omega) (by omega) (by omega) (by omega)
  by_cases c3 : d < 1 ∨ Gr.days y m < d
  · have e : Gr.gtE y m d = 4 := by unfold Gr.gtE; rw [if_neg c1, if_neg c2, if_pos c3]
    rw [show Gr.gtV y m d = 0 by unfold Gr.gtV; rw [e, if_neg (by omega)], e]
    by_cases h : d < 1
    · exact ref11_ToDay_d1 y m d w (by omega) (by omega) (by omega) (by omega) h
    · exact ref11_ToDay_d2 y m d w (by omega) (by omega) (by omega) (by omega) (by omega) (by omega)
  by_cases c4 : Gr.dayOf y m d < -1373427 ∨ 2278650 < Gr.dayOf y m d
  · have e : Gr.gtE y m d = 2 := by unfold Gr.gtE; rw [if_neg c1, if_neg c2, if_neg c3, if_pos c4]
    rw [show Gr.gtV y m d = 0 by unfold Gr.gtV; rw [e, if_neg (by omega)], e]
    exact ref11_ToDay_ok_out y m d w (by omega) (by omega) (by omega) (by omega) (by omega) (by omega) c4
  · have e : Gr.gtE y m d = 0 := by unfold Gr.gtE; rw [if_neg c1, if_neg c2, if_neg c3, if_neg c4]
    rw [show Gr.gtV y m d = Gr.dayOf y m d by unfold Gr.gtV; rw [e, if_pos rfl], e]
    exact ref11_ToDay_ok_in y m d w (by omega) (by omega) (by omega) (by omega) (by omega) (by omega) (by omega) (by omega)
namespace Gr
theorem ahead_up (y : Int) : ahead (y + 1) = ahead y + long y := by
  unfold ahead long leap
  by_cases a : y % 4 = 0 <;> by_cases b : y % 100 = 0 <;> by_cases c : y % 400 = 0 <;> simp [a, b, c] <;> omega
theorem long_bd (y : Int) : 365 ≤ long y ∧ long y ≤ 366 := by unfold long; split <;> omega
theorem ahead_mono (y : Int) : ∀ n : Nat, ahead y + 365 * n ≤ ahead (y + n)
  | 0 => by simp
  | n + 1 => by
    have ih := ahead_mono y n
    have := ahead_up (y + n)
    have := long_bd (y + n)
    rw [show y + ((n + 1 : Nat) : Int) = y + n + 1 by omega]
    omega
theorem ahead_le (y z : Int) (h : y ≤ z) : ahead y + 365 * (z - y) ≤ ahead z := by
  have := ahead_mono y (z - y).toNat
  rw [show y + ((z - y).toNat : Int) = z by omega] at this
  omega
theorem gY_spec (D : Int) : ahead (gY D) < D ∧ D ≤ ahead (gY D + 1) ∧ D = ahead (gY D) + leftV (D - 1) + 1 := by
  obtain ⟨a, b, c⟩ := year_spec (D - 1)
  have := ahead_up (yearV (D - 1))
  unfold gY
  omega
theorem gY_near (D : Int) (h1 : -1373427 ≤ D) (h2 : D ≤ 2278650) : D / 366 - 20 ≤ gY D := by
  obtain ⟨_, a, _⟩ := gY_spec D
  unfold ahead at a
  omega
theorem gY_step (D y : Int) (h : y ≤ gY D) : decide (ahead (y + 1) + 1 ≤ D) = decide (y < gY D) := by
  obtain ⟨a, b, _⟩ := gY_spec D
  by_cases c : y < gY D
  · have := ahead_le (y + 1) (gY D) (by omega)
    rw [decide_eq_true c, decide_eq_true (by omega)]
  · obtain rfl : y = gY D := by omega
    rw [decide_eq_false c, decide_eq_false (by omega)]
end Gr
set_option maxHeartbeats 1000000 in
theorem ref11_FromDay_no (D : Int) (w : World) (h : D < -1373427 ∨ 2278650 < D) :
    Calls Tryd.prog 22 #[.int .i64 D] w fun e w' => e = .returned (.tuple #[.agg #[.int .i64 0, .int .i64 0, .int .i64 0], .int .i64 2]) ∧ Below w.heap.size w w' := by
  have HC0 := fun w => ref11_in D w
  rw [show (decide (-1373427 ≤ D) && decide (D ≤ 2278650)) = false by simp only [Bool.and_eq_false_iff, decide_eq_false_iff_not]; omega] at HC0
  have HC := Lib.hid HC0
  clear HC0
  go_enter Tryd.func22, Tryd.ntmps22
  go_wp2_with fail
  refine (HC.out _).mono ?_
  rintro e w1 ⟨rfl, hb1⟩
  have hR1 := Res3.below (res3_alloc w _) hb1
  have hB1 := bt (ba _ _) hb1
  clear hb1
  obtain ⟨r0, r1, r2, rf, rs⟩ := hR1
  go_wp2_with fail
  refine bodyPost_ret (v := .tuple #[.agg #[.int .i64 0, .int .i64 0, .int .i64 0], .int .i64 2]) (by simp [results, Tryd.results22, go_sem, *]) rfl ⟨rfl, ?_⟩
  iterate 3 refine Below.setCell ?_ (Nat.le_refl w.heap.size) _
  exact hB1
set_option maxHeartbeats 2000000 in
theorem ref11_FromDay_at (D : Int) (w : World) (b1 : -1373427 ≤ D) (b2 : D ≤ 2278650) :
    Calls Tryd.prog 22 #[.int .i64 D] w fun e w' => e = .returned (.tuple #[.agg #[.int .i64 (Gr.gY D), .int .i64 (Gr.gF D).1, .int .i64 (Gr.gF D).2.1], .int .i64 0]) ∧ Below w.heap.size w w' := by
  have HC0 := fun w => ref11_in D w
  rw [show (decide (-1373427 ≤ D) && decide (D ≤ 2278650)) = true by simp [b1, b2]] at HC0
  have HC := Lib.hid HC0
  clear HC0
  have HDn := Lib.hid (fun w => ref_Down_pos D 366 w ⟨by omega, by omega⟩ (by omega))
  have hY : Gr.gY D = Gr.yearV (D - 1) := rfl
  have hF : findL (Gr.ml (Gr.gY D)) 1 (Gr.leftV (D - 1) + 1) = Gr.gF D := rfl
  obtain ⟨s1, s2, s3⟩ := Gr.gY_spec D
  have near := Gr.gY_near D b1 b2
  have far : Gr.gY D - 60 ≤ D / 366 - 20 := by unfold Gr.ahead at s1; omega
  have yb : -3800 ≤ Gr.gY D ∧ Gr.gY D ≤ 6300 := by unfold Gr.ahead at s1 s2; omega
  obtain ⟨_, l0, l1⟩ := Gr.year_spec (D - 1)
  rw [← hY] at l1
  have hs := Gr.ml_sum (Gr.gY D)
  rw [← hs] at l1
  clear hs hY
  have lb : Gr.leftV (D - 1) ≤ 400 := by have := Gr.long_bd (Gr.gY D); rw [Gr.ml_sum] at l1; omega
  have stp := Lib.hid (fun y => Gr.gY_step D y)
  have hA := fun y a b => Gr.ahead_bd y a b
  have hA := Lib.hid hA
  have HA := Lib.hid (fun y w a b => ref11_ahead y w a b)
  have HD := Lib.hid (fun m w => ref11_Days (Gr.gY D) m w ⟨by omega, by omega⟩)
  have hat := Lib.hid (Gr.ml_at (Gr.gY D))
  have hlen := Gr.ml_len (Gr.gY D)
  have hAY := Gr.ahead_bd (Gr.gY D) (by omega) (by omega)
  have qb : -5000 ≤ D / 366 ∧ D / 366 ≤ 7000 := by omega
  have HAY := Lib.hid (fun w => ref11_ahead (Gr.gY D) w (by omega) (by omega))
  generalize Gr.gF D = R at *
  obtain ⟨R1, R2, R3⟩ := R
  generalize hYY : Gr.gY D = Y at *
  generalize hAA : Gr.ahead Y = A at *
  generalize Gr.leftV (D - 1) = L at *
  generalize D / 366 = Q at *
  have hS := Lib.hid l1
  have hF1 := Lib.hid hF
  have s4 := Lib.hid s3
  clear l1 s3 s1 s2 hYY hAA hF
  go_enter Tryd.func22, Tryd.ntmps22
  go_wp2_with fail
  refine (HC.out _).mono ?_
  rintro e w1 ⟨rfl, hb1⟩
  have hR1 := Res3.below (res3_alloc w _) hb1
  have hB1 := bt (ba _ _) hb1
  clear hb1
  go_wp2_with fail
  refine (HDn.out _).mono ?_
  rintro e w2 ⟨rfl, rfl⟩
  go_wp2_with fail
  go_loop [4] (fun v => ∃ k : Int, k ≤ Y ∧ Y - 60 ≤ k ∧ v = .int .i64 k) (fun v => (Y - intOf v).toNat)
  case atStart => exact ⟨Q - 20, by omega, by omega, rfl⟩
  case round =>
    obtain ⟨k, k1, k2, rfl⟩ := hrel
    have st := stp.out k (by omega)
    have ab := hA.out (k + 1) (by omega) (by omega)
    have HAk := Lib.hid (fun w => HA.out (k + 1) w (by omega) (by omega))
    by_cases c : k < Y
    · rw [decide_eq_true c] at st
      generalize Gr.ahead (k + 1) = B at *
      go_wp2_with fail
      refine (HAk.out _).mono ?_
      rintro e w3 ⟨rfl, rfl⟩
      go_wp2_with fail
      go_round
      case rel => exact ⟨k + 1, by omega, by omega, rfl⟩
      case measure => simp [intOf]; omega
    · rw [decide_eq_false c] at st
      obtain rfl : k = Y := by omega
      generalize Gr.ahead (k + 1) = B at *
      go_wp2_with fail
      refine (HAk.out _).mono ?_
      rintro e w3 ⟨rfl, rfl⟩
      go_wp2_with fail
      refine (HAY.out _).mono ?_
      rintro e w4 ⟨rfl, rfl⟩
      go_wp2_with fail
      clear st ab HAk c k1 k2 near far stp
      go_loopw [5, 6] (fun v m wr => ∃ (j : Nat) (z : Int), j < 12 ∧ m = .int .i64 ((j : Int) + 1) ∧ v = .int .i64 (z + 1) ∧ 0 ≤ z ∧ z ≤ 400 ∧ Hid (findL ((Gr.ml k).drop j) ((j : Int) + 1) (z + 1) = (R1, R2, R3)) ∧ Hid (z < ((Gr.ml k).drop j).sum) ∧ Res3 wr w.heap.size ∧ Below w.heap.size w wr) (fun _ m _ => 13 - (intOf m).toNat)
      case atStart => exact ⟨0, L, by omega, rfl, by rw [show D - A = L + 1 by have := s4.out; omega], by omega, by omega, hF1, hS, hR1, hB1⟩
      case round =>
        obtain ⟨j, z, hj, rfl, rfl, zz0, zz1, hf, hsum, hR, hB⟩ := hrel
        obtain ⟨x, x1, x2, x3, x4⟩ := hat.out j hj
        have HDj := Lib.hid (fun w => (x2 ▸ HD.out ((j : Int) + 1) w : Calls Tryd.prog 27 #[.int .i64 k, .int .i64 ((j : Int) + 1)] w fun e w' => e = .returned (.int .i64 x) ∧ Below w.heap.size w w'))
        clear x2
        by_cases c : z < x
        · have hfin := hf.out
          rw [findL_hit _ j x _ _ x1 (by omega)] at hfin
          simp only [Prod.mk.injEq] at hfin
          obtain ⟨rfl, rfl, rfl⟩ := hfin
          clear hf hF1 x1 hlen hS hat HD HC HAY HA hA HDn hsum hR1 hB1 l0 lb s4 hAY qb
          have c2 : decide (x < z + 1) = false := by simp; omega
          go_wp2_with fail
          refine (HDj.out _).mono ?_
          rintro e w5 ⟨rfl, hb5⟩
          have hR5 := Res3.below hR hb5
          have hB5 := bt hB hb5
          obtain ⟨r0, r1, r2, rf, rs⟩ := hR5
          go_wp2_with fail
          refine bodyPost_ret (v := .tuple #[.agg #[.int .i64 k, .int .i64 ((j : Int) + 1), .int .i64 (z + 1)], .int .i64 0]) (by simp [results, Tryd.results22, go_sem, *]) rfl ⟨rfl, ?_⟩
          iterate 3 refine Below.setCell ?_ (Nat.le_refl w.heap.size) _
          exact hB5
        · have hj2 : j + 1 < 12 := by
            have h0 := hsum.out
            rw [Gr.drop_sum _ j x x1] at h0
            rcases Nat.lt_or_ge (j + 1) 12 with h | h
            · exact h
            · rw [List.drop_eq_nil_of_le (by omega)] at h0
              simp at h0
              omega
          have hsum2 := Lib.hid (show z - x < ((Gr.ml k).drop (j + 1)).sum by have h0 := hsum.out; rw [Gr.drop_sum _ j x x1] at h0; omega)
          have hf2 := Lib.hid (show findL ((Gr.ml k).drop (j + 1)) (((j + 1 : Nat) : Int) + 1) (z - x + 1) = (R1, R2, R3) by
            have h0 := hf.out
            rw [findL_step _ j x _ _ x1 (by omega), show z + 1 - x = z - x + 1 by omega] at h0
            simpa using h0)
          clear hsum hf x1 hlen hS hF1 hat HD HC HAY HA hA HDn hR1 hB1 l0 lb s4 hAY qb
          have c2 : decide (x < z + 1) = true := by simp; omega
          go_wp2_with fail
          refine (HDj.out _).mono ?_
          rintro e w5 ⟨rfl, hb5⟩
          have hR5 := Res3.below hR hb5
          have hB5 := bt hB hb5
          go_wp2_with fail
          refine (HDj.out _).mono ?_
          rintro e w6 ⟨rfl, hb6⟩
          have hR6 := Res3.below hR5 hb6
          have hB6 := bt hB5 hb6
          go_wp2_with fail
          go_roundw
          case rel => exact ⟨j + 1, z - x, hj2, by simp, by rw [show z + 1 - x = z - x + 1 by omega], by omega, by omega, hf2, hsum2, hR6, hB6⟩
          case measure => simp [intOf]; omega
end Go.Proofs.YtncckpfenjokmaaDoor
