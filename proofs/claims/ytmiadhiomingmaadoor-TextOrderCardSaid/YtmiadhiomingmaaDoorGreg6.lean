/- Layer 11: the day of a Gregorian date that may be. -/
import Derived.Test.YtmiadhiomingmaaDoorGreg5
namespace Go.Proofs.YtmiadhiomingmaaDoor
open Go.ChangeShapes Go.WideShapes Go.ChangeAt Go.RowKit
set_option linter.unusedVariables false
set_option maxRecDepth 100000
set_option maxHeartbeats 1000000 in
theorem greg_ToDay_ok_in (y m d : Int) (w : World) (hG : Tab w 3 Gr.gregCells) (h1 : -4000 ≤ y) (h2 : y ≤ 7000) (h3 : 1 ≤ m) (h4 : m ≤ 12) (h5 : 1 ≤ d) (h : d ≤ Gr.days y m) (b1 : -1373427 ≤ Gr.dayOf y m d) (b2 : Gr.dayOf y m d ≤ 2278650) :
    Calls Tryd.prog 70 #[.agg #[.int .i64 y, .int .i64 m, .int .i64 d]] w fun e w' => e = .returned (.tuple #[.int .i64 (Gr.dayOf y m d), .int .i64 0]) ∧ Below w.heap.size w w' := by
  have HD := Lib.hid (fun i w hG => greg_Days y i w hG ⟨by omega, by omega⟩)
  obtain ⟨hy, y1, y2, f1, f2⟩ := year_of _ b1 b2
  have HC := Lib.hid (fun w => closed_Year_at (Gr.dayOf y m d) hy w y1 y2 f1 f2 b1 b2)
  clear f1 f2 y1 y2 b1 b2
  obtain ⟨M, hM, hM2⟩ : ∃ M : Nat, m = (M : Int) + 1 ∧ M < 12 := ⟨(m - 1).toNat, by omega, by omega⟩
  subst hM
  obtain ⟨N, hN, hN1, hN2, hN3⟩ := Gr.ml_at y M hM2
  have hab := Gr.ahead_bd y h1 h2
  have HA := Lib.hid (fun w => greg_ahead y w (by omega) (by omega))
  have hat := Lib.hid (Gr.ml_at y)
  have htk := Lib.hid (Gr.take_bd y)
  have hdo : Gr.dayOf y ((M : Int) + 1) d = Gr.ahead y + d + ((Gr.ml y).take M).sum := by unfold Gr.dayOf Gr.before; rw [show ((M : Int) + 1 - 1).toNat = M by omega]
  rw [hdo] at HC
  rw [hN1] at h
  have HDm := Lib.hid (fun w hG => (hN1 ▸ HD.out ((M : Int) + 1) w hG : Calls Tryd.prog 103 #[.int .i64 y, .int .i64 ((M : Int) + 1)] w fun e w' => e = .returned (.int .i64 N) ∧ Below w.heap.size w w'))
  clear hN1 hN
  rw [hdo]
  clear hdo
  generalize Gr.ahead y = A at *
  have g1 : decide (d < 1) = false := by simp; omega
  go_enter Tryd.func70, Tryd.ntmps70
  go_wp2_with fail
  refine settle (fun W => W.cell? ⟨w.heap.size, 0, none⟩ = some (.int .i64 y) ∧ W.cell? ⟨w.heap.size, 1, none⟩ = some (.int .i64 ((M : Int) + 1)) ∧ W.cell? ⟨w.heap.size, 2, none⟩ = some (.int .i64 d) ∧ w.heap.size < W.heap.size ∧ Below w.heap.size w W ∧ Tab W 3 Gr.gregCells) ⟨by simp [go_sem], by simp [go_sem], by simp [go_sem], by simp, ba _ _, Tab.below hG (ba _ _)⟩ ?_
  rintro W0 ⟨c0, c1, c2, cs, hB0, hG0⟩
  refine wp_region_class (by kernel_rfl) (by kernel_rfl) (fun hall => ?_)
  repeat (first | go_big_quiet_skip | (go_big_quiet_want; first | (refine quiet_load1 _ _ _ rfl rfl ?_ ?_ ?_; (focus (intro _; simp; done)); (focus (first | assumption | omega | (simp; done) | (simp; omega))); apply Exists.intro; refine ⟨?_, ?_⟩; assumption; go_simp; go_big_quiet_on) | (refine quiet_load2 _ _ _ _ rfl rfl ?_ ?_ ?_ ?_; (focus (intro _; simp; done)); (focus (intro _; simp; done)); (focus (first | assumption | omega | (simp; done) | (simp; omega))); apply Exists.intro; apply Exists.intro; refine ⟨?_, ?_, ?_⟩; assumption; assumption; go_simp; go_big_quiet_on) | (refine quiet_load3 _ _ _ _ rfl rfl ?_ ?_ ?_ ?_; (focus (intro _; simp; done)); (focus (intro _; simp; done)); (focus (first | assumption | omega | (simp; done) | (simp; omega))); apply Exists.intro; apply Exists.intro; apply Exists.intro; refine ⟨?_, ?_, ?_, ?_⟩; assumption; assumption; assumption; go_simp; go_big_quiet_on) | (refine quiet_load4 _ _ _ _ rfl rfl ?_ ?_ ?_ ?_; (focus (intro _; simp; done)); (focus (intro _; simp; done)); (focus (first | assumption | omega | (simp; done) | (simp; omega))); apply Exists.intro; apply Exists.intro; apply Exists.intro; apply Exists.intro; refine ⟨?_, ?_, ?_, ?_, ?_⟩; assumption; assumption; assumption; assumption; go_simp; go_big_quiet_on) | (go_big_quiet_op; first | go_big_quiet_on | (apply Exists.intro; refine ⟨fun x hx => ?_, ?_⟩; (first | exact call_below hx (HDm.out x (Tab.below hG0 hx))); go_big_quiet_on))))
  refine wpQuiet_nil ?_
  clear hall
  intro x1 hx1
  have k0 := (hx1.cell (p := ⟨w.heap.size, 0, none⟩) cs).trans c0
  have k1 := (hx1.cell (p := ⟨w.heap.size, 1, none⟩) cs).trans c1
  have k2 := (hx1.cell (p := ⟨w.heap.size, 2, none⟩) cs).trans c2
  have ks : w.heap.size < x1.heap.size := Nat.lt_of_lt_of_le cs hx1.size
  have hB1 : Below w.heap.size w x1 := bt hB0 hx1
  clear c0 c1 c2 cs
  go_wp2_with fail
  refine wp_region_class (by kernel_rfl) (by kernel_rfl) (fun hall => ?_)
  repeat (first | go_big_quiet_skip | (go_big_quiet_want; first | (refine quiet_load1 _ _ _ rfl rfl ?_ ?_ ?_; (focus (intro _; simp; done)); (focus (first | assumption | omega | (simp; done) | (simp; omega))); apply Exists.intro; refine ⟨?_, ?_⟩; assumption; go_simp; go_big_quiet_on) | (refine quiet_load2 _ _ _ _ rfl rfl ?_ ?_ ?_ ?_; (focus (intro _; simp; done)); (focus (intro _; simp; done)); (focus (first | assumption | omega | (simp; done) | (simp; omega))); apply Exists.intro; apply Exists.intro; refine ⟨?_, ?_, ?_⟩; assumption; assumption; go_simp; go_big_quiet_on) | (refine quiet_load3 _ _ _ _ rfl rfl ?_ ?_ ?_ ?_; (focus (intro _; simp; done)); (focus (intro _; simp; done)); (focus (first | assumption | omega | (simp; done) | (simp; omega))); apply Exists.intro; apply Exists.intro; apply Exists.intro; refine ⟨?_, ?_, ?_, ?_⟩; assumption; assumption; assumption; go_simp; go_big_quiet_on) | (refine quiet_load4 _ _ _ _ rfl rfl ?_ ?_ ?_ ?_; (focus (intro _; simp; done)); (focus (intro _; simp; done)); (focus (first | assumption | omega | (simp; done) | (simp; omega))); apply Exists.intro; apply Exists.intro; apply Exists.intro; apply Exists.intro; refine ⟨?_, ?_, ?_, ?_, ?_⟩; assumption; assumption; assumption; assumption; go_simp; go_big_quiet_on) | (go_big_quiet_op; first | go_big_quiet_on | (apply Exists.intro; refine ⟨fun x hx => ?_, ?_⟩; (first | exact call_same hx (HA.out x)); go_big_quiet_on))))
  refine wpQuiet_nil ?_
  clear hall
  intro x2 hx2
  have c0 := (hx2.cell (p := ⟨w.heap.size, 0, none⟩) ks).trans k0
  have c1 := (hx2.cell (p := ⟨w.heap.size, 1, none⟩) ks).trans k1
  have cs : w.heap.size < x2.heap.size := Nat.lt_of_lt_of_le ks hx2.size
  have hB2 : Below w.heap.size w x2 := bt hB1 hx2
  clear k0 k1 k2 ks hx1 hx2
  go_wp2_with fail
  go_loopw [4, 5] (fun s i wr => ∃ j : Nat, j ≤ M ∧ i = .int .i64 ((j : Int) + 1) ∧ s = .int .i64 (A + d + ((Gr.ml y).take j).sum) ∧ wr.cell? ⟨w.heap.size, 0, none⟩ = some (.int .i64 y) ∧ wr.cell? ⟨w.heap.size, 1, none⟩ = some (.int .i64 ((M : Int) + 1)) ∧ w.heap.size < wr.heap.size ∧ Below w.heap.size w wr) (fun _ i _ => M + 1 - (intOf i).toNat)
  case atStart => exact ⟨0, by omega, rfl, by simp, c0, c1, cs, hB2⟩
  case round =>
    obtain ⟨j, hj, rfl, rfl, e0, e1, es, hB⟩ := hrel
    clear c0 c1 cs hB2 hB1 hB0 hG0
    have tb := htk.out j (by omega)
    by_cases c : j < M
    · obtain ⟨x, x1', x2', x3, x4⟩ := hat.out j (by omega)
      have tn := sum_take (Gr.ml y) j x x1'
      have HDj := Lib.hid (fun w hG => (x2' ▸ HD.out ((j : Int) + 1) w hG : Calls Tryd.prog 103 #[.int .i64 y, .int .i64 ((j : Int) + 1)] w fun e w' => e = .returned (.int .i64 x) ∧ Below w.heap.size w w'))
      have HS := Lib.hid tn
      clear tn x1' x2'
      generalize hS : ((Gr.ml y).take j).sum = S at *
      go_wp2_with fail
      refine (HDj.out _ (Tab.below hG hB)).mono ?_
      rintro e w5 ⟨rfl, hb5⟩
      have e0' := (hb5.cell (p := ⟨w.heap.size, 0, none⟩) es).trans e0
      have e1' := (hb5.cell (p := ⟨w.heap.size, 1, none⟩) es).trans e1
      have es' := Nat.lt_of_lt_of_le es hb5.size
      have hB5 := bt hB hb5
      go_wp2_with fail
      go_roundw
      case rel => exact ⟨j + 1, by omega, by simp, by rw [HS.out]; simp; omega, e0', e1', es', hB5⟩
      case measure => simp [intOf]; omega
    · obtain rfl : j = M := by omega
      clear c
      generalize hS : ((Gr.ml y).take j).sum = S at *
      go_wp2_with fail
      refine (HC.out _).mono ?_
      rintro e w5 ⟨rfl, hb5⟩
      go_wp2_with fail
      subst hS
      go_ret2
      exact ⟨rfl, bt hB hb5⟩
set_option maxHeartbeats 1000000 in
theorem greg_ToDay_ok_out (y m d : Int) (w : World) (hG : Tab w 3 Gr.gregCells) (h1 : -4000 ≤ y) (h2 : y ≤ 7000) (h3 : 1 ≤ m) (h4 : m ≤ 12) (h5 : 1 ≤ d) (h : d ≤ Gr.days y m) (b : Gr.dayOf y m d < -1373427 ∨ 2278650 < Gr.dayOf y m d) :
    Calls Tryd.prog 70 #[.agg #[.int .i64 y, .int .i64 m, .int .i64 d]] w fun e w' => e = .returned (.tuple #[.int .i64 (0), .int .i64 2]) ∧ Below w.heap.size w w' := by
  have HD := Lib.hid (fun i w hG => greg_Days y i w hG ⟨by omega, by omega⟩)
  have HC := Lib.hid (fun w => closed_Year_no (Gr.dayOf y m d) w b)
  clear b
  obtain ⟨M, hM, hM2⟩ : ∃ M : Nat, m = (M : Int) + 1 ∧ M < 12 := ⟨(m - 1).toNat, by omega, by omega⟩
  subst hM
  obtain ⟨N, hN, hN1, hN2, hN3⟩ := Gr.ml_at y M hM2
  have hab := Gr.ahead_bd y h1 h2
  have HA := Lib.hid (fun w => greg_ahead y w (by omega) (by omega))
  have hat := Lib.hid (Gr.ml_at y)
  have htk := Lib.hid (Gr.take_bd y)
  have hdo : Gr.dayOf y ((M : Int) + 1) d = Gr.ahead y + d + ((Gr.ml y).take M).sum := by unfold Gr.dayOf Gr.before; rw [show ((M : Int) + 1 - 1).toNat = M by omega]
  rw [hdo] at HC
  rw [hN1] at h
  have HDm := Lib.hid (fun w hG => (hN1 ▸ HD.out ((M : Int) + 1) w hG : Calls Tryd.prog 103 #[.int .i64 y, .int .i64 ((M : Int) + 1)] w fun e w' => e = .returned (.int .i64 N) ∧ Below w.heap.size w w'))
  clear hN1 hN
  clear hdo
  generalize Gr.ahead y = A at *
  have g1 : decide (d < 1) = false := by simp; omega
  go_enter Tryd.func70, Tryd.ntmps70
  go_wp2_with fail
  refine settle (fun W => W.cell? ⟨w.heap.size, 0, none⟩ = some (.int .i64 y) ∧ W.cell? ⟨w.heap.size, 1, none⟩ = some (.int .i64 ((M : Int) + 1)) ∧ W.cell? ⟨w.heap.size, 2, none⟩ = some (.int .i64 d) ∧ w.heap.size < W.heap.size ∧ Below w.heap.size w W ∧ Tab W 3 Gr.gregCells) ⟨by simp [go_sem], by simp [go_sem], by simp [go_sem], by simp, ba _ _, Tab.below hG (ba _ _)⟩ ?_
  rintro W0 ⟨c0, c1, c2, cs, hB0, hG0⟩
  refine wp_region_class (by kernel_rfl) (by kernel_rfl) (fun hall => ?_)
  repeat (first | go_big_quiet_skip | (go_big_quiet_want; first | (refine quiet_load1 _ _ _ rfl rfl ?_ ?_ ?_; (focus (intro _; simp; done)); (focus (first | assumption | omega | (simp; done) | (simp; omega))); apply Exists.intro; refine ⟨?_, ?_⟩; assumption; go_simp; go_big_quiet_on) | (refine quiet_load2 _ _ _ _ rfl rfl ?_ ?_ ?_ ?_; (focus (intro _; simp; done)); (focus (intro _; simp; done)); (focus (first | assumption | omega | (simp; done) | (simp; omega))); apply Exists.intro; apply Exists.intro; refine ⟨?_, ?_, ?_⟩; assumption; assumption; go_simp; go_big_quiet_on) | (refine quiet_load3 _ _ _ _ rfl rfl ?_ ?_ ?_ ?_; (focus (intro _; simp; done)); (focus (intro _; simp; done)); (focus (first | assumption | omega | (simp; done) | (simp; omega))); apply Exists.intro; apply Exists.intro; apply Exists.intro; refine ⟨?_, ?_, ?_, ?_⟩; assumption; assumption; assumption; go_simp; go_big_quiet_on) | (refine quiet_load4 _ _ _ _ rfl rfl ?_ ?_ ?_ ?_; (focus (intro _; simp; done)); (focus (intro _; simp; done)); (focus (first | assumption | omega | (simp; done) | (simp; omega))); apply Exists.intro; apply Exists.intro; apply Exists.intro; apply Exists.intro; refine ⟨?_, ?_, ?_, ?_, ?_⟩; assumption; assumption; assumption; assumption; go_simp; go_big_quiet_on) | (go_big_quiet_op; first | go_big_quiet_on | (apply Exists.intro; refine ⟨fun x hx => ?_, ?_⟩; (first | exact call_below hx (HDm.out x (Tab.below hG0 hx))); go_big_quiet_on))))
  refine wpQuiet_nil ?_
  clear hall
  intro x1 hx1
  have k0 := (hx1.cell (p := ⟨w.heap.size, 0, none⟩) cs).trans c0
  have k1 := (hx1.cell (p := ⟨w.heap.size, 1, none⟩) cs).trans c1
  have k2 := (hx1.cell (p := ⟨w.heap.size, 2, none⟩) cs).trans c2
  have ks : w.heap.size < x1.heap.size := Nat.lt_of_lt_of_le cs hx1.size
  have hB1 : Below w.heap.size w x1 := bt hB0 hx1
  clear c0 c1 c2 cs
  go_wp2_with fail
  refine wp_region_class (by kernel_rfl) (by kernel_rfl) (fun hall => ?_)
  repeat (first | go_big_quiet_skip | (go_big_quiet_want; first | (refine quiet_load1 _ _ _ rfl rfl ?_ ?_ ?_; (focus (intro _; simp; done)); (focus (first | assumption | omega | (simp; done) | (simp; omega))); apply Exists.intro; refine ⟨?_, ?_⟩; assumption; go_simp; go_big_quiet_on) | (refine quiet_load2 _ _ _ _ rfl rfl ?_ ?_ ?_ ?_; (focus (intro _; simp; done)); (focus (intro _; simp; done)); (focus (first | assumption | omega | (simp; done) | (simp; omega))); apply Exists.intro; apply Exists.intro; refine ⟨?_, ?_, ?_⟩; assumption; assumption; go_simp; go_big_quiet_on) | (refine quiet_load3 _ _ _ _ rfl rfl ?_ ?_ ?_ ?_; (focus (intro _; simp; done)); (focus (intro _; simp; done)); (focus (first | assumption | omega | (simp; done) | (simp; omega))); apply Exists.intro; apply Exists.intro; apply Exists.intro; refine ⟨?_, ?_, ?_, ?_⟩; assumption; assumption; assumption; go_simp; go_big_quiet_on) | (refine quiet_load4 _ _ _ _ rfl rfl ?_ ?_ ?_ ?_; (focus (intro _; simp; done)); (focus (intro _; simp; done)); (focus (first | assumption | omega | (simp; done) | (simp; omega))); apply Exists.intro; apply Exists.intro; apply Exists.intro; apply Exists.intro; refine ⟨?_, ?_, ?_, ?_, ?_⟩; assumption; assumption; assumption; assumption; go_simp; go_big_quiet_on) | (go_big_quiet_op; first | go_big_quiet_on | (apply Exists.intro; refine ⟨fun x hx => ?_, ?_⟩; (first | exact call_same hx (HA.out x)); go_big_quiet_on))))
  refine wpQuiet_nil ?_
  clear hall
  intro x2 hx2
  have c0 := (hx2.cell (p := ⟨w.heap.size, 0, none⟩) ks).trans k0
  have c1 := (hx2.cell (p := ⟨w.heap.size, 1, none⟩) ks).trans k1
  have cs : w.heap.size < x2.heap.size := Nat.lt_of_lt_of_le ks hx2.size
  have hB2 : Below w.heap.size w x2 := bt hB1 hx2
  clear k0 k1 k2 ks hx1 hx2
  go_wp2_with fail
  go_loopw [4, 5] (fun s i wr => ∃ j : Nat, j ≤ M ∧ i = .int .i64 ((j : Int) + 1) ∧ s = .int .i64 (A + d + ((Gr.ml y).take j).sum) ∧ wr.cell? ⟨w.heap.size, 0, none⟩ = some (.int .i64 y) ∧ wr.cell? ⟨w.heap.size, 1, none⟩ = some (.int .i64 ((M : Int) + 1)) ∧ w.heap.size < wr.heap.size ∧ Below w.heap.size w wr) (fun _ i _ => M + 1 - (intOf i).toNat)
  case atStart => exact ⟨0, by omega, rfl, by simp, c0, c1, cs, hB2⟩
  case round =>
    obtain ⟨j, hj, rfl, rfl, e0, e1, es, hB⟩ := hrel
    clear c0 c1 cs hB2 hB1 hB0 hG0
    have tb := htk.out j (by omega)
    by_cases c : j < M
    · obtain ⟨x, x1', x2', x3, x4⟩ := hat.out j (by omega)
      have tn := sum_take (Gr.ml y) j x x1'
      have HDj := Lib.hid (fun w hG => (x2' ▸ HD.out ((j : Int) + 1) w hG : Calls Tryd.prog 103 #[.int .i64 y, .int .i64 ((j : Int) + 1)] w fun e w' => e = .returned (.int .i64 x) ∧ Below w.heap.size w w'))
      have HS := Lib.hid tn
      clear tn x1' x2'
      generalize hS : ((Gr.ml y).take j).sum = S at *
      go_wp2_with fail
      refine (HDj.out _ (Tab.below hG hB)).mono ?_
      rintro e w5 ⟨rfl, hb5⟩
      have e0' := (hb5.cell (p := ⟨w.heap.size, 0, none⟩) es).trans e0
      have e1' := (hb5.cell (p := ⟨w.heap.size, 1, none⟩) es).trans e1
      have es' := Nat.lt_of_lt_of_le es hb5.size
      have hB5 := bt hB hb5
      go_wp2_with fail
      go_roundw
      case rel => exact ⟨j + 1, by omega, by simp, by rw [HS.out]; simp; omega, e0', e1', es', hB5⟩
      case measure => simp [intOf]; omega
    · obtain rfl : j = M := by omega
      clear c
      generalize hS : ((Gr.ml y).take j).sum = S at *
      go_wp2_with fail
      refine (HC.out _).mono ?_
      rintro e w5 ⟨rfl, hb5⟩
      go_wp2_with fail
      subst hS
      go_ret2
      exact ⟨rfl, bt hB hb5⟩
end Go.Proofs.YtmiadhiomingmaaDoor
