/- Layer 18: days of remembrance. -/
import Derived.Test.YtmiadhiomingmaaDoorAnniv
import Derived.Test.YtmiadhiomingmaaDoorTail
namespace Go.Proofs.YtmiadhiomingmaaDoor
open Go.ChangeShapes Go.WideShapes Go.ChangeAt Go.RowKit
set_option linter.unusedVariables false
set_option maxRecDepth 100000
namespace A18
theorem dth_k1 {y n d Y : Int} {l : Bool} (h : chkE y n l d Y = 0) (c : k1 y n l d = true) : tN y n l d Y = n ∧ tL y n l d Y = l ∧ tD y n l d Y = D10.lastV Y n l := by
  obtain ⟨hd, h1, h2, _⟩ := chk_0 h
  obtain ⟨_, hp⟩ := D10.date_valid hd
  obtain ⟨_, hn, _⟩ := k1_in c
  obtain ⟨_, q1, _⟩ := two_there (lp := true) (right_of hp) hn Y
  obtain ⟨_, _, a, b⟩ := D10.place_in _ _ _ q1
  unfold tN tL tD dM dD
  rw [if_pos h, if_pos h, if_pos h, if_pos c, if_pos c]
  exact ⟨a, b, rfl⟩
theorem dth_k2 {y n d Y : Int} {l : Bool} (h : chkE y n l d Y = 0) (c1 : ¬ k1 y n l d = true) (c : k2 l d Y = true) : tN y n l d Y = 5 ∧ tL y n l d Y = false ∧ tD y n l d Y = 30 := by
  unfold tN tL tD dM dD
  rw [if_pos h, if_pos h, if_pos h, if_neg c1, if_neg c1, if_pos c, if_pos c]
  cases Cal.leap Y <;> decide
theorem dth_k3 {y n d Y : Int} {l : Bool} (h : chkE y n l d Y = 0) (c1 : ¬ k1 y n l d = true) (c2 : ¬ k2 l d Y = true) (c : k3 y n Y = true) : tN y n l d Y = Cal.ofN (Cal.leap Y) (cM Y 6 d) ∧ tL y n l d Y = Cal.ofL (Cal.leap Y) (cM Y 6 d) ∧ tD y n l d Y = cD Y 6 d := by
  unfold tN tL tD dM dD
  rw [if_pos h, if_pos h, if_pos h, if_neg c1, if_neg c1, if_neg c2, if_neg c2, if_pos c, if_pos c]
  exact ⟨rfl, rfl, rfl⟩
theorem dth_b {y n d Y : Int} {l : Bool} (h : chkE y n l d Y = 0) (c1 : ¬ k1 y n l d = true) (c2 : ¬ k2 l d Y = true) (c3 : ¬ k3 y n Y = true) : tN y n l d Y = bN y n l d Y ∧ tL y n l d Y = bL y n l d Y ∧ tD y n l d Y = bD y n l d Y := by
  unfold tN tL tD dM dD bN bL bD
  simp [h, c1, c2, c3]
theorem six_short {y d : Int} {l : Bool} (h : D10.dateE y 6 l d = 0) : d ≤ 29 := by
  obtain ⟨hv, hp⟩ := D10.date_valid h
  have hl : l = false := by
    rcases right_cases 6 l (right_of hp) with ⟨_, _, c⟩ | ⟨c, _⟩
    · exact c
    · omega
  subst hl
  obtain ⟨a, b, c, e, f, g⟩ := hv
  obtain ⟨j, x, e1, e2, e3, _⟩ := D10.month_facts y _ a b c e
  rw [e3] at g
  unfold D10.ls at e2
  cases hy : Cal.leap y with
  | true =>
    rw [hy] at e1 e2
    have : j = 6 := by have : Cal.plV true 6 false = 7 := by decide
                       omega
    subst this
    simp [lens] at e2
    omega
  | false =>
    rw [hy] at e1 e2
    have : j = 5 := by have : Cal.plV false 6 false = 6 := by decide
                       omega
    subst this
    simp [lens] at e2
    omega
end A18
set_option maxHeartbeats 4000000 in
theorem anniv_Death_a2 (y : Int) (Y : Int) (hy : I64 y) (hY : I64 Y) (w : World) (hT : Tab w 8 kevCells) (hL : Tab w 5 lenCells) (h0 : A18.chkE y 2 false 30 Y = 0) (hl : (decide (D10.lastV (y + 1) 2 false < 30)) = true)  :
    Calls Tryd.prog 27 #[.agg #[.int .i64 (y), .int .i64 (2), .bool (false), .int .i64 (30)], .int .i64 Y] w fun e w' => e = .returned (.tuple #[.agg #[.int .i64 (Y), .int .i64 (2), .bool (false), .int .i64 (D10.lastV Y 2 false)], .int .i64 (0)]) ∧ Below w.heap.size w w' := by
  have HC := Lib.hid (fun w hT hL => anniv_check y 2 false 30 Y hy hY w hT hL)
  obtain ⟨hde, h1, h2, hlt⟩ := A18.chk_0 h0
  obtain ⟨hvd, hp⟩ := D10.date_valid hde
  obtain ⟨b1, b2⟩ := (⟨hvd.1, hvd.2.1⟩ : 1 ≤ y ∧ y ≤ 9999)
  rw [h0] at HC
  have HW := Lib.hid (fun w => cycle_Leap_ok y w (by omega) (by omega))
  have HV := Lib.hid (fun w => cycle_Leap_ok Y w (by omega) (by omega))
  have HD := Lib.hid (fun w hT hL => anniv_days (y + 1) 2 false ⟨by omega, by omega⟩ w hT hL)
  have HE := Lib.hid (fun w hT hL => anniv_days Y 2 false hY w hT hL)
  have y1 := hy.1
  clear hde hvd hp h0
  generalize D10.lastV Y 2 false = rd at *
  generalize D10.lastV (y + 1) 2 false = lv at *
  try generalize Cal.leap y = wl at *
  try generalize Cal.leap Y = il at *
  go_enter Tryd.func27, Tryd.ntmps27
  go_wp2_with fail
  refine (HC.out _ (Tab.below hT (by repeat (first | (with_reducible exact Below.refl _ _) | (with_reducible assumption) | (with_reducible refine bdrew ?_) | (with_reducible refine baa ?_ _) | (with_reducible refine bs ?_ (by first | exact Nat.le_refl _ | omega | (simp; done) | (simp; omega)) _) | (with_reducible refine bt ?_ (by with_reducible assumption))))) (Tab.below hL (by repeat (first | (with_reducible exact Below.refl _ _) | (with_reducible assumption) | (with_reducible refine bdrew ?_) | (with_reducible refine baa ?_ _) | (with_reducible refine bs ?_ (by first | exact Nat.le_refl _ | omega | (simp; done) | (simp; omega)) _) | (with_reducible refine bt ?_ (by with_reducible assumption)))))).mono ?_
  rintro e w1 ⟨rfl, hb1⟩
  obtain ⟨hc1, hf1⟩ := bcell hb1
  have hz1 := hb1.size
  try simp at hz1
  have hs1x0 : w.heap.size < w1.heap.size := by omega
  have hs1x1 : (w.heap.size + 1) < w1.heap.size := by omega
  have g1x0 : w1.cell? ⟨w.heap.size, 0, none⟩ = some (.int .i64 y) := (hc1 _ _ (by first | omega | (simp; done) | (simp; omega))).trans (by first | (with_reducible assumption) | (simp [go_sem]; done) | (simp [go_sem, *]; done) | assumption)
  have g1x1 : w1.cell? ⟨w.heap.size, 1, none⟩ = some (.int .i64 2) := (hc1 _ _ (by first | omega | (simp; done) | (simp; omega))).trans (by first | (with_reducible assumption) | (simp [go_sem]; done) | (simp [go_sem, *]; done) | assumption)
  have g1x2 : w1.cell? ⟨w.heap.size, 2, none⟩ = some (.bool false) := (hc1 _ _ (by first | omega | (simp; done) | (simp; omega))).trans (by first | (with_reducible assumption) | (simp [go_sem]; done) | (simp [go_sem, *]; done) | assumption)
  have g1x3 : w1.cell? ⟨w.heap.size, 3, none⟩ = some (.int .i64 30) := (hc1 _ _ (by first | omega | (simp; done) | (simp; omega))).trans (by first | (with_reducible assumption) | (simp [go_sem]; done) | (simp [go_sem, *]; done) | assumption)
  have g1x4 : w1.cell? ⟨(w.heap.size + 1), 0, none⟩ = some (.int .i64 0) := (hc1 _ _ (by first | omega | (simp; done) | (simp; omega))).trans (by first | (with_reducible assumption) | (simp [go_sem]; done) | (simp [go_sem, *]; done) | assumption)
  have g1x5 : w1.cell? ⟨(w.heap.size + 1), 1, none⟩ = some (.int .i64 0) := (hc1 _ _ (by first | omega | (simp; done) | (simp; omega))).trans (by first | (with_reducible assumption) | (simp [go_sem]; done) | (simp [go_sem, *]; done) | assumption)
  have g1x6 : w1.cell? ⟨(w.heap.size + 1), 2, none⟩ = some (.bool false) := (hc1 _ _ (by first | omega | (simp; done) | (simp; omega))).trans (by first | (with_reducible assumption) | (simp [go_sem]; done) | (simp [go_sem, *]; done) | assumption)
  have g1x7 : w1.cell? ⟨(w.heap.size + 1), 3, none⟩ = some (.int .i64 0) := (hc1 _ _ (by first | omega | (simp; done) | (simp; omega))).trans (by first | (with_reducible assumption) | (simp [go_sem]; done) | (simp [go_sem, *]; done) | assumption)
  go_wp2_with fail
  refine (HW.out _).mono ?_
  rintro e w' ⟨rfl, rfl⟩
  go_wp2_with fail
  refine (HV.out _).mono ?_
  rintro e w' ⟨rfl, rfl⟩
  go_wp2_with fail
  refine (HD.out _ (Tab.below hT (by repeat (first | (with_reducible exact Below.refl _ _) | (with_reducible assumption) | (with_reducible refine bdrew ?_) | (with_reducible refine baa ?_ _) | (with_reducible refine bs ?_ (by first | exact Nat.le_refl _ | omega | (simp; done) | (simp; omega)) _) | (with_reducible refine bt ?_ (by with_reducible assumption))))) (Tab.below hL (by repeat (first | (with_reducible exact Below.refl _ _) | (with_reducible assumption) | (with_reducible refine bdrew ?_) | (with_reducible refine baa ?_ _) | (with_reducible refine bs ?_ (by first | exact Nat.le_refl _ | omega | (simp; done) | (simp; omega)) _) | (with_reducible refine bt ?_ (by with_reducible assumption)))))).mono ?_
  rintro e w2 ⟨rfl, hb2⟩
  obtain ⟨hc2, hf2⟩ := bcell hb2
  have hz2 := hb2.size
  try simp at hz2
  have hs2x0 : w.heap.size < w2.heap.size := by omega
  have hs2x1 : (w.heap.size + 1) < w2.heap.size := by omega
  have g2x0 : w2.cell? ⟨w.heap.size, 0, none⟩ = some (.int .i64 y) := (hc2 _ _ (by first | omega | (simp; done) | (simp; omega))).trans (by first | (with_reducible assumption) | (simp [go_sem]; done) | (simp [go_sem, *]; done) | assumption)
  have g2x1 : w2.cell? ⟨w.heap.size, 1, none⟩ = some (.int .i64 2) := (hc2 _ _ (by first | omega | (simp; done) | (simp; omega))).trans (by first | (with_reducible assumption) | (simp [go_sem]; done) | (simp [go_sem, *]; done) | assumption)
  have g2x2 : w2.cell? ⟨w.heap.size, 2, none⟩ = some (.bool false) := (hc2 _ _ (by first | omega | (simp; done) | (simp; omega))).trans (by first | (with_reducible assumption) | (simp [go_sem]; done) | (simp [go_sem, *]; done) | assumption)
  have g2x3 : w2.cell? ⟨w.heap.size, 3, none⟩ = some (.int .i64 30) := (hc2 _ _ (by first | omega | (simp; done) | (simp; omega))).trans (by first | (with_reducible assumption) | (simp [go_sem]; done) | (simp [go_sem, *]; done) | assumption)
  have g2x4 : w2.cell? ⟨(w.heap.size + 1), 0, none⟩ = some (.int .i64 0) := (hc2 _ _ (by first | omega | (simp; done) | (simp; omega))).trans (by first | (with_reducible assumption) | (simp [go_sem]; done) | (simp [go_sem, *]; done) | assumption)
  have g2x5 : w2.cell? ⟨(w.heap.size + 1), 1, none⟩ = some (.int .i64 0) := (hc2 _ _ (by first | omega | (simp; done) | (simp; omega))).trans (by first | (with_reducible assumption) | (simp [go_sem]; done) | (simp [go_sem, *]; done) | assumption)
  have g2x6 : w2.cell? ⟨(w.heap.size + 1), 2, none⟩ = some (.bool false) := (hc2 _ _ (by first | omega | (simp; done) | (simp; omega))).trans (by first | (with_reducible assumption) | (simp [go_sem]; done) | (simp [go_sem, *]; done) | assumption)
  have g2x7 : w2.cell? ⟨(w.heap.size + 1), 3, none⟩ = some (.int .i64 0) := (hc2 _ _ (by first | omega | (simp; done) | (simp; omega))).trans (by first | (with_reducible assumption) | (simp [go_sem]; done) | (simp [go_sem, *]; done) | assumption)
  go_wp2_with fail
  refine settle (fun W => W.cell? ⟨w.heap.size, 0, none⟩ = some (.int .i64 y) ∧ W.cell? ⟨w.heap.size, 1, none⟩ = some (.int .i64 2) ∧ W.cell? ⟨w.heap.size, 2, none⟩ = some (.bool false) ∧ W.cell? ⟨w.heap.size, 3, none⟩ = some (.int .i64 30) ∧ W.cell? ⟨(w.heap.size + 1), 0, none⟩ = some (.int .i64 0) ∧ W.cell? ⟨(w.heap.size + 1), 1, none⟩ = some (.int .i64 0) ∧ W.cell? ⟨(w.heap.size + 1), 2, none⟩ = some (.bool false) ∧ W.cell? ⟨(w.heap.size + 1), 3, none⟩ = some (.int .i64 0) ∧ w.heap.size < W.heap.size ∧ (w.heap.size + 1) < W.heap.size ∧ W.frozen? ⟨(w.heap.size + 1), 0, none⟩ = false ∧ W.frozen? ⟨(w.heap.size + 1), 1, none⟩ = false ∧ W.frozen? ⟨(w.heap.size + 1), 2, none⟩ = false ∧ W.frozen? ⟨(w.heap.size + 1), 3, none⟩ = false ∧ Below w.heap.size w W) ⟨?_, ?_, ?_, ?_, ?_, ?_, ?_, ?_, ?_, ?_, ?_, ?_, ?_, ?_, ?_⟩ ?_
  · (first | (with_reducible assumption) | (simp [go_sem, *]; done))
  · (first | (with_reducible assumption) | (simp [go_sem, *]; done))
  · (first | (with_reducible assumption) | (simp [go_sem, *]; done))
  · (first | (with_reducible assumption) | (simp [go_sem, *]; done))
  · (first | (with_reducible assumption) | (simp [go_sem, *]; done))
  · (first | (with_reducible assumption) | (simp [go_sem, *]; done))
  · (first | (with_reducible assumption) | (simp [go_sem, *]; done))
  · (first | (with_reducible assumption) | (simp [go_sem, *]; done))
  · (first | (with_reducible assumption) | (simp; done) | (simp; omega) | omega)
  · (first | (with_reducible assumption) | (simp; done) | (simp; omega) | omega)
  · exact (hf2 _ _ (by first | omega | (simp; done) | (simp; omega))).trans ((hf1 _ _ (by first | omega | (simp; done) | (simp; omega))).trans (by simp [go_sem]))
  · exact (hf2 _ _ (by first | omega | (simp; done) | (simp; omega))).trans ((hf1 _ _ (by first | omega | (simp; done) | (simp; omega))).trans (by simp [go_sem]))
  · exact (hf2 _ _ (by first | omega | (simp; done) | (simp; omega))).trans ((hf1 _ _ (by first | omega | (simp; done) | (simp; omega))).trans (by simp [go_sem]))
  · exact (hf2 _ _ (by first | omega | (simp; done) | (simp; omega))).trans ((hf1 _ _ (by first | omega | (simp; done) | (simp; omega))).trans (by simp [go_sem]))
  · (repeat (first | (with_reducible exact Below.refl _ _) | (with_reducible assumption) | (with_reducible refine bdrew ?_) | (with_reducible refine baa ?_ _) | (with_reducible refine bs ?_ (by first | exact Nat.le_refl _ | omega | (simp; done) | (simp; omega)) _) | (with_reducible refine bt ?_ (by with_reducible assumption))))
  rintro W4 ⟨r4x0, r4x1, r4x2, r4x3, r4x4, r4x5, r4x6, r4x7, rs4x0, rs4x1, rf4x0, rf4x1, rf4x2, rf4x3, hB4⟩
  refine wp_region_tail 8 (by kernel_rfl) (by kernel_rfl) (fun hall => ?_)
  simp only [List.take_succ_cons, List.take_zero, List.drop_succ_cons, List.drop_zero]
  repeat (first | go_big_quiet_skip | (go_big_quiet_want; first | (refine quiet_load1 _ _ _ rfl rfl ?_ ?_ ?_; (focus (intro _; simp; done)); (focus (first | assumption | omega | (simp; done) | (simp; omega))); apply Exists.intro; refine ⟨?_, ?_⟩; assumption; go_simp; go_big_quiet_on) | (refine quiet_load2 _ _ _ _ rfl rfl ?_ ?_ ?_ ?_; (focus (intro _; simp; done)); (focus (intro _; simp; done)); (focus (first | assumption | omega | (simp; done) | (simp; omega))); apply Exists.intro; apply Exists.intro; refine ⟨?_, ?_, ?_⟩; assumption; assumption; go_simp; go_big_quiet_on) | (refine quiet_load3 _ _ _ _ rfl rfl ?_ ?_ ?_ ?_; (focus (intro _; simp; done)); (focus (intro _; simp; done)); (focus (first | assumption | omega | (simp; done) | (simp; omega))); apply Exists.intro; apply Exists.intro; apply Exists.intro; refine ⟨?_, ?_, ?_, ?_⟩; assumption; assumption; assumption; go_simp; go_big_quiet_on) | (refine quiet_load4 _ _ _ _ rfl rfl ?_ ?_ ?_ ?_; (focus (intro _; simp; done)); (focus (intro _; simp; done)); (focus (first | assumption | omega | (simp; done) | (simp; omega))); apply Exists.intro; apply Exists.intro; apply Exists.intro; apply Exists.intro; refine ⟨?_, ?_, ?_, ?_, ?_⟩; assumption; assumption; assumption; assumption; go_simp; go_big_quiet_on) | (go_big_quiet_op; first | go_big_quiet_on | (apply Exists.intro; refine ⟨fun x hx => ?_, ?_⟩; (first | (with_reducible exact call_below hx (HE.out x (Tab.below hT (bt hB4 hx)) (Tab.below hL (bt hB4 hx)))) | exact call_below hx (HE.out x (Tab.below hT (bt hB4 hx)) (Tab.below hL (bt hB4 hx)))); go_big_quiet_on))))
  refine wpQuiet_nil ?_
  clear hall
  intro w5 hw5
  obtain ⟨hc5, hf5⟩ := bcell hw5
  have hz5 := hw5.size
  have hB5 := bt hB4 hw5
  have g5x4 : w5.cell? ⟨(w.heap.size + 1), 0, none⟩ = some (.int .i64 0) := (hc5 _ _ (by omega)).trans (by with_reducible assumption)
  have g5x5 : w5.cell? ⟨(w.heap.size + 1), 1, none⟩ = some (.int .i64 0) := (hc5 _ _ (by omega)).trans (by with_reducible assumption)
  have g5x6 : w5.cell? ⟨(w.heap.size + 1), 2, none⟩ = some (.bool false) := (hc5 _ _ (by omega)).trans (by with_reducible assumption)
  have g5x7 : w5.cell? ⟨(w.heap.size + 1), 3, none⟩ = some (.int .i64 0) := (hc5 _ _ (by omega)).trans (by with_reducible assumption)
  have z5x0 : w5.frozen? ⟨w.heap.size + 1, 0, none⟩ = false := (hf5 _ _ (by omega)).trans rf4x0
  have z5x1 : w5.frozen? ⟨w.heap.size + 1, 1, none⟩ = false := (hf5 _ _ (by omega)).trans rf4x1
  have z5x2 : w5.frozen? ⟨w.heap.size + 1, 2, none⟩ = false := (hf5 _ _ (by omega)).trans rf4x2
  have z5x3 : w5.frozen? ⟨w.heap.size + 1, 3, none⟩ = false := (hf5 _ _ (by omega)).trans rf4x3
  go_wp2_with fail
  refine bodyPost_ret (v := .tuple #[.agg #[.int .i64 (Y), .int .i64 (2), .bool (false), .int .i64 (rd)], .int .i64 (0)]) (by simp [results, Tryd.results27, go_sem, *]) rfl ⟨rfl, ?_⟩
  repeat (first | (with_reducible exact Below.refl _ _) | (with_reducible assumption) | (with_reducible refine bdrew ?_) | (with_reducible refine baa ?_ _) | (with_reducible refine bs ?_ (by first | exact Nat.le_refl _ | omega | (simp; done) | (simp; omega)) _) | (with_reducible refine bt ?_ (by with_reducible assumption)))
set_option maxHeartbeats 4000000 in
theorem anniv_Death_a3 (y : Int) (Y : Int) (hy : I64 y) (hY : I64 Y) (w : World) (hT : Tab w 8 kevCells) (hL : Tab w 5 lenCells) (h0 : A18.chkE y 3 false 30 Y = 0) (hl : (decide (D10.lastV (y + 1) 3 false < 30)) = true)  :
    Calls Tryd.prog 27 #[.agg #[.int .i64 (y), .int .i64 (3), .bool (false), .int .i64 (30)], .int .i64 Y] w fun e w' => e = .returned (.tuple #[.agg #[.int .i64 (Y), .int .i64 (3), .bool (false), .int .i64 (D10.lastV Y 3 false)], .int .i64 (0)]) ∧ Below w.heap.size w w' := by
  have HC := Lib.hid (fun w hT hL => anniv_check y 3 false 30 Y hy hY w hT hL)
  obtain ⟨hde, h1, h2, hlt⟩ := A18.chk_0 h0
  obtain ⟨hvd, hp⟩ := D10.date_valid hde
  obtain ⟨b1, b2⟩ := (⟨hvd.1, hvd.2.1⟩ : 1 ≤ y ∧ y ≤ 9999)
  rw [h0] at HC
  have HW := Lib.hid (fun w => cycle_Leap_ok y w (by omega) (by omega))
  have HV := Lib.hid (fun w => cycle_Leap_ok Y w (by omega) (by omega))
  have HD := Lib.hid (fun w hT hL => anniv_days (y + 1) 3 false ⟨by omega, by omega⟩ w hT hL)
  have HE := Lib.hid (fun w hT hL => anniv_days Y 3 false hY w hT hL)
  have y1 := hy.1
  clear hde hvd hp h0
  generalize D10.lastV Y 3 false = rd at *
  generalize D10.lastV (y + 1) 3 false = lv at *
  try generalize Cal.leap y = wl at *
  try generalize Cal.leap Y = il at *
  go_enter Tryd.func27, Tryd.ntmps27
  go_wp2_with fail
  refine (HC.out _ (Tab.below hT (by repeat (first | (with_reducible exact Below.refl _ _) | (with_reducible assumption) | (with_reducible refine bdrew ?_) | (with_reducible refine baa ?_ _) | (with_reducible refine bs ?_ (by first | exact Nat.le_refl _ | omega | (simp; done) | (simp; omega)) _) | (with_reducible refine bt ?_ (by with_reducible assumption))))) (Tab.below hL (by repeat (first | (with_reducible exact Below.refl _ _) | (with_reducible assumption) | (with_reducible refine bdrew ?_) | (with_reducible refine baa ?_ _) | (with_reducible refine bs ?_ (by first | exact Nat.le_refl _ | omega | (simp; done) | (simp; omega)) _) | (with_reducible refine bt ?_ (by with_reducible assumption)))))).mono ?_
  rintro e w1 ⟨rfl, hb1⟩
  obtain ⟨hc1, hf1⟩ := bcell hb1
  have hz1 := hb1.size
  try simp at hz1
  have hs1x0 : w.heap.size < w1.heap.size := by omega
  have hs1x1 : (w.heap.size + 1) < w1.heap.size := by omega
  have g1x0 : w1.cell? ⟨w.heap.size, 0, none⟩ = some (.int .i64 y) := (hc1 _ _ (by first | omega | (simp; done) | (simp; omega))).trans (by first | (with_reducible assumption) | (simp [go_sem]; done) | (simp [go_sem, *]; done) | assumption)
  have g1x1 : w1.cell? ⟨w.heap.size, 1, none⟩ = some (.int .i64 3) := (hc1 _ _ (by first | omega | (simp; done) | (simp; omega))).trans (by first | (with_reducible assumption) | (simp [go_sem]; done) | (simp [go_sem, *]; done) | assumption)
  have g1x2 : w1.cell? ⟨w.heap.size, 2, none⟩ = some (.bool false) := (hc1 _ _ (by first | omega | (simp; done) | (simp; omega))).trans (by first | (with_reducible assumption) | (simp [go_sem]; done) | (simp [go_sem, *]; done) | assumption)
  have g1x3 : w1.cell? ⟨w.heap.size, 3, none⟩ = some (.int .i64 30) := (hc1 _ _ (by first | omega | (simp; done) | (simp; omega))).trans (by first | (with_reducible assumption) | (simp [go_sem]; done) | (simp [go_sem, *]; done) | assumption)
  have g1x4 : w1.cell? ⟨(w.heap.size + 1), 0, none⟩ = some (.int .i64 0) := (hc1 _ _ (by first | omega | (simp; done) | (simp; omega))).trans (by first | (with_reducible assumption) | (simp [go_sem]; done) | (simp [go_sem, *]; done) | assumption)
  have g1x5 : w1.cell? ⟨(w.heap.size + 1), 1, none⟩ = some (.int .i64 0) := (hc1 _ _ (by first | omega | (simp; done) | (simp; omega))).trans (by first | (with_reducible assumption) | (simp [go_sem]; done) | (simp [go_sem, *]; done) | assumption)
  have g1x6 : w1.cell? ⟨(w.heap.size + 1), 2, none⟩ = some (.bool false) := (hc1 _ _ (by first | omega | (simp; done) | (simp; omega))).trans (by first | (with_reducible assumption) | (simp [go_sem]; done) | (simp [go_sem, *]; done) | assumption)
  have g1x7 : w1.cell? ⟨(w.heap.size + 1), 3, none⟩ = some (.int .i64 0) := (hc1 _ _ (by first | omega | (simp; done) | (simp; omega))).trans (by first | (with_reducible assumption) | (simp [go_sem]; done) | (simp [go_sem, *]; done) | assumption)
  go_wp2_with fail
  refine (HW.out _).mono ?_
  rintro e w' ⟨rfl, rfl⟩
  go_wp2_with fail
  refine (HV.out _).mono ?_
  rintro e w' ⟨rfl, rfl⟩
  go_wp2_with fail
  refine (HD.out _ (Tab.below hT (by repeat (first | (with_reducible exact Below.refl _ _) | (with_reducible assumption) | (with_reducible refine bdrew ?_) | (with_reducible refine baa ?_ _) | (with_reducible refine bs ?_ (by first | exact Nat.le_refl _ | omega | (simp; done) | (simp; omega)) _) | (with_reducible refine bt ?_ (by with_reducible assumption))))) (Tab.below hL (by repeat (first | (with_reducible exact Below.refl _ _) | (with_reducible assumption) | (with_reducible refine bdrew ?_) | (with_reducible refine baa ?_ _) | (with_reducible refine bs ?_ (by first | exact Nat.le_refl _ | omega | (simp; done) | (simp; omega)) _) | (with_reducible refine bt ?_ (by with_reducible assumption)))))).mono ?_
  rintro e w2 ⟨rfl, hb2⟩
  obtain ⟨hc2, hf2⟩ := bcell hb2
  have hz2 := hb2.size
  try simp at hz2
  have hs2x0 : w.heap.size < w2.heap.size := by omega
  have hs2x1 : (w.heap.size + 1) < w2.heap.size := by omega
  have g2x0 : w2.cell? ⟨w.heap.size, 0, none⟩ = some (.int .i64 y) := (hc2 _ _ (by first | omega | (simp; done) | (simp; omega))).trans (by first | (with_reducible assumption) | (simp [go_sem]; done) | (simp [go_sem, *]; done) | assumption)
  have g2x1 : w2.cell? ⟨w.heap.size, 1, none⟩ = some (.int .i64 3) := (hc2 _ _ (by first | omega | (simp; done) | (simp; omega))).trans (by first | (with_reducible assumption) | (simp [go_sem]; done) | (simp [go_sem, *]; done) | assumption)
  have g2x2 : w2.cell? ⟨w.heap.size, 2, none⟩ = some (.bool false) := (hc2 _ _ (by first | omega | (simp; done) | (simp; omega))).trans (by first | (with_reducible assumption) | (simp [go_sem]; done) | (simp [go_sem, *]; done) | assumption)
  have g2x3 : w2.cell? ⟨w.heap.size, 3, none⟩ = some (.int .i64 30) := (hc2 _ _ (by first | omega | (simp; done) | (simp; omega))).trans (by first | (with_reducible assumption) | (simp [go_sem]; done) | (simp [go_sem, *]; done) | assumption)
  have g2x4 : w2.cell? ⟨(w.heap.size + 1), 0, none⟩ = some (.int .i64 0) := (hc2 _ _ (by first | omega | (simp; done) | (simp; omega))).trans (by first | (with_reducible assumption) | (simp [go_sem]; done) | (simp [go_sem, *]; done) | assumption)
  have g2x5 : w2.cell? ⟨(w.heap.size + 1), 1, none⟩ = some (.int .i64 0) := (hc2 _ _ (by first | omega | (simp; done) | (simp; omega))).trans (by first | (with_reducible assumption) | (simp [go_sem]; done) | (simp [go_sem, *]; done) | assumption)
  have g2x6 : w2.cell? ⟨(w.heap.size + 1), 2, none⟩ = some (.bool false) := (hc2 _ _ (by first | omega | (simp; done) | (simp; omega))).trans (by first | (with_reducible assumption) | (simp [go_sem]; done) | (simp [go_sem, *]; done) | assumption)
  have g2x7 : w2.cell? ⟨(w.heap.size + 1), 3, none⟩ = some (.int .i64 0) := (hc2 _ _ (by first | omega | (simp; done) | (simp; omega))).trans (by first | (with_reducible assumption) | (simp [go_sem]; done) | (simp [go_sem, *]; done) | assumption)
  go_wp2_with fail
  refine settle (fun W => W.cell? ⟨w.heap.size, 0, none⟩ = some (.int .i64 y) ∧ W.cell? ⟨w.heap.size, 1, none⟩ = some (.int .i64 3) ∧ W.cell? ⟨w.heap.size, 2, none⟩ = some (.bool false) ∧ W.cell? ⟨w.heap.size, 3, none⟩ = some (.int .i64 30) ∧ W.cell? ⟨(w.heap.size + 1), 0, none⟩ = some (.int .i64 0) ∧ W.cell? ⟨(w.heap.size + 1), 1, none⟩ = some (.int .i64 0) ∧ W.cell? ⟨(w.heap.size + 1), 2, none⟩ = some (.bool false) ∧ W.cell? ⟨(w.heap.size + 1), 3, none⟩ = some (.int .i64 0) ∧ w.heap.size < W.heap.size ∧ (w.heap.size + 1) < W.heap.size ∧ W.frozen? ⟨(w.heap.size + 1), 0, none⟩ = false ∧ W.frozen? ⟨(w.heap.size + 1), 1, none⟩ = false ∧ W.frozen? ⟨(w.heap.size + 1), 2, none⟩ = false ∧ W.frozen? ⟨(w.heap.size + 1), 3, none⟩ = false ∧ Below w.heap.size w W) ⟨?_, ?_, ?_, ?_, ?_, ?_, ?_, ?_, ?_, ?_, ?_, ?_, ?_, ?_, ?_⟩ ?_
  · (first | (with_reducible assumption) | (simp [go_sem, *]; done))
  · (first | (with_reducible assumption) | (simp [go_sem, *]; done))
  · (first | (with_reducible assumption) | (simp [go_sem, *]; done))
  · (first | (with_reducible assumption) | (simp [go_sem, *]; done))
  · (first | (with_reducible assumption) | (simp [go_sem, *]; done))
  · (first | (with_reducible assumption) | (simp [go_sem, *]; done))
  · (first | (with_reducible assumption) | (simp [go_sem, *]; done))
  · (first | (with_reducible assumption) | (simp [go_sem, *]; done))
  · (first | (with_reducible assumption) | (simp; done) | (simp; omega) | omega)
  · (first | (with_reducible assumption) | (simp; done) | (simp; omega) | omega)
  · exact (hf2 _ _ (by first | omega | (simp; done) | (simp; omega))).trans ((hf1 _ _ (by first | omega | (simp; done) | (simp; omega))).trans (by simp [go_sem]))
  · exact (hf2 _ _ (by first | omega | (simp; done) | (simp; omega))).trans ((hf1 _ _ (by first | omega | (simp; done) | (simp; omega))).trans (by simp [go_sem]))
  · exact (hf2 _ _ (by first | omega | (simp; done) | (simp; omega))).trans ((hf1 _ _ (by first | omega | (simp; done) | (simp; omega))).trans (by simp [go_sem]))
  · exact (hf2 _ _ (by first | omega | (simp; done) | (simp; omega))).trans ((hf1 _ _ (by first | omega | (simp; done) | (simp; omega))).trans (by simp [go_sem]))
  · (repeat (first | (with_reducible exact Below.refl _ _) | (with_reducible assumption) | (with_reducible refine bdrew ?_) | (with_reducible refine baa ?_ _) | (with_reducible refine bs ?_ (by first | exact Nat.le_refl _ | omega | (simp; done) | (simp; omega)) _) | (with_reducible refine bt ?_ (by with_reducible assumption))))
  rintro W4 ⟨r4x0, r4x1, r4x2, r4x3, r4x4, r4x5, r4x6, r4x7, rs4x0, rs4x1, rf4x0, rf4x1, rf4x2, rf4x3, hB4⟩
  refine wp_region_tail 8 (by kernel_rfl) (by kernel_rfl) (fun hall => ?_)
  simp only [List.take_succ_cons, List.take_zero, List.drop_succ_cons, List.drop_zero]
  repeat (first | go_big_quiet_skip | (go_big_quiet_want; first | (refine quiet_load1 _ _ _ rfl rfl ?_ ?_ ?_; (focus (intro _; simp; done)); (focus (first | assumption | omega | (simp; done) | (simp; omega))); apply Exists.intro; refine ⟨?_, ?_⟩; assumption; go_simp; go_big_quiet_on) | (refine quiet_load2 _ _ _ _ rfl rfl ?_ ?_ ?_ ?_; (focus (intro _; simp; done)); (focus (intro _; simp; done)); (focus (first | assumption | omega | (simp; done) | (simp; omega))); apply Exists.intro; apply Exists.intro; refine ⟨?_, ?_, ?_⟩; assumption; assumption; go_simp; go_big_quiet_on) | (refine quiet_load3 _ _ _ _ rfl rfl ?_ ?_ ?_ ?_; (focus (intro _; simp; done)); (focus (intro _; simp; done)); (focus (first | assumption | omega | (simp; done) | (simp; omega))); apply Exists.intro; apply Exists.intro; apply Exists.intro; refine ⟨?_, ?_, ?_, ?_⟩; assumption; assumption; assumption; go_simp; go_big_quiet_on) | (refine quiet_load4 _ _ _ _ rfl rfl ?_ ?_ ?_ ?_; (focus (intro _; simp; done)); (focus (intro _; simp; done)); (focus (first | assumption | omega | (simp; done) | (simp; omega))); apply Exists.intro; apply Exists.intro; apply Exists.intro; apply Exists.intro; refine ⟨?_, ?_, ?_, ?_, ?_⟩; assumption; assumption; assumption; assumption; go_simp; go_big_quiet_on) | (go_big_quiet_op; first | go_big_quiet_on | (apply Exists.intro; refine ⟨fun x hx => ?_, ?_⟩; (first | (with_reducible exact call_below hx (HE.out x (Tab.below hT (bt hB4 hx)) (Tab.below hL (bt hB4 hx)))) | exact call_below hx (HE.out x (Tab.below hT (bt hB4 hx)) (Tab.below hL (bt hB4 hx)))); go_big_quiet_on))))
  refine wpQuiet_nil ?_
  clear hall
  intro w5 hw5
  obtain ⟨hc5, hf5⟩ := bcell hw5
  have hz5 := hw5.size
  have hB5 := bt hB4 hw5
  have g5x4 : w5.cell? ⟨(w.heap.size + 1), 0, none⟩ = some (.int .i64 0) := (hc5 _ _ (by omega)).trans (by with_reducible assumption)
  have g5x5 : w5.cell? ⟨(w.heap.size + 1), 1, none⟩ = some (.int .i64 0) := (hc5 _ _ (by omega)).trans (by with_reducible assumption)
  have g5x6 : w5.cell? ⟨(w.heap.size + 1), 2, none⟩ = some (.bool false) := (hc5 _ _ (by omega)).trans (by with_reducible assumption)
  have g5x7 : w5.cell? ⟨(w.heap.size + 1), 3, none⟩ = some (.int .i64 0) := (hc5 _ _ (by omega)).trans (by with_reducible assumption)
  have z5x0 : w5.frozen? ⟨w.heap.size + 1, 0, none⟩ = false := (hf5 _ _ (by omega)).trans rf4x0
  have z5x1 : w5.frozen? ⟨w.heap.size + 1, 1, none⟩ = false := (hf5 _ _ (by omega)).trans rf4x1
  have z5x2 : w5.frozen? ⟨w.heap.size + 1, 2, none⟩ = false := (hf5 _ _ (by omega)).trans rf4x2
  have z5x3 : w5.frozen? ⟨w.heap.size + 1, 3, none⟩ = false := (hf5 _ _ (by omega)).trans rf4x3
  go_wp2_with fail
  refine bodyPost_ret (v := .tuple #[.agg #[.int .i64 (Y), .int .i64 (3), .bool (false), .int .i64 (rd)], .int .i64 (0)]) (by simp [results, Tryd.results27, go_sem, *]) rfl ⟨rfl, ?_⟩
  repeat (first | (with_reducible exact Below.refl _ _) | (with_reducible assumption) | (with_reducible refine bdrew ?_) | (with_reducible refine baa ?_ _) | (with_reducible refine bs ?_ (by first | exact Nat.le_refl _ | omega | (simp; done) | (simp; omega)) _) | (with_reducible refine bt ?_ (by with_reducible assumption)))
set_option maxHeartbeats 4000000 in
theorem anniv_Death_c2 (y : Int) (Y : Int) (hy : I64 y) (hY : I64 Y) (w : World) (hT : Tab w 8 kevCells) (hL : Tab w 5 lenCells) (h0 : A18.chkE y 2 false 30 Y = 0) (hl : (decide (D10.lastV (y + 1) 2 false < 30)) = false)  :
    Calls Tryd.prog 27 #[.agg #[.int .i64 (y), .int .i64 (2), .bool (false), .int .i64 (30)], .int .i64 Y] w fun e w' => e = .returned (.tuple #[.agg #[.int .i64 (A18.bY y 2 false 30 Y), .int .i64 (A18.bN y 2 false 30 Y), .bool (A18.bL y 2 false 30 Y), .int .i64 (A18.bD y 2 false 30 Y)], .int .i64 (0)]) ∧ Below w.heap.size w w' := by
  have HC := Lib.hid (fun w hT hL => anniv_check y 2 false 30 Y hy hY w hT hL)
  obtain ⟨hde, h1, h2, hlt⟩ := A18.chk_0 h0
  obtain ⟨hvd, hp⟩ := D10.date_valid hde
  obtain ⟨b1, b2⟩ := (⟨hvd.1, hvd.2.1⟩ : 1 ≤ y ∧ y ≤ 9999)
  rw [h0] at HC
  have HW := Lib.hid (fun w => cycle_Leap_ok y w (by omega) (by omega))
  have HV := Lib.hid (fun w => cycle_Leap_ok Y w (by omega) (by omega))
  have HD := Lib.hid (fun w hT hL => anniv_days (y + 1) 2 false ⟨by omega, by omega⟩ w hT hL)
  have HB := Lib.hid (fun w hT hL => anniv_Birth y 2 false 30 Y hy ⟨by omega, by omega⟩ hY w hT hL)
  rw [h0] at HB
  have y1 := hy.1
  clear hde hvd hp h0
  generalize A18.bY y 2 false 30 Y = ry at *
  generalize A18.bN y 2 false 30 Y = rn at *
  generalize A18.bL y 2 false 30 Y = rl at *
  generalize A18.bD y 2 false 30 Y = rd at *
  generalize D10.lastV (y + 1) 2 false = lv at *
  try generalize Cal.leap y = wl at *
  try generalize Cal.leap Y = il at *
  go_enter Tryd.func27, Tryd.ntmps27
  go_wp2_with fail
  refine (HC.out _ (Tab.below hT (by repeat (first | (with_reducible exact Below.refl _ _) | (with_reducible assumption) | (with_reducible refine bdrew ?_) | (with_reducible refine baa ?_ _) | (with_reducible refine bs ?_ (by first | exact Nat.le_refl _ | omega | (simp; done) | (simp; omega)) _) | (with_reducible refine bt ?_ (by with_reducible assumption))))) (Tab.below hL (by repeat (first | (with_reducible exact Below.refl _ _) | (with_reducible assumption) | (with_reducible refine bdrew ?_) | (with_reducible refine baa ?_ _) | (with_reducible refine bs ?_ (by first | exact Nat.le_refl _ | omega | (simp; done) | (simp; omega)) _) | (with_reducible refine bt ?_ (by with_reducible assumption)))))).mono ?_
  rintro e w1 ⟨rfl, hb1⟩
  obtain ⟨hc1, hf1⟩ := bcell hb1
  have hz1 := hb1.size
  try simp at hz1
  have hs1x0 : w.heap.size < w1.heap.size := by omega
  have hs1x1 : (w.heap.size + 1) < w1.heap.size := by omega
  have g1x0 : w1.cell? ⟨w.heap.size, 0, none⟩ = some (.int .i64 y) := (hc1 _ _ (by first | omega | (simp; done) | (simp; omega))).trans (by first | (with_reducible assumption) | (simp [go_sem]; done) | (simp [go_sem, *]; done) | assumption)
  have g1x1 : w1.cell? ⟨w.heap.size, 1, none⟩ = some (.int .i64 2) := (hc1 _ _ (by first | omega | (simp; done) | (simp; omega))).trans (by first | (with_reducible assumption) | (simp [go_sem]; done) | (simp [go_sem, *]; done) | assumption)
  have g1x2 : w1.cell? ⟨w.heap.size, 2, none⟩ = some (.bool false) := (hc1 _ _ (by first | omega | (simp; done) | (simp; omega))).trans (by first | (with_reducible assumption) | (simp [go_sem]; done) | (simp [go_sem, *]; done) | assumption)
  have g1x3 : w1.cell? ⟨w.heap.size, 3, none⟩ = some (.int .i64 30) := (hc1 _ _ (by first | omega | (simp; done) | (simp; omega))).trans (by first | (with_reducible assumption) | (simp [go_sem]; done) | (simp [go_sem, *]; done) | assumption)
  have g1x4 : w1.cell? ⟨(w.heap.size + 1), 0, none⟩ = some (.int .i64 0) := (hc1 _ _ (by first | omega | (simp; done) | (simp; omega))).trans (by first | (with_reducible assumption) | (simp [go_sem]; done) | (simp [go_sem, *]; done) | assumption)
  have g1x5 : w1.cell? ⟨(w.heap.size + 1), 1, none⟩ = some (.int .i64 0) := (hc1 _ _ (by first | omega | (simp; done) | (simp; omega))).trans (by first | (with_reducible assumption) | (simp [go_sem]; done) | (simp [go_sem, *]; done) | assumption)
  have g1x6 : w1.cell? ⟨(w.heap.size + 1), 2, none⟩ = some (.bool false) := (hc1 _ _ (by first | omega | (simp; done) | (simp; omega))).trans (by first | (with_reducible assumption) | (simp [go_sem]; done) | (simp [go_sem, *]; done) | assumption)
  have g1x7 : w1.cell? ⟨(w.heap.size + 1), 3, none⟩ = some (.int .i64 0) := (hc1 _ _ (by first | omega | (simp; done) | (simp; omega))).trans (by first | (with_reducible assumption) | (simp [go_sem]; done) | (simp [go_sem, *]; done) | assumption)
  go_wp2_with fail
  refine (HW.out _).mono ?_
  rintro e w' ⟨rfl, rfl⟩
  go_wp2_with fail
  refine (HV.out _).mono ?_
  rintro e w' ⟨rfl, rfl⟩
  go_wp2_with fail
  refine (HD.out _ (Tab.below hT (by repeat (first | (with_reducible exact Below.refl _ _) | (with_reducible assumption) | (with_reducible refine bdrew ?_) | (with_reducible refine baa ?_ _) | (with_reducible refine bs ?_ (by first | exact Nat.le_refl _ | omega | (simp; done) | (simp; omega)) _) | (with_reducible refine bt ?_ (by with_reducible assumption))))) (Tab.below hL (by repeat (first | (with_reducible exact Below.refl _ _) | (with_reducible assumption) | (with_reducible refine bdrew ?_) | (with_reducible refine baa ?_ _) | (with_reducible refine bs ?_ (by first | exact Nat.le_refl _ | omega | (simp; done) | (simp; omega)) _) | (with_reducible refine bt ?_ (by with_reducible assumption)))))).mono ?_
  rintro e w2 ⟨rfl, hb2⟩
  obtain ⟨hc2, hf2⟩ := bcell hb2
  have hz2 := hb2.size
  try simp at hz2
  have hs2x0 : w.heap.size < w2.heap.size := by omega
  have hs2x1 : (w.heap.size + 1) < w2.heap.size := by omega
  have g2x0 : w2.cell? ⟨w.heap.size, 0, none⟩ = some (.int .i64 y) := (hc2 _ _ (by first | omega | (simp; done) | (simp; omega))).trans (by first | (with_reducible assumption) | (simp [go_sem]; done) | (simp [go_sem, *]; done) | assumption)
  have g2x1 : w2.cell? ⟨w.heap.size, 1, none⟩ = some (.int .i64 2) := (hc2 _ _ (by first | omega | (simp; done) | (simp; omega))).trans (by first | (with_reducible assumption) | (simp [go_sem]; done) | (simp [go_sem, *]; done) | assumption)
  have g2x2 : w2.cell? ⟨w.heap.size, 2, none⟩ = some (.bool false) := (hc2 _ _ (by first | omega | (simp; done) | (simp; omega))).trans (by first | (with_reducible assumption) | (simp [go_sem]; done) | (simp [go_sem, *]; done) | assumption)
  have g2x3 : w2.cell? ⟨w.heap.size, 3, none⟩ = some (.int .i64 30) := (hc2 _ _ (by first | omega | (simp; done) | (simp; omega))).trans (by first | (with_reducible assumption) | (simp [go_sem]; done) | (simp [go_sem, *]; done) | assumption)
  have g2x4 : w2.cell? ⟨(w.heap.size + 1), 0, none⟩ = some (.int .i64 0) := (hc2 _ _ (by first | omega | (simp; done) | (simp; omega))).trans (by first | (with_reducible assumption) | (simp [go_sem]; done) | (simp [go_sem, *]; done) | assumption)
  have g2x5 : w2.cell? ⟨(w.heap.size + 1), 1, none⟩ = some (.int .i64 0) := (hc2 _ _ (by first | omega | (simp; done) | (simp; omega))).trans (by first | (with_reducible assumption) | (simp [go_sem]; done) | (simp [go_sem, *]; done) | assumption)
  have g2x6 : w2.cell? ⟨(w.heap.size + 1), 2, none⟩ = some (.bool false) := (hc2 _ _ (by first | omega | (simp; done) | (simp; omega))).trans (by first | (with_reducible assumption) | (simp [go_sem]; done) | (simp [go_sem, *]; done) | assumption)
  have g2x7 : w2.cell? ⟨(w.heap.size + 1), 3, none⟩ = some (.int .i64 0) := (hc2 _ _ (by first | omega | (simp; done) | (simp; omega))).trans (by first | (with_reducible assumption) | (simp [go_sem]; done) | (simp [go_sem, *]; done) | assumption)
  go_wp2_with fail
  refine (HB.out _ (Tab.below hT (by repeat (first | (with_reducible exact Below.refl _ _) | (with_reducible assumption) | (with_reducible refine bdrew ?_) | (with_reducible refine baa ?_ _) | (with_reducible refine bs ?_ (by first | exact Nat.le_refl _ | omega | (simp; done) | (simp; omega)) _) | (with_reducible refine bt ?_ (by with_reducible assumption))))) (Tab.below hL (by repeat (first | (with_reducible exact Below.refl _ _) | (with_reducible assumption) | (with_reducible refine bdrew ?_) | (with_reducible refine baa ?_ _) | (with_reducible refine bs ?_ (by first | exact Nat.le_refl _ | omega | (simp; done) | (simp; omega)) _) | (with_reducible refine bt ?_ (by with_reducible assumption)))))).mono ?_
  rintro e w3 ⟨rfl, hb3⟩
  obtain ⟨hc3, hf3⟩ := bcell hb3
  have hz3 := hb3.size
  try simp at hz3
  have hs3x0 : (w.heap.size + 1) < w3.heap.size := by omega
  have g3x0 : w3.cell? ⟨(w.heap.size + 1), 0, none⟩ = some (.int .i64 0) := (hc3 _ _ (by first | omega | (simp; done) | (simp; omega))).trans (by first | (with_reducible assumption) | (simp [go_sem]; done) | (simp [go_sem, *]; done) | assumption)
  have g3x1 : w3.cell? ⟨(w.heap.size + 1), 1, none⟩ = some (.int .i64 0) := (hc3 _ _ (by first | omega | (simp; done) | (simp; omega))).trans (by first | (with_reducible assumption) | (simp [go_sem]; done) | (simp [go_sem, *]; done) | assumption)
  have g3x2 : w3.cell? ⟨(w.heap.size + 1), 2, none⟩ = some (.bool false) := (hc3 _ _ (by first | omega | (simp; done) | (simp; omega))).trans (by first | (with_reducible assumption) | (simp [go_sem]; done) | (simp [go_sem, *]; done) | assumption)
  have g3x3 : w3.cell? ⟨(w.heap.size + 1), 3, none⟩ = some (.int .i64 0) := (hc3 _ _ (by first | omega | (simp; done) | (simp; omega))).trans (by first | (with_reducible assumption) | (simp [go_sem]; done) | (simp [go_sem, *]; done) | assumption)
  go_wp2_with fail
  refine bodyPost_ret (v := .tuple #[.agg #[.int .i64 (ry), .int .i64 (rn), .bool (rl), .int .i64 (rd)], .int .i64 (0)]) (by simp [results, Tryd.results27, go_sem, *]) rfl ⟨rfl, ?_⟩
  repeat (first | (with_reducible exact Below.refl _ _) | (with_reducible assumption) | (with_reducible refine bdrew ?_) | (with_reducible refine baa ?_ _) | (with_reducible refine bs ?_ (by first | exact Nat.le_refl _ | omega | (simp; done) | (simp; omega)) _) | (with_reducible refine bt ?_ (by with_reducible assumption)))
set_option maxHeartbeats 4000000 in
theorem anniv_Death_c3 (y : Int) (Y : Int) (hy : I64 y) (hY : I64 Y) (w : World) (hT : Tab w 8 kevCells) (hL : Tab w 5 lenCells) (h0 : A18.chkE y 3 false 30 Y = 0) (hl : (decide (D10.lastV (y + 1) 3 false < 30)) = false)  :
    Calls Tryd.prog 27 #[.agg #[.int .i64 (y), .int .i64 (3), .bool (false), .int .i64 (30)], .int .i64 Y] w fun e w' => e = .returned (.tuple #[.agg #[.int .i64 (A18.bY y 3 false 30 Y), .int .i64 (A18.bN y 3 false 30 Y), .bool (A18.bL y 3 false 30 Y), .int .i64 (A18.bD y 3 false 30 Y)], .int .i64 (0)]) ∧ Below w.heap.size w w' := by
  have HC := Lib.hid (fun w hT hL => anniv_check y 3 false 30 Y hy hY w hT hL)
  obtain ⟨hde, h1, h2, hlt⟩ := A18.chk_0 h0
  obtain ⟨hvd, hp⟩ := D10.date_valid hde
  obtain ⟨b1, b2⟩ := (⟨hvd.1, hvd.2.1⟩ : 1 ≤ y ∧ y ≤ 9999)
  rw [h0] at HC
  have HW := Lib.hid (fun w => cycle_Leap_ok y w (by omega) (by omega))
  have HV := Lib.hid (fun w => cycle_Leap_ok Y w (by omega) (by omega))
  have HD := Lib.hid (fun w hT hL => anniv_days (y + 1) 3 false ⟨by omega, by omega⟩ w hT hL)
  have HB := Lib.hid (fun w hT hL => anniv_Birth y 3 false 30 Y hy ⟨by omega, by omega⟩ hY w hT hL)
  rw [h0] at HB
  have y1 := hy.1
  clear hde hvd hp h0
  generalize A18.bY y 3 false 30 Y = ry at *
  generalize A18.bN y 3 false 30 Y = rn at *
  generalize A18.bL y 3 false 30 Y = rl at *
  generalize A18.bD y 3 false 30 Y = rd at *
  generalize D10.lastV (y + 1) 3 false = lv at *
  try generalize Cal.leap y = wl at *
  try generalize Cal.leap Y = il at *
  go_enter Tryd.func27, Tryd.ntmps27
  go_wp2_with fail
  refine (HC.out _ (Tab.below hT (by repeat (first | (with_reducible exact Below.refl _ _) | (with_reducible assumption) | (with_reducible refine bdrew ?_) | (with_reducible refine baa ?_ _) | (with_reducible refine bs ?_ (by first | exact Nat.le_refl _ | omega | (simp; done) | (simp; omega)) _) | (with_reducible refine bt ?_ (by with_reducible assumption))))) (Tab.below hL (by repeat (first | (with_reducible exact Below.refl _ _) | (with_reducible assumption) | (with_reducible refine bdrew ?_) | (with_reducible refine baa ?_ _) | (with_reducible refine bs ?_ (by first | exact Nat.le_refl _ | omega | (simp; done) | (simp; omega)) _) | (with_reducible refine bt ?_ (by with_reducible assumption)))))).mono ?_
  rintro e w1 ⟨rfl, hb1⟩
  obtain ⟨hc1, hf1⟩ := bcell hb1
  have hz1 := hb1.size
  try simp at hz1
  have hs1x0 : w.heap.size < w1.heap.size := by omega
  have hs1x1 : (w.heap.size + 1) < w1.heap.size := by omega
  have g1x0 : w1.cell? ⟨w.heap.size, 0, none⟩ = some (.int .i64 y) := (hc1 _ _ (by first | omega | (simp; done) | (simp; omega))).trans (by first | (with_reducible assumption) | (simp [go_sem]; done) | (simp [go_sem, *]; done) | assumption)
  have g1x1 : w1.cell? ⟨w.heap.size, 1, none⟩ = some (.int .i64 3) := (hc1 _ _ (by first | omega | (simp; done) | (simp; omega))).trans (by first | (with_reducible assumption) | (simp [go_sem]; done) | (simp [go_sem, *]; done) | assumption)
  have g1x2 : w1.cell? ⟨w.heap.size, 2, none⟩ = some (.bool false) := (hc1 _ _ (by first | omega | (simp; done) | (simp; omega))).trans (by first | (with_reducible assumption) | (simp [go_sem]; done) | (simp [go_sem, *]; done) | assumption)
  have g1x3 : w1.cell? ⟨w.heap.size, 3, none⟩ = some (.int .i64 30) := (hc1 _ _ (by first | omega | (simp; done) | (simp; omega))).trans (by first | (with_reducible assumption) | (simp [go_sem]; done) | (simp [go_sem, *]; done) | assumption)
  have g1x4 : w1.cell? ⟨(w.heap.size + 1), 0, none⟩ = some (.int .i64 0) := (hc1 _ _ (by first | omega | (simp; done) | (simp; omega))).trans (by first | (with_reducible assumption) | (simp [go_sem]; done) | (simp [go_sem, *]; done) | assumption)
  have g1x5 : w1.cell? ⟨(w.heap.size + 1), 1, none⟩ = some (.int .i64 0) := (hc1 _ _ (by first | omega | (simp; done) | (simp; omega))).trans (by first | (with_reducible assumption) | (simp [go_sem]; done) | (simp [go_sem, *]; done) | assumption)
  have g1x6 : w1.cell? ⟨(w.heap.size + 1), 2, none⟩ = some (.bool false) := (hc1 _ _ (by first | omega | (simp; done) | (simp; omega))).trans (by first | (with_reducible assumption) | (simp [go_sem]; done) | (simp [go_sem, *]; done) | assumption)
  have g1x7 : w1.cell? ⟨(w.heap.size + 1), 3, none⟩ = some (.int .i64 0) := (hc1 _ _ (by first | omega | (simp; done) | (simp; omega))).trans (by first | (with_reducible assumption) | (simp [go_sem]; done) | (simp [go_sem, *]; done) | assumption)
  go_wp2_with fail
  refine (HW.out _).mono ?_
  rintro e w' ⟨rfl, rfl⟩
  go_wp2_with fail
  refine (HV.out _).mono ?_
  rintro e w' ⟨rfl, rfl⟩
  go_wp2_with fail
  refine (HD.out _ (Tab.below hT (by repeat (first | (with_reducible exact Below.refl _ _) | (with_reducible assumption) | (with_reducible refine bdrew ?_) | (with_reducible refine baa ?_ _) | (with_reducible refine bs ?_ (by first | exact Nat.le_refl _ | omega | (simp; done) | (simp; omega)) _) | (with_reducible refine bt ?_ (by with_reducible assumption))))) (Tab.below hL (by repeat (first | (with_reducible exact Below.refl _ _) | (with_reducible assumption) | (with_reducible refine bdrew ?_) | (with_reducible refine baa ?_ _) | (with_reducible refine bs ?_ (by first | exact Nat.le_refl _ | omega | (simp; done) | (simp; omega)) _) | (with_reducible refine bt ?_ (by with_reducible assumption)))))).mono ?_
  rintro e w2 ⟨rfl, hb2⟩
  obtain ⟨hc2, hf2⟩ := bcell hb2
  have hz2 := hb2.size
  try simp at hz2
  have hs2x0 : w.heap.size < w2.heap.size := by omega
  have hs2x1 : (w.heap.size + 1) < w2.heap.size := by omega
  have g2x0 : w2.cell? ⟨w.heap.size, 0, none⟩ = some (.int .i64 y) := (hc2 _ _ (by first | omega | (simp; done) | (simp; omega))).trans (by first | (with_reducible assumption) | (simp [go_sem]; done) | (simp [go_sem, *]; done) | assumption)
  have g2x1 : w2.cell? ⟨w.heap.size, 1, none⟩ = some (.int .i64 3) := (hc2 _ _ (by first | omega | (simp; done) | (simp; omega))).trans (by first | (with_reducible assumption) | (simp [go_sem]; done) | (simp [go_sem, *]; done) | assumption)
  have g2x2 : w2.cell? ⟨w.heap.size, 2, none⟩ = some (.bool false) := (hc2 _ _ (by first | omega | (simp; done) | (simp; omega))).trans (by first | (with_reducible assumption) | (simp [go_sem]; done) | (simp [go_sem, *]; done) | assumption)
  have g2x3 : w2.cell? ⟨w.heap.size, 3, none⟩ = some (.int .i64 30) := (hc2 _ _ (by first | omega | (simp; done) | (simp; omega))).trans (by first | (with_reducible assumption) | (simp [go_sem]; done) | (simp [go_sem, *]; done) | assumption)
  have g2x4 : w2.cell? ⟨(w.heap.size + 1), 0, none⟩ = some (.int .i64 0) := (hc2 _ _ (by first | omega | (simp; done) | (simp; omega))).trans (by first | (with_reducible assumption) | (simp [go_sem]; done) | (simp [go_sem, *]; done) | assumption)
  have g2x5 : w2.cell? ⟨(w.heap.size + 1), 1, none⟩ = some (.int .i64 0) := (hc2 _ _ (by first | omega | (simp; done) | (simp; omega))).trans (by first | (with_reducible assumption) | (simp [go_sem]; done) | (simp [go_sem, *]; done) | assumption)
  have g2x6 : w2.cell? ⟨(w.heap.size + 1), 2, none⟩ = some (.bool false) := (hc2 _ _ (by first | omega | (simp; done) | (simp; omega))).trans (by first | (with_reducible assumption) | (simp [go_sem]; done) | (simp [go_sem, *]; done) | assumption)
  have g2x7 : w2.cell? ⟨(w.heap.size + 1), 3, none⟩ = some (.int .i64 0) := (hc2 _ _ (by first | omega | (simp; done) | (simp; omega))).trans (by first | (with_reducible assumption) | (simp [go_sem]; done) | (simp [go_sem, *]; done) | assumption)
  go_wp2_with fail
  refine (HB.out _ (Tab.below hT (by repeat (first | (with_reducible exact Below.refl _ _) | (with_reducible assumption) | (with_reducible refine bdrew ?_) | (with_reducible refine baa ?_ _) | (with_reducible refine bs ?_ (by first | exact Nat.le_refl _ | omega | (simp; done) | (simp; omega)) _) | (with_reducible refine bt ?_ (by with_reducible assumption))))) (Tab.below hL (by repeat (first | (with_reducible exact Below.refl _ _) | (with_reducible assumption) | (with_reducible refine bdrew ?_) | (with_reducible refine baa ?_ _) | (with_reducible refine bs ?_ (by first | exact Nat.le_refl _ | omega | (simp; done) | (simp; omega)) _) | (with_reducible refine bt ?_ (by with_reducible assumption)))))).mono ?_
  rintro e w3 ⟨rfl, hb3⟩
  obtain ⟨hc3, hf3⟩ := bcell hb3
  have hz3 := hb3.size
  try simp at hz3
  have hs3x0 : (w.heap.size + 1) < w3.heap.size := by omega
  have g3x0 : w3.cell? ⟨(w.heap.size + 1), 0, none⟩ = some (.int .i64 0) := (hc3 _ _ (by first | omega | (simp; done) | (simp; omega))).trans (by first | (with_reducible assumption) | (simp [go_sem]; done) | (simp [go_sem, *]; done) | assumption)
  have g3x1 : w3.cell? ⟨(w.heap.size + 1), 1, none⟩ = some (.int .i64 0) := (hc3 _ _ (by first | omega | (simp; done) | (simp; omega))).trans (by first | (with_reducible assumption) | (simp [go_sem]; done) | (simp [go_sem, *]; done) | assumption)
  have g3x2 : w3.cell? ⟨(w.heap.size + 1), 2, none⟩ = some (.bool false) := (hc3 _ _ (by first | omega | (simp; done) | (simp; omega))).trans (by first | (with_reducible assumption) | (simp [go_sem]; done) | (simp [go_sem, *]; done) | assumption)
  have g3x3 : w3.cell? ⟨(w.heap.size + 1), 3, none⟩ = some (.int .i64 0) := (hc3 _ _ (by first | omega | (simp; done) | (simp; omega))).trans (by first | (with_reducible assumption) | (simp [go_sem]; done) | (simp [go_sem, *]; done) | assumption)
  go_wp2_with fail
  refine bodyPost_ret (v := .tuple #[.agg #[.int .i64 (ry), .int .i64 (rn), .bool (rl), .int .i64 (rd)], .int .i64 (0)]) (by simp [results, Tryd.results27, go_sem, *]) rfl ⟨rfl, ?_⟩
  repeat (first | (with_reducible exact Below.refl _ _) | (with_reducible assumption) | (with_reducible refine bdrew ?_) | (with_reducible refine baa ?_ _) | (with_reducible refine bs ?_ (by first | exact Nat.le_refl _ | omega | (simp; done) | (simp; omega)) _) | (with_reducible refine bt ?_ (by with_reducible assumption)))
set_option maxHeartbeats 4000000 in
theorem anniv_Death_bl (y n : Int) (Y : Int) (hy : I64 y) (hY : I64 Y) (w : World) (hT : Tab w 8 kevCells) (hL : Tab w 5 lenCells) (h0 : A18.chkE y n true 30 Y = 0) (n2 : (n == 2) = false) (n3 : (n == 3) = false) (hi : Cal.leap Y = false) :
    Calls Tryd.prog 27 #[.agg #[.int .i64 (y), .int .i64 (n), .bool (true), .int .i64 (30)], .int .i64 Y] w fun e w' => e = .returned (.tuple #[.agg #[.int .i64 (Y), .int .i64 (5), .bool (false), .int .i64 (30)], .int .i64 (0)]) ∧ Below w.heap.size w w' := by
  have HC := Lib.hid (fun w hT hL => anniv_check y n true 30 Y hy hY w hT hL)
  obtain ⟨hde, h1, h2, hlt⟩ := A18.chk_0 h0
  obtain ⟨hvd, hp⟩ := D10.date_valid hde
  obtain ⟨b1, b2⟩ := (⟨hvd.1, hvd.2.1⟩ : 1 ≤ y ∧ y ≤ 9999)
  rw [h0] at HC
  have HW := Lib.hid (fun w => cycle_Leap_ok y w (by omega) (by omega))
  have HV := Lib.hid (fun w => cycle_Leap_ok Y w (by omega) (by omega))
  have y1 := hy.1
  clear hde hvd hp h0
  rw [hi] at HV
  clear hi
  try generalize Cal.leap y = wl at *
  try generalize Cal.leap Y = il at *
  go_enter Tryd.func27, Tryd.ntmps27
  go_wp2_with fail
  refine (HC.out _ (Tab.below hT (by repeat (first | (with_reducible exact Below.refl _ _) | (with_reducible assumption) | (with_reducible refine bdrew ?_) | (with_reducible refine baa ?_ _) | (with_reducible refine bs ?_ (by first | exact Nat.le_refl _ | omega | (simp; done) | (simp; omega)) _) | (with_reducible refine bt ?_ (by with_reducible assumption))))) (Tab.below hL (by repeat (first | (with_reducible exact Below.refl _ _) | (with_reducible assumption) | (with_reducible refine bdrew ?_) | (with_reducible refine baa ?_ _) | (with_reducible refine bs ?_ (by first | exact Nat.le_refl _ | omega | (simp; done) | (simp; omega)) _) | (with_reducible refine bt ?_ (by with_reducible assumption)))))).mono ?_
  rintro e w1 ⟨rfl, hb1⟩
  obtain ⟨hc1, hf1⟩ := bcell hb1
  have hz1 := hb1.size
  try simp at hz1
  have hs1x0 : w.heap.size < w1.heap.size := by omega
  have hs1x1 : (w.heap.size + 1) < w1.heap.size := by omega
  have g1x0 : w1.cell? ⟨w.heap.size, 0, none⟩ = some (.int .i64 y) := (hc1 _ _ (by first | omega | (simp; done) | (simp; omega))).trans (by first | (with_reducible assumption) | (simp [go_sem]; done) | (simp [go_sem, *]; done) | assumption)
  have g1x1 : w1.cell? ⟨w.heap.size, 1, none⟩ = some (.int .i64 n) := (hc1 _ _ (by first | omega | (simp; done) | (simp; omega))).trans (by first | (with_reducible assumption) | (simp [go_sem]; done) | (simp [go_sem, *]; done) | assumption)
  have g1x2 : w1.cell? ⟨w.heap.size, 2, none⟩ = some (.bool true) := (hc1 _ _ (by first | omega | (simp; done) | (simp; omega))).trans (by first | (with_reducible assumption) | (simp [go_sem]; done) | (simp [go_sem, *]; done) | assumption)
  have g1x3 : w1.cell? ⟨w.heap.size, 3, none⟩ = some (.int .i64 30) := (hc1 _ _ (by first | omega | (simp; done) | (simp; omega))).trans (by first | (with_reducible assumption) | (simp [go_sem]; done) | (simp [go_sem, *]; done) | assumption)
  have g1x4 : w1.cell? ⟨(w.heap.size + 1), 0, none⟩ = some (.int .i64 0) := (hc1 _ _ (by first | omega | (simp; done) | (simp; omega))).trans (by first | (with_reducible assumption) | (simp [go_sem]; done) | (simp [go_sem, *]; done) | assumption)
  have g1x5 : w1.cell? ⟨(w.heap.size + 1), 1, none⟩ = some (.int .i64 0) := (hc1 _ _ (by first | omega | (simp; done) | (simp; omega))).trans (by first | (with_reducible assumption) | (simp [go_sem]; done) | (simp [go_sem, *]; done) | assumption)
  have g1x6 : w1.cell? ⟨(w.heap.size + 1), 2, none⟩ = some (.bool false) := (hc1 _ _ (by first | omega | (simp; done) | (simp; omega))).trans (by first | (with_reducible assumption) | (simp [go_sem]; done) | (simp [go_sem, *]; done) | assumption)
  have g1x7 : w1.cell? ⟨(w.heap.size + 1), 3, none⟩ = some (.int .i64 0) := (hc1 _ _ (by first | omega | (simp; done) | (simp; omega))).trans (by first | (with_reducible assumption) | (simp [go_sem]; done) | (simp [go_sem, *]; done) | assumption)
  go_wp2_with fail
  refine (HW.out _).mono ?_
  rintro e w' ⟨rfl, rfl⟩
  go_wp2_with fail
  refine (HV.out _).mono ?_
  rintro e w' ⟨rfl, rfl⟩
  go_wp2_with fail
  refine bodyPost_ret (v := .tuple #[.agg #[.int .i64 (Y), .int .i64 (5), .bool (false), .int .i64 (30)], .int .i64 (0)]) (by simp [results, Tryd.results27, go_sem, *]) rfl ⟨rfl, ?_⟩
  repeat (first | (with_reducible exact Below.refl _ _) | (with_reducible assumption) | (with_reducible refine bdrew ?_) | (with_reducible refine baa ?_ _) | (with_reducible refine bs ?_ (by first | exact Nat.le_refl _ | omega | (simp; done) | (simp; omega)) _) | (with_reducible refine bt ?_ (by with_reducible assumption)))
set_option maxHeartbeats 4000000 in
theorem anniv_Death_bll (y n : Int) (Y : Int) (hy : I64 y) (hY : I64 Y) (w : World) (hT : Tab w 8 kevCells) (hL : Tab w 5 lenCells) (h0 : A18.chkE y n true 30 Y = 0) (n2 : (n == 2) = false) (n3 : (n == 3) = false) (n6 : (n == 6) = false) (hi : Cal.leap Y = true) :
    Calls Tryd.prog 27 #[.agg #[.int .i64 (y), .int .i64 (n), .bool (true), .int .i64 (30)], .int .i64 Y] w fun e w' => e = .returned (.tuple #[.agg #[.int .i64 (A18.bY y n true 30 Y), .int .i64 (A18.bN y n true 30 Y), .bool (A18.bL y n true 30 Y), .int .i64 (A18.bD y n true 30 Y)], .int .i64 (0)]) ∧ Below w.heap.size w w' := by
  have HC := Lib.hid (fun w hT hL => anniv_check y n true 30 Y hy hY w hT hL)
  obtain ⟨hde, h1, h2, hlt⟩ := A18.chk_0 h0
  obtain ⟨hvd, hp⟩ := D10.date_valid hde
  obtain ⟨b1, b2⟩ := (⟨hvd.1, hvd.2.1⟩ : 1 ≤ y ∧ y ≤ 9999)
  rw [h0] at HC
  have HW := Lib.hid (fun w => cycle_Leap_ok y w (by omega) (by omega))
  have HV := Lib.hid (fun w => cycle_Leap_ok Y w (by omega) (by omega))
  have HB := Lib.hid (fun w hT hL => anniv_Birth y n true 30 Y hy ⟨by omega, by omega⟩ hY w hT hL)
  rw [h0] at HB
  have y1 := hy.1
  clear hde hvd hp h0
  rw [hi] at HV
  generalize A18.bY y n true 30 Y = ry at *
  generalize A18.bN y n true 30 Y = rn at *
  generalize A18.bL y n true 30 Y = rl at *
  generalize A18.bD y n true 30 Y = rd at *
  clear hi
  try generalize Cal.leap y = wl at *
  try generalize Cal.leap Y = il at *
  go_enter Tryd.func27, Tryd.ntmps27
  go_wp2_with fail
  refine (HC.out _ (Tab.below hT (by repeat (first | (with_reducible exact Below.refl _ _) | (with_reducible assumption) | (with_reducible refine bdrew ?_) | (with_reducible refine baa ?_ _) | (with_reducible refine bs ?_ (by first | exact Nat.le_refl _ | omega | (simp; done) | (simp; omega)) _) | (with_reducible refine bt ?_ (by with_reducible assumption))))) (Tab.below hL (by repeat (first | (with_reducible exact Below.refl _ _) | (with_reducible assumption) | (with_reducible refine bdrew ?_) | (with_reducible refine baa ?_ _) | (with_reducible refine bs ?_ (by first | exact Nat.le_refl _ | omega | (simp; done) | (simp; omega)) _) | (with_reducible refine bt ?_ (by with_reducible assumption)))))).mono ?_
  rintro e w1 ⟨rfl, hb1⟩
  obtain ⟨hc1, hf1⟩ := bcell hb1
  have hz1 := hb1.size
  try simp at hz1
  have hs1x0 : w.heap.size < w1.heap.size := by omega
  have hs1x1 : (w.heap.size + 1) < w1.heap.size := by omega
  have g1x0 : w1.cell? ⟨w.heap.size, 0, none⟩ = some (.int .i64 y) := (hc1 _ _ (by first | omega | (simp; done) | (simp; omega))).trans (by first | (with_reducible assumption) | (simp [go_sem]; done) | (simp [go_sem, *]; done) | assumption)
  have g1x1 : w1.cell? ⟨w.heap.size, 1, none⟩ = some (.int .i64 n) := (hc1 _ _ (by first | omega | (simp; done) | (simp; omega))).trans (by first | (with_reducible assumption) | (simp [go_sem]; done) | (simp [go_sem, *]; done) | assumption)
  have g1x2 : w1.cell? ⟨w.heap.size, 2, none⟩ = some (.bool true) := (hc1 _ _ (by first | omega | (simp; done) | (simp; omega))).trans (by first | (with_reducible assumption) | (simp [go_sem]; done) | (simp [go_sem, *]; done) | assumption)
  have g1x3 : w1.cell? ⟨w.heap.size, 3, none⟩ = some (.int .i64 30) := (hc1 _ _ (by first | omega | (simp; done) | (simp; omega))).trans (by first | (with_reducible assumption) | (simp [go_sem]; done) | (simp [go_sem, *]; done) | assumption)
  have g1x4 : w1.cell? ⟨(w.heap.size + 1), 0, none⟩ = some (.int .i64 0) := (hc1 _ _ (by first | omega | (simp; done) | (simp; omega))).trans (by first | (with_reducible assumption) | (simp [go_sem]; done) | (simp [go_sem, *]; done) | assumption)
  have g1x5 : w1.cell? ⟨(w.heap.size + 1), 1, none⟩ = some (.int .i64 0) := (hc1 _ _ (by first | omega | (simp; done) | (simp; omega))).trans (by first | (with_reducible assumption) | (simp [go_sem]; done) | (simp [go_sem, *]; done) | assumption)
  have g1x6 : w1.cell? ⟨(w.heap.size + 1), 2, none⟩ = some (.bool false) := (hc1 _ _ (by first | omega | (simp; done) | (simp; omega))).trans (by first | (with_reducible assumption) | (simp [go_sem]; done) | (simp [go_sem, *]; done) | assumption)
  have g1x7 : w1.cell? ⟨(w.heap.size + 1), 3, none⟩ = some (.int .i64 0) := (hc1 _ _ (by first | omega | (simp; done) | (simp; omega))).trans (by first | (with_reducible assumption) | (simp [go_sem]; done) | (simp [go_sem, *]; done) | assumption)
  go_wp2_with fail
  refine (HW.out _).mono ?_
  rintro e w' ⟨rfl, rfl⟩
  go_wp2_with fail
  refine (HV.out _).mono ?_
  rintro e w' ⟨rfl, rfl⟩
  go_wp2_with fail
  refine (HB.out _ (Tab.below hT (by repeat (first | (with_reducible exact Below.refl _ _) | (with_reducible assumption) | (with_reducible refine bdrew ?_) | (with_reducible refine baa ?_ _) | (with_reducible refine bs ?_ (by first | exact Nat.le_refl _ | omega | (simp; done) | (simp; omega)) _) | (with_reducible refine bt ?_ (by with_reducible assumption))))) (Tab.below hL (by repeat (first | (with_reducible exact Below.refl _ _) | (with_reducible assumption) | (with_reducible refine bdrew ?_) | (with_reducible refine baa ?_ _) | (with_reducible refine bs ?_ (by first | exact Nat.le_refl _ | omega | (simp; done) | (simp; omega)) _) | (with_reducible refine bt ?_ (by with_reducible assumption)))))).mono ?_
  rintro e w3 ⟨rfl, hb3⟩
  obtain ⟨hc3, hf3⟩ := bcell hb3
  have hz3 := hb3.size
  try simp at hz3
  have hs3x0 : (w.heap.size + 1) < w3.heap.size := by omega
  have g3x0 : w3.cell? ⟨(w.heap.size + 1), 0, none⟩ = some (.int .i64 0) := (hc3 _ _ (by first | omega | (simp; done) | (simp; omega))).trans (by first | (with_reducible assumption) | (simp [go_sem]; done) | (simp [go_sem, *]; done) | assumption)
  have g3x1 : w3.cell? ⟨(w.heap.size + 1), 1, none⟩ = some (.int .i64 0) := (hc3 _ _ (by first | omega | (simp; done) | (simp; omega))).trans (by first | (with_reducible assumption) | (simp [go_sem]; done) | (simp [go_sem, *]; done) | assumption)
  have g3x2 : w3.cell? ⟨(w.heap.size + 1), 2, none⟩ = some (.bool false) := (hc3 _ _ (by first | omega | (simp; done) | (simp; omega))).trans (by first | (with_reducible assumption) | (simp [go_sem]; done) | (simp [go_sem, *]; done) | assumption)
  have g3x3 : w3.cell? ⟨(w.heap.size + 1), 3, none⟩ = some (.int .i64 0) := (hc3 _ _ (by first | omega | (simp; done) | (simp; omega))).trans (by first | (with_reducible assumption) | (simp [go_sem]; done) | (simp [go_sem, *]; done) | assumption)
  go_wp2_with fail
  refine bodyPost_ret (v := .tuple #[.agg #[.int .i64 (ry), .int .i64 (rn), .bool (rl), .int .i64 (rd)], .int .i64 (0)]) (by simp [results, Tryd.results27, go_sem, *]) rfl ⟨rfl, ?_⟩
  repeat (first | (with_reducible exact Below.refl _ _) | (with_reducible assumption) | (with_reducible refine bdrew ?_) | (with_reducible refine baa ?_ _) | (with_reducible refine bs ?_ (by first | exact Nat.le_refl _ | omega | (simp; done) | (simp; omega)) _) | (with_reducible refine bt ?_ (by with_reducible assumption)))
set_option maxHeartbeats 4000000 in
theorem anniv_Death_bp (y n : Int) (Y : Int) (hy : I64 y) (hY : I64 Y) (w : World) (hT : Tab w 8 kevCells) (hL : Tab w 5 lenCells) (h0 : A18.chkE y n false 30 Y = 0) (n2 : (n == 2) = false) (n3 : (n == 3) = false) (n6 : (n == 6) = false) :
    Calls Tryd.prog 27 #[.agg #[.int .i64 (y), .int .i64 (n), .bool (false), .int .i64 (30)], .int .i64 Y] w fun e w' => e = .returned (.tuple #[.agg #[.int .i64 (A18.bY y n false 30 Y), .int .i64 (A18.bN y n false 30 Y), .bool (A18.bL y n false 30 Y), .int .i64 (A18.bD y n false 30 Y)], .int .i64 (0)]) ∧ Below w.heap.size w w' := by
  have HC := Lib.hid (fun w hT hL => anniv_check y n false 30 Y hy hY w hT hL)
  obtain ⟨hde, h1, h2, hlt⟩ := A18.chk_0 h0
  obtain ⟨hvd, hp⟩ := D10.date_valid hde
  obtain ⟨b1, b2⟩ := (⟨hvd.1, hvd.2.1⟩ : 1 ≤ y ∧ y ≤ 9999)
  rw [h0] at HC
  have HW := Lib.hid (fun w => cycle_Leap_ok y w (by omega) (by omega))
  have HV := Lib.hid (fun w => cycle_Leap_ok Y w (by omega) (by omega))
  have HB := Lib.hid (fun w hT hL => anniv_Birth y n false 30 Y hy ⟨by omega, by omega⟩ hY w hT hL)
  rw [h0] at HB
  have y1 := hy.1
  clear hde hvd hp h0
  generalize A18.bY y n false 30 Y = ry at *
  generalize A18.bN y n false 30 Y = rn at *
  generalize A18.bL y n false 30 Y = rl at *
  generalize A18.bD y n false 30 Y = rd at *
  try generalize Cal.leap y = wl at *
  try generalize Cal.leap Y = il at *
  go_enter Tryd.func27, Tryd.ntmps27
  go_wp2_with fail
  refine (HC.out _ (Tab.below hT (by repeat (first | (with_reducible exact Below.refl _ _) | (with_reducible assumption) | (with_reducible refine bdrew ?_) | (with_reducible refine baa ?_ _) | (with_reducible refine bs ?_ (by first | exact Nat.le_refl _ | omega | (simp; done) | (simp; omega)) _) | (with_reducible refine bt ?_ (by with_reducible assumption))))) (Tab.below hL (by repeat (first | (with_reducible exact Below.refl _ _) | (with_reducible assumption) | (with_reducible refine bdrew ?_) | (with_reducible refine baa ?_ _) | (with_reducible refine bs ?_ (by first | exact Nat.le_refl _ | omega | (simp; done) | (simp; omega)) _) | (with_reducible refine bt ?_ (by with_reducible assumption)))))).mono ?_
  rintro e w1 ⟨rfl, hb1⟩
  obtain ⟨hc1, hf1⟩ := bcell hb1
  have hz1 := hb1.size
  try simp at hz1
  have hs1x0 : w.heap.size < w1.heap.size := by omega
  have hs1x1 : (w.heap.size + 1) < w1.heap.size := by omega
  have g1x0 : w1.cell? ⟨w.heap.size, 0, none⟩ = some (.int .i64 y) := (hc1 _ _ (by first | omega | (simp; done) | (simp; omega))).trans (by first | (with_reducible assumption) | (simp [go_sem]; done) | (simp [go_sem, *]; done) | assumption)
  have g1x1 : w1.cell? ⟨w.heap.size, 1, none⟩ = some (.int .i64 n) := (hc1 _ _ (by first | omega | (simp; done) | (simp; omega))).trans (by first | (with_reducible assumption) | (simp [go_sem]; done) | (simp [go_sem, *]; done) | assumption)
  have g1x2 : w1.cell? ⟨w.heap.size, 2, none⟩ = some (.bool false) := (hc1 _ _ (by first | omega | (simp; done) | (simp; omega))).trans (by first | (with_reducible assumption) | (simp [go_sem]; done) | (simp [go_sem, *]; done) | assumption)
  have g1x3 : w1.cell? ⟨w.heap.size, 3, none⟩ = some (.int .i64 30) := (hc1 _ _ (by first | omega | (simp; done) | (simp; omega))).trans (by first | (with_reducible assumption) | (simp [go_sem]; done) | (simp [go_sem, *]; done) | assumption)
  have g1x4 : w1.cell? ⟨(w.heap.size + 1), 0, none⟩ = some (.int .i64 0) := (hc1 _ _ (by first | omega | (simp; done) | (simp; omega))).trans (by first | (with_reducible assumption) | (simp [go_sem]; done) | (simp [go_sem, *]; done) | assumption)
  have g1x5 : w1.cell? ⟨(w.heap.size + 1), 1, none⟩ = some (.int .i64 0) := (hc1 _ _ (by first | omega | (simp; done) | (simp; omega))).trans (by first | (with_reducible assumption) | (simp [go_sem]; done) | (simp [go_sem, *]; done) | assumption)
  have g1x6 : w1.cell? ⟨(w.heap.size + 1), 2, none⟩ = some (.bool false) := (hc1 _ _ (by first | omega | (simp; done) | (simp; omega))).trans (by first | (with_reducible assumption) | (simp [go_sem]; done) | (simp [go_sem, *]; done) | assumption)
  have g1x7 : w1.cell? ⟨(w.heap.size + 1), 3, none⟩ = some (.int .i64 0) := (hc1 _ _ (by first | omega | (simp; done) | (simp; omega))).trans (by first | (with_reducible assumption) | (simp [go_sem]; done) | (simp [go_sem, *]; done) | assumption)
  go_wp2_with fail
  refine (HW.out _).mono ?_
  rintro e w' ⟨rfl, rfl⟩
  go_wp2_with fail
  refine (HV.out _).mono ?_
  rintro e w' ⟨rfl, rfl⟩
  go_wp2_with fail
  refine (HB.out _ (Tab.below hT (by repeat (first | (with_reducible exact Below.refl _ _) | (with_reducible assumption) | (with_reducible refine bdrew ?_) | (with_reducible refine baa ?_ _) | (with_reducible refine bs ?_ (by first | exact Nat.le_refl _ | omega | (simp; done) | (simp; omega)) _) | (with_reducible refine bt ?_ (by with_reducible assumption))))) (Tab.below hL (by repeat (first | (with_reducible exact Below.refl _ _) | (with_reducible assumption) | (with_reducible refine bdrew ?_) | (with_reducible refine baa ?_ _) | (with_reducible refine bs ?_ (by first | exact Nat.le_refl _ | omega | (simp; done) | (simp; omega)) _) | (with_reducible refine bt ?_ (by with_reducible assumption)))))).mono ?_
  rintro e w3 ⟨rfl, hb3⟩
  obtain ⟨hc3, hf3⟩ := bcell hb3
  have hz3 := hb3.size
  try simp at hz3
  have hs3x0 : (w.heap.size + 1) < w3.heap.size := by omega
  have g3x0 : w3.cell? ⟨(w.heap.size + 1), 0, none⟩ = some (.int .i64 0) := (hc3 _ _ (by first | omega | (simp; done) | (simp; omega))).trans (by first | (with_reducible assumption) | (simp [go_sem]; done) | (simp [go_sem, *]; done) | assumption)
  have g3x1 : w3.cell? ⟨(w.heap.size + 1), 1, none⟩ = some (.int .i64 0) := (hc3 _ _ (by first | omega | (simp; done) | (simp; omega))).trans (by first | (with_reducible assumption) | (simp [go_sem]; done) | (simp [go_sem, *]; done) | assumption)
  have g3x2 : w3.cell? ⟨(w.heap.size + 1), 2, none⟩ = some (.bool false) := (hc3 _ _ (by first | omega | (simp; done) | (simp; omega))).trans (by first | (with_reducible assumption) | (simp [go_sem]; done) | (simp [go_sem, *]; done) | assumption)
  have g3x3 : w3.cell? ⟨(w.heap.size + 1), 3, none⟩ = some (.int .i64 0) := (hc3 _ _ (by first | omega | (simp; done) | (simp; omega))).trans (by first | (with_reducible assumption) | (simp [go_sem]; done) | (simp [go_sem, *]; done) | assumption)
  go_wp2_with fail
  refine bodyPost_ret (v := .tuple #[.agg #[.int .i64 (ry), .int .i64 (rn), .bool (rl), .int .i64 (rd)], .int .i64 (0)]) (by simp [results, Tryd.results27, go_sem, *]) rfl ⟨rfl, ?_⟩
  repeat (first | (with_reducible exact Below.refl _ _) | (with_reducible assumption) | (with_reducible refine bdrew ?_) | (with_reducible refine baa ?_ _) | (with_reducible refine bs ?_ (by first | exact Nat.le_refl _ | omega | (simp; done) | (simp; omega)) _) | (with_reducible refine bt ?_ (by with_reducible assumption)))
set_option maxHeartbeats 4000000 in
theorem anniv_Death_k3 (y : Int) (l : Bool) (d Y : Int) (hy : I64 y) (hd : I64 d) (hY : I64 Y) (w : World) (hT : Tab w 8 kevCells) (hL : Tab w 5 lenCells) (h0 : A18.chkE y 6 l d Y = 0) (d30 : (d == 30) = false) (hw : Cal.leap y = false) (hi : Cal.leap Y = true) :
    Calls Tryd.prog 27 #[.agg #[.int .i64 (y), .int .i64 (6), .bool (l), .int .i64 (d)], .int .i64 Y] w fun e w' => e = .returned (.tuple #[.agg #[.int .i64 (Y), .int .i64 (Cal.ofN (Cal.leap Y) (A18.cM Y 6 d)), .bool (Cal.ofL (Cal.leap Y) (A18.cM Y 6 d)), .int .i64 (A18.cD Y 6 d)], .int .i64 (0)]) ∧ Below w.heap.size w w' := by
  have HC := Lib.hid (fun w hT hL => anniv_check y 6 l d Y hy hY w hT hL)
  obtain ⟨hde, h1, h2, hlt⟩ := A18.chk_0 h0
  obtain ⟨hvd, hp⟩ := D10.date_valid hde
  obtain ⟨b1, b2⟩ := (⟨hvd.1, hvd.2.1⟩ : 1 ≤ y ∧ y ≤ 9999)
  rw [h0] at HC
  have HW := Lib.hid (fun w => cycle_Leap_ok y w (by omega) (by omega))
  have HV := Lib.hid (fun w => cycle_Leap_ok Y w (by omega) (by omega))
  have hk : A18.k3 y 6 Y = true := by unfold A18.k3; simp [hw, hi]
  obtain ⟨_, hv, hD⟩ := A18.six_there h0 hk
  have hb := D10.len_bd Y 6 h1 h2 (by omega) (by rw [hi]; decide)
  obtain ⟨_, _, d1, d2, _⟩ := A18.bir_ok h0
  have v1 : D10.Valid Y 6 1 := ⟨h1, h2, by omega, by rw [hi]; decide, by omega, by omega⟩
  obtain ⟨q0, qD⟩ := D10.valid_date v1
  rw [hi, show Cal.ofN true 6 = 5 by decide, show Cal.ofL true 6 = true by decide] at q0 qD
  rw [← qD] at hD
  have HN := Lib.hid (fun w hT hL => anniv_counted Y 5 true d (A18.cM Y 6 d) (A18.cD Y 6 d) hY w hT hL q0 ⟨d1, d2⟩ hv hD.symm)
  clear hk hv hD hb v1 q0 qD
  have y1 := hy.1
  clear hde hvd hp h0
  rw [hi] at HV
  rw [hw] at HW
  generalize Cal.ofN (Cal.leap Y) (A18.cM Y 6 d) = rn at *
  generalize Cal.ofL (Cal.leap Y) (A18.cM Y 6 d) = rl at *
  generalize A18.cD Y 6 d = rd at *
  clear hi
  clear hw
  try generalize Cal.leap y = wl at *
  try generalize Cal.leap Y = il at *
  go_enter Tryd.func27, Tryd.ntmps27
  go_wp2_with fail
  refine (HC.out _ (Tab.below hT (by repeat (first | (with_reducible exact Below.refl _ _) | (with_reducible assumption) | (with_reducible refine bdrew ?_) | (with_reducible refine baa ?_ _) | (with_reducible refine bs ?_ (by first | exact Nat.le_refl _ | omega | (simp; done) | (simp; omega)) _) | (with_reducible refine bt ?_ (by with_reducible assumption))))) (Tab.below hL (by repeat (first | (with_reducible exact Below.refl _ _) | (with_reducible assumption) | (with_reducible refine bdrew ?_) | (with_reducible refine baa ?_ _) | (with_reducible refine bs ?_ (by first | exact Nat.le_refl _ | omega | (simp; done) | (simp; omega)) _) | (with_reducible refine bt ?_ (by with_reducible assumption)))))).mono ?_
  rintro e w1 ⟨rfl, hb1⟩
  obtain ⟨hc1, hf1⟩ := bcell hb1
  have hz1 := hb1.size
  try simp at hz1
  have hs1x0 : w.heap.size < w1.heap.size := by omega
  have hs1x1 : (w.heap.size + 1) < w1.heap.size := by omega
  have g1x0 : w1.cell? ⟨w.heap.size, 0, none⟩ = some (.int .i64 y) := (hc1 _ _ (by first | omega | (simp; done) | (simp; omega))).trans (by first | (with_reducible assumption) | (simp [go_sem]; done) | (simp [go_sem, *]; done) | assumption)
  have g1x1 : w1.cell? ⟨w.heap.size, 1, none⟩ = some (.int .i64 6) := (hc1 _ _ (by first | omega | (simp; done) | (simp; omega))).trans (by first | (with_reducible assumption) | (simp [go_sem]; done) | (simp [go_sem, *]; done) | assumption)
  have g1x2 : w1.cell? ⟨w.heap.size, 2, none⟩ = some (.bool l) := (hc1 _ _ (by first | omega | (simp; done) | (simp; omega))).trans (by first | (with_reducible assumption) | (simp [go_sem]; done) | (simp [go_sem, *]; done) | assumption)
  have g1x3 : w1.cell? ⟨w.heap.size, 3, none⟩ = some (.int .i64 d) := (hc1 _ _ (by first | omega | (simp; done) | (simp; omega))).trans (by first | (with_reducible assumption) | (simp [go_sem]; done) | (simp [go_sem, *]; done) | assumption)
  have g1x4 : w1.cell? ⟨(w.heap.size + 1), 0, none⟩ = some (.int .i64 0) := (hc1 _ _ (by first | omega | (simp; done) | (simp; omega))).trans (by first | (with_reducible assumption) | (simp [go_sem]; done) | (simp [go_sem, *]; done) | assumption)
  have g1x5 : w1.cell? ⟨(w.heap.size + 1), 1, none⟩ = some (.int .i64 0) := (hc1 _ _ (by first | omega | (simp; done) | (simp; omega))).trans (by first | (with_reducible assumption) | (simp [go_sem]; done) | (simp [go_sem, *]; done) | assumption)
  have g1x6 : w1.cell? ⟨(w.heap.size + 1), 2, none⟩ = some (.bool false) := (hc1 _ _ (by first | omega | (simp; done) | (simp; omega))).trans (by first | (with_reducible assumption) | (simp [go_sem]; done) | (simp [go_sem, *]; done) | assumption)
  have g1x7 : w1.cell? ⟨(w.heap.size + 1), 3, none⟩ = some (.int .i64 0) := (hc1 _ _ (by first | omega | (simp; done) | (simp; omega))).trans (by first | (with_reducible assumption) | (simp [go_sem]; done) | (simp [go_sem, *]; done) | assumption)
  go_wp2_with fail
  refine (HW.out _).mono ?_
  rintro e w' ⟨rfl, rfl⟩
  go_wp2_with fail
  refine (HV.out _).mono ?_
  rintro e w' ⟨rfl, rfl⟩
  go_wp2_with fail
  refine (HN.out _ (Tab.below hT (by repeat (first | (with_reducible exact Below.refl _ _) | (with_reducible assumption) | (with_reducible refine bdrew ?_) | (with_reducible refine baa ?_ _) | (with_reducible refine bs ?_ (by first | exact Nat.le_refl _ | omega | (simp; done) | (simp; omega)) _) | (with_reducible refine bt ?_ (by with_reducible assumption))))) (Tab.below hL (by repeat (first | (with_reducible exact Below.refl _ _) | (with_reducible assumption) | (with_reducible refine bdrew ?_) | (with_reducible refine baa ?_ _) | (with_reducible refine bs ?_ (by first | exact Nat.le_refl _ | omega | (simp; done) | (simp; omega)) _) | (with_reducible refine bt ?_ (by with_reducible assumption)))))).mono ?_
  rintro e w3 ⟨rfl, hb3⟩
  obtain ⟨hc3, hf3⟩ := bcell hb3
  have hz3 := hb3.size
  try simp at hz3
  have hs3x0 : (w.heap.size + 1) < w3.heap.size := by omega
  have g3x0 : w3.cell? ⟨(w.heap.size + 1), 0, none⟩ = some (.int .i64 0) := (hc3 _ _ (by first | omega | (simp; done) | (simp; omega))).trans (by first | (with_reducible assumption) | (simp [go_sem]; done) | (simp [go_sem, *]; done) | assumption)
  have g3x1 : w3.cell? ⟨(w.heap.size + 1), 1, none⟩ = some (.int .i64 0) := (hc3 _ _ (by first | omega | (simp; done) | (simp; omega))).trans (by first | (with_reducible assumption) | (simp [go_sem]; done) | (simp [go_sem, *]; done) | assumption)
  have g3x2 : w3.cell? ⟨(w.heap.size + 1), 2, none⟩ = some (.bool false) := (hc3 _ _ (by first | omega | (simp; done) | (simp; omega))).trans (by first | (with_reducible assumption) | (simp [go_sem]; done) | (simp [go_sem, *]; done) | assumption)
  have g3x3 : w3.cell? ⟨(w.heap.size + 1), 3, none⟩ = some (.int .i64 0) := (hc3 _ _ (by first | omega | (simp; done) | (simp; omega))).trans (by first | (with_reducible assumption) | (simp [go_sem]; done) | (simp [go_sem, *]; done) | assumption)
  go_wp2_with fail
  refine bodyPost_ret (v := .tuple #[.agg #[.int .i64 (Y), .int .i64 (rn), .bool (rl), .int .i64 (rd)], .int .i64 (0)]) (by simp [results, Tryd.results27, go_sem, *]) rfl ⟨rfl, ?_⟩
  repeat (first | (with_reducible exact Below.refl _ _) | (with_reducible assumption) | (with_reducible refine bdrew ?_) | (with_reducible refine baa ?_ _) | (with_reducible refine bs ?_ (by first | exact Nat.le_refl _ | omega | (simp; done) | (simp; omega)) _) | (with_reducible refine bt ?_ (by with_reducible assumption)))
set_option maxHeartbeats 4000000 in
theorem anniv_Death_6w (y : Int) (l : Bool) (d Y : Int) (hy : I64 y) (hd : I64 d) (hY : I64 Y) (w : World) (hT : Tab w 8 kevCells) (hL : Tab w 5 lenCells) (h0 : A18.chkE y 6 l d Y = 0) (d30 : (d == 30) = false) (hw : Cal.leap y = true) :
    Calls Tryd.prog 27 #[.agg #[.int .i64 (y), .int .i64 (6), .bool (l), .int .i64 (d)], .int .i64 Y] w fun e w' => e = .returned (.tuple #[.agg #[.int .i64 (A18.bY y 6 l d Y), .int .i64 (A18.bN y 6 l d Y), .bool (A18.bL y 6 l d Y), .int .i64 (A18.bD y 6 l d Y)], .int .i64 (0)]) ∧ Below w.heap.size w w' := by
  have HC := Lib.hid (fun w hT hL => anniv_check y 6 l d Y hy hY w hT hL)
  obtain ⟨hde, h1, h2, hlt⟩ := A18.chk_0 h0
  obtain ⟨hvd, hp⟩ := D10.date_valid hde
  obtain ⟨b1, b2⟩ := (⟨hvd.1, hvd.2.1⟩ : 1 ≤ y ∧ y ≤ 9999)
  rw [h0] at HC
  have HW := Lib.hid (fun w => cycle_Leap_ok y w (by omega) (by omega))
  have HV := Lib.hid (fun w => cycle_Leap_ok Y w (by omega) (by omega))
  have HB := Lib.hid (fun w hT hL => anniv_Birth y 6 l d Y hy hd hY w hT hL)
  rw [h0] at HB
  have y1 := hy.1
  clear hde hvd hp h0
  rw [hw] at HW
  generalize A18.bY y 6 l d Y = ry at *
  generalize A18.bN y 6 l d Y = rn at *
  generalize A18.bL y 6 l d Y = rl at *
  generalize A18.bD y 6 l d Y = rd at *
  clear hw
  try generalize Cal.leap y = wl at *
  try generalize Cal.leap Y = il at *
  go_enter Tryd.func27, Tryd.ntmps27
  go_wp2_with fail
  refine (HC.out _ (Tab.below hT (by repeat (first | (with_reducible exact Below.refl _ _) | (with_reducible assumption) | (with_reducible refine bdrew ?_) | (with_reducible refine baa ?_ _) | (with_reducible refine bs ?_ (by first | exact Nat.le_refl _ | omega | (simp; done) | (simp; omega)) _) | (with_reducible refine bt ?_ (by with_reducible assumption))))) (Tab.below hL (by repeat (first | (with_reducible exact Below.refl _ _) | (with_reducible assumption) | (with_reducible refine bdrew ?_) | (with_reducible refine baa ?_ _) | (with_reducible refine bs ?_ (by first | exact Nat.le_refl _ | omega | (simp; done) | (simp; omega)) _) | (with_reducible refine bt ?_ (by with_reducible assumption)))))).mono ?_
  rintro e w1 ⟨rfl, hb1⟩
  obtain ⟨hc1, hf1⟩ := bcell hb1
  have hz1 := hb1.size
  try simp at hz1
  have hs1x0 : w.heap.size < w1.heap.size := by omega
  have hs1x1 : (w.heap.size + 1) < w1.heap.size := by omega
  have g1x0 : w1.cell? ⟨w.heap.size, 0, none⟩ = some (.int .i64 y) := (hc1 _ _ (by first | omega | (simp; done) | (simp; omega))).trans (by first | (with_reducible assumption) | (simp [go_sem]; done) | (simp [go_sem, *]; done) | assumption)
  have g1x1 : w1.cell? ⟨w.heap.size, 1, none⟩ = some (.int .i64 6) := (hc1 _ _ (by first | omega | (simp; done) | (simp; omega))).trans (by first | (with_reducible assumption) | (simp [go_sem]; done) | (simp [go_sem, *]; done) | assumption)
  have g1x2 : w1.cell? ⟨w.heap.size, 2, none⟩ = some (.bool l) := (hc1 _ _ (by first | omega | (simp; done) | (simp; omega))).trans (by first | (with_reducible assumption) | (simp [go_sem]; done) | (simp [go_sem, *]; done) | assumption)
  have g1x3 : w1.cell? ⟨w.heap.size, 3, none⟩ = some (.int .i64 d) := (hc1 _ _ (by first | omega | (simp; done) | (simp; omega))).trans (by first | (with_reducible assumption) | (simp [go_sem]; done) | (simp [go_sem, *]; done) | assumption)
  have g1x4 : w1.cell? ⟨(w.heap.size + 1), 0, none⟩ = some (.int .i64 0) := (hc1 _ _ (by first | omega | (simp; done) | (simp; omega))).trans (by first | (with_reducible assumption) | (simp [go_sem]; done) | (simp [go_sem, *]; done) | assumption)
  have g1x5 : w1.cell? ⟨(w.heap.size + 1), 1, none⟩ = some (.int .i64 0) := (hc1 _ _ (by first | omega | (simp; done) | (simp; omega))).trans (by first | (with_reducible assumption) | (simp [go_sem]; done) | (simp [go_sem, *]; done) | assumption)
  have g1x6 : w1.cell? ⟨(w.heap.size + 1), 2, none⟩ = some (.bool false) := (hc1 _ _ (by first | omega | (simp; done) | (simp; omega))).trans (by first | (with_reducible assumption) | (simp [go_sem]; done) | (simp [go_sem, *]; done) | assumption)
  have g1x7 : w1.cell? ⟨(w.heap.size + 1), 3, none⟩ = some (.int .i64 0) := (hc1 _ _ (by first | omega | (simp; done) | (simp; omega))).trans (by first | (with_reducible assumption) | (simp [go_sem]; done) | (simp [go_sem, *]; done) | assumption)
  go_wp2_with fail
  refine (HW.out _).mono ?_
  rintro e w' ⟨rfl, rfl⟩
  go_wp2_with fail
  refine (HV.out _).mono ?_
  rintro e w' ⟨rfl, rfl⟩
  go_wp2_with fail
  refine (HB.out _ (Tab.below hT (by repeat (first | (with_reducible exact Below.refl _ _) | (with_reducible assumption) | (with_reducible refine bdrew ?_) | (with_reducible refine baa ?_ _) | (with_reducible refine bs ?_ (by first | exact Nat.le_refl _ | omega | (simp; done) | (simp; omega)) _) | (with_reducible refine bt ?_ (by with_reducible assumption))))) (Tab.below hL (by repeat (first | (with_reducible exact Below.refl _ _) | (with_reducible assumption) | (with_reducible refine bdrew ?_) | (with_reducible refine baa ?_ _) | (with_reducible refine bs ?_ (by first | exact Nat.le_refl _ | omega | (simp; done) | (simp; omega)) _) | (with_reducible refine bt ?_ (by with_reducible assumption)))))).mono ?_
  rintro e w3 ⟨rfl, hb3⟩
  obtain ⟨hc3, hf3⟩ := bcell hb3
  have hz3 := hb3.size
  try simp at hz3
  have hs3x0 : (w.heap.size + 1) < w3.heap.size := by omega
  have g3x0 : w3.cell? ⟨(w.heap.size + 1), 0, none⟩ = some (.int .i64 0) := (hc3 _ _ (by first | omega | (simp; done) | (simp; omega))).trans (by first | (with_reducible assumption) | (simp [go_sem]; done) | (simp [go_sem, *]; done) | assumption)
  have g3x1 : w3.cell? ⟨(w.heap.size + 1), 1, none⟩ = some (.int .i64 0) := (hc3 _ _ (by first | omega | (simp; done) | (simp; omega))).trans (by first | (with_reducible assumption) | (simp [go_sem]; done) | (simp [go_sem, *]; done) | assumption)
  have g3x2 : w3.cell? ⟨(w.heap.size + 1), 2, none⟩ = some (.bool false) := (hc3 _ _ (by first | omega | (simp; done) | (simp; omega))).trans (by first | (with_reducible assumption) | (simp [go_sem]; done) | (simp [go_sem, *]; done) | assumption)
  have g3x3 : w3.cell? ⟨(w.heap.size + 1), 3, none⟩ = some (.int .i64 0) := (hc3 _ _ (by first | omega | (simp; done) | (simp; omega))).trans (by first | (with_reducible assumption) | (simp [go_sem]; done) | (simp [go_sem, *]; done) | assumption)
  go_wp2_with fail
  refine bodyPost_ret (v := .tuple #[.agg #[.int .i64 (ry), .int .i64 (rn), .bool (rl), .int .i64 (rd)], .int .i64 (0)]) (by simp [results, Tryd.results27, go_sem, *]) rfl ⟨rfl, ?_⟩
  repeat (first | (with_reducible exact Below.refl _ _) | (with_reducible assumption) | (with_reducible refine bdrew ?_) | (with_reducible refine baa ?_ _) | (with_reducible refine bs ?_ (by first | exact Nat.le_refl _ | omega | (simp; done) | (simp; omega)) _) | (with_reducible refine bt ?_ (by with_reducible assumption)))
set_option maxHeartbeats 4000000 in
theorem anniv_Death_6i (y : Int) (l : Bool) (d Y : Int) (hy : I64 y) (hd : I64 d) (hY : I64 Y) (w : World) (hT : Tab w 8 kevCells) (hL : Tab w 5 lenCells) (h0 : A18.chkE y 6 l d Y = 0) (d30 : (d == 30) = false) (hw : Cal.leap y = false) (hi : Cal.leap Y = false) :
    Calls Tryd.prog 27 #[.agg #[.int .i64 (y), .int .i64 (6), .bool (l), .int .i64 (d)], .int .i64 Y] w fun e w' => e = .returned (.tuple #[.agg #[.int .i64 (A18.bY y 6 l d Y), .int .i64 (A18.bN y 6 l d Y), .bool (A18.bL y 6 l d Y), .int .i64 (A18.bD y 6 l d Y)], .int .i64 (0)]) ∧ Below w.heap.size w w' := by
  have HC := Lib.hid (fun w hT hL => anniv_check y 6 l d Y hy hY w hT hL)
  obtain ⟨hde, h1, h2, hlt⟩ := A18.chk_0 h0
  obtain ⟨hvd, hp⟩ := D10.date_valid hde
  obtain ⟨b1, b2⟩ := (⟨hvd.1, hvd.2.1⟩ : 1 ≤ y ∧ y ≤ 9999)
  rw [h0] at HC
  have HW := Lib.hid (fun w => cycle_Leap_ok y w (by omega) (by omega))
  have HV := Lib.hid (fun w => cycle_Leap_ok Y w (by omega) (by omega))
  have HB := Lib.hid (fun w hT hL => anniv_Birth y 6 l d Y hy hd hY w hT hL)
  rw [h0] at HB
  have y1 := hy.1
  clear hde hvd hp h0
  rw [hi] at HV
  rw [hw] at HW
  generalize A18.bY y 6 l d Y = ry at *
  generalize A18.bN y 6 l d Y = rn at *
  generalize A18.bL y 6 l d Y = rl at *
  generalize A18.bD y 6 l d Y = rd at *
  clear hi
  clear hw
  try generalize Cal.leap y = wl at *
  try generalize Cal.leap Y = il at *
  go_enter Tryd.func27, Tryd.ntmps27
  go_wp2_with fail
  refine (HC.out _ (Tab.below hT (by repeat (first | (with_reducible exact Below.refl _ _) | (with_reducible assumption) | (with_reducible refine bdrew ?_) | (with_reducible refine baa ?_ _) | (with_reducible refine bs ?_ (by first | exact Nat.le_refl _ | omega | (simp; done) | (simp; omega)) _) | (with_reducible refine bt ?_ (by with_reducible assumption))))) (Tab.below hL (by repeat (first | (with_reducible exact Below.refl _ _) | (with_reducible assumption) | (with_reducible refine bdrew ?_) | (with_reducible refine baa ?_ _) | (with_reducible refine bs ?_ (by first | exact Nat.le_refl _ | omega | (simp; done) | (simp; omega)) _) | (with_reducible refine bt ?_ (by with_reducible assumption)))))).mono ?_
  rintro e w1 ⟨rfl, hb1⟩
  obtain ⟨hc1, hf1⟩ := bcell hb1
  have hz1 := hb1.size
  try simp at hz1
  have hs1x0 : w.heap.size < w1.heap.size := by omega
  have hs1x1 : (w.heap.size + 1) < w1.heap.size := by omega
  have g1x0 : w1.cell? ⟨w.heap.size, 0, none⟩ = some (.int .i64 y) := (hc1 _ _ (by first | omega | (simp; done) | (simp; omega))).trans (by first | (with_reducible assumption) | (simp [go_sem]; done) | (simp [go_sem, *]; done) | assumption)
  have g1x1 : w1.cell? ⟨w.heap.size, 1, none⟩ = some (.int .i64 6) := (hc1 _ _ (by first | omega | (simp; done) | (simp; omega))).trans (by first | (with_reducible assumption) | (simp [go_sem]; done) | (simp [go_sem, *]; done) | assumption)
  have g1x2 : w1.cell? ⟨w.heap.size, 2, none⟩ = some (.bool l) := (hc1 _ _ (by first | omega | (simp; done) | (simp; omega))).trans (by first | (with_reducible assumption) | (simp [go_sem]; done) | (simp [go_sem, *]; done) | assumption)
  have g1x3 : w1.cell? ⟨w.heap.size, 3, none⟩ = some (.int .i64 d) := (hc1 _ _ (by first | omega | (simp; done) | (simp; omega))).trans (by first | (with_reducible assumption) | (simp [go_sem]; done) | (simp [go_sem, *]; done) | assumption)
  have g1x4 : w1.cell? ⟨(w.heap.size + 1), 0, none⟩ = some (.int .i64 0) := (hc1 _ _ (by first | omega | (simp; done) | (simp; omega))).trans (by first | (with_reducible assumption) | (simp [go_sem]; done) | (simp [go_sem, *]; done) | assumption)
  have g1x5 : w1.cell? ⟨(w.heap.size + 1), 1, none⟩ = some (.int .i64 0) := (hc1 _ _ (by first | omega | (simp; done) | (simp; omega))).trans (by first | (with_reducible assumption) | (simp [go_sem]; done) | (simp [go_sem, *]; done) | assumption)
  have g1x6 : w1.cell? ⟨(w.heap.size + 1), 2, none⟩ = some (.bool false) := (hc1 _ _ (by first | omega | (simp; done) | (simp; omega))).trans (by first | (with_reducible assumption) | (simp [go_sem]; done) | (simp [go_sem, *]; done) | assumption)
  have g1x7 : w1.cell? ⟨(w.heap.size + 1), 3, none⟩ = some (.int .i64 0) := (hc1 _ _ (by first | omega | (simp; done) | (simp; omega))).trans (by first | (with_reducible assumption) | (simp [go_sem]; done) | (simp [go_sem, *]; done) | assumption)
  go_wp2_with fail
  refine (HW.out _).mono ?_
  rintro e w' ⟨rfl, rfl⟩
  go_wp2_with fail
  refine (HV.out _).mono ?_
  rintro e w' ⟨rfl, rfl⟩
  go_wp2_with fail
  refine (HB.out _ (Tab.below hT (by repeat (first | (with_reducible exact Below.refl _ _) | (with_reducible assumption) | (with_reducible refine bdrew ?_) | (with_reducible refine baa ?_ _) | (with_reducible refine bs ?_ (by first | exact Nat.le_refl _ | omega | (simp; done) | (simp; omega)) _) | (with_reducible refine bt ?_ (by with_reducible assumption))))) (Tab.below hL (by repeat (first | (with_reducible exact Below.refl _ _) | (with_reducible assumption) | (with_reducible refine bdrew ?_) | (with_reducible refine baa ?_ _) | (with_reducible refine bs ?_ (by first | exact Nat.le_refl _ | omega | (simp; done) | (simp; omega)) _) | (with_reducible refine bt ?_ (by with_reducible assumption)))))).mono ?_
  rintro e w3 ⟨rfl, hb3⟩
  obtain ⟨hc3, hf3⟩ := bcell hb3
  have hz3 := hb3.size
  try simp at hz3
  have hs3x0 : (w.heap.size + 1) < w3.heap.size := by omega
  have g3x0 : w3.cell? ⟨(w.heap.size + 1), 0, none⟩ = some (.int .i64 0) := (hc3 _ _ (by first | omega | (simp; done) | (simp; omega))).trans (by first | (with_reducible assumption) | (simp [go_sem]; done) | (simp [go_sem, *]; done) | assumption)
  have g3x1 : w3.cell? ⟨(w.heap.size + 1), 1, none⟩ = some (.int .i64 0) := (hc3 _ _ (by first | omega | (simp; done) | (simp; omega))).trans (by first | (with_reducible assumption) | (simp [go_sem]; done) | (simp [go_sem, *]; done) | assumption)
  have g3x2 : w3.cell? ⟨(w.heap.size + 1), 2, none⟩ = some (.bool false) := (hc3 _ _ (by first | omega | (simp; done) | (simp; omega))).trans (by first | (with_reducible assumption) | (simp [go_sem]; done) | (simp [go_sem, *]; done) | assumption)
  have g3x3 : w3.cell? ⟨(w.heap.size + 1), 3, none⟩ = some (.int .i64 0) := (hc3 _ _ (by first | omega | (simp; done) | (simp; omega))).trans (by first | (with_reducible assumption) | (simp [go_sem]; done) | (simp [go_sem, *]; done) | assumption)
  go_wp2_with fail
  refine bodyPost_ret (v := .tuple #[.agg #[.int .i64 (ry), .int .i64 (rn), .bool (rl), .int .i64 (rd)], .int .i64 (0)]) (by simp [results, Tryd.results27, go_sem, *]) rfl ⟨rfl, ?_⟩
  repeat (first | (with_reducible exact Below.refl _ _) | (with_reducible assumption) | (with_reducible refine bdrew ?_) | (with_reducible refine baa ?_ _) | (with_reducible refine bs ?_ (by first | exact Nat.le_refl _ | omega | (simp; done) | (simp; omega)) _) | (with_reducible refine bt ?_ (by with_reducible assumption)))
set_option maxHeartbeats 4000000 in
theorem anniv_Death_dp (y n : Int) (l : Bool) (d Y : Int) (hy : I64 y) (hd : I64 d) (hY : I64 Y) (w : World) (hT : Tab w 8 kevCells) (hL : Tab w 5 lenCells) (h0 : A18.chkE y n l d Y = 0) (d30 : (d == 30) = false) (n6 : (n == 6) = false) :
    Calls Tryd.prog 27 #[.agg #[.int .i64 (y), .int .i64 (n), .bool (l), .int .i64 (d)], .int .i64 Y] w fun e w' => e = .returned (.tuple #[.agg #[.int .i64 (A18.bY y n l d Y), .int .i64 (A18.bN y n l d Y), .bool (A18.bL y n l d Y), .int .i64 (A18.bD y n l d Y)], .int .i64 (0)]) ∧ Below w.heap.size w w' := by
  have HC := Lib.hid (fun w hT hL => anniv_check y n l d Y hy hY w hT hL)
  obtain ⟨hde, h1, h2, hlt⟩ := A18.chk_0 h0
  obtain ⟨hvd, hp⟩ := D10.date_valid hde
  obtain ⟨b1, b2⟩ := (⟨hvd.1, hvd.2.1⟩ : 1 ≤ y ∧ y ≤ 9999)
  rw [h0] at HC
  have HW := Lib.hid (fun w => cycle_Leap_ok y w (by omega) (by omega))
  have HV := Lib.hid (fun w => cycle_Leap_ok Y w (by omega) (by omega))
  have HB := Lib.hid (fun w hT hL => anniv_Birth y n l d Y hy hd hY w hT hL)
  rw [h0] at HB
  have y1 := hy.1
  clear hde hvd hp h0
  generalize A18.bY y n l d Y = ry at *
  generalize A18.bN y n l d Y = rn at *
  generalize A18.bL y n l d Y = rl at *
  generalize A18.bD y n l d Y = rd at *
  try generalize Cal.leap y = wl at *
  try generalize Cal.leap Y = il at *
  go_enter Tryd.func27, Tryd.ntmps27
  go_wp2_with fail
  refine (HC.out _ (Tab.below hT (by repeat (first | (with_reducible exact Below.refl _ _) | (with_reducible assumption) | (with_reducible refine bdrew ?_) | (with_reducible refine baa ?_ _) | (with_reducible refine bs ?_ (by first | exact Nat.le_refl _ | omega | (simp; done) | (simp; omega)) _) | (with_reducible refine bt ?_ (by with_reducible assumption))))) (Tab.below hL (by repeat (first | (with_reducible exact Below.refl _ _) | (with_reducible assumption) | (with_reducible refine bdrew ?_) | (with_reducible refine baa ?_ _) | (with_reducible refine bs ?_ (by first | exact Nat.le_refl _ | omega | (simp; done) | (simp; omega)) _) | (with_reducible refine bt ?_ (by with_reducible assumption)))))).mono ?_
  rintro e w1 ⟨rfl, hb1⟩
  obtain ⟨hc1, hf1⟩ := bcell hb1
  have hz1 := hb1.size
  try simp at hz1
  have hs1x0 : w.heap.size < w1.heap.size := by omega
  have hs1x1 : (w.heap.size + 1) < w1.heap.size := by omega
  have g1x0 : w1.cell? ⟨w.heap.size, 0, none⟩ = some (.int .i64 y) := (hc1 _ _ (by first | omega | (simp; done) | (simp; omega))).trans (by first | (with_reducible assumption) | (simp [go_sem]; done) | (simp [go_sem, *]; done) | assumption)
  have g1x1 : w1.cell? ⟨w.heap.size, 1, none⟩ = some (.int .i64 n) := (hc1 _ _ (by first | omega | (simp; done) | (simp; omega))).trans (by first | (with_reducible assumption) | (simp [go_sem]; done) | (simp [go_sem, *]; done) | assumption)
  have g1x2 : w1.cell? ⟨w.heap.size, 2, none⟩ = some (.bool l) := (hc1 _ _ (by first | omega | (simp; done) | (simp; omega))).trans (by first | (with_reducible assumption) | (simp [go_sem]; done) | (simp [go_sem, *]; done) | assumption)
  have g1x3 : w1.cell? ⟨w.heap.size, 3, none⟩ = some (.int .i64 d) := (hc1 _ _ (by first | omega | (simp; done) | (simp; omega))).trans (by first | (with_reducible assumption) | (simp [go_sem]; done) | (simp [go_sem, *]; done) | assumption)
  have g1x4 : w1.cell? ⟨(w.heap.size + 1), 0, none⟩ = some (.int .i64 0) := (hc1 _ _ (by first | omega | (simp; done) | (simp; omega))).trans (by first | (with_reducible assumption) | (simp [go_sem]; done) | (simp [go_sem, *]; done) | assumption)
  have g1x5 : w1.cell? ⟨(w.heap.size + 1), 1, none⟩ = some (.int .i64 0) := (hc1 _ _ (by first | omega | (simp; done) | (simp; omega))).trans (by first | (with_reducible assumption) | (simp [go_sem]; done) | (simp [go_sem, *]; done) | assumption)
  have g1x6 : w1.cell? ⟨(w.heap.size + 1), 2, none⟩ = some (.bool false) := (hc1 _ _ (by first | omega | (simp; done) | (simp; omega))).trans (by first | (with_reducible assumption) | (simp [go_sem]; done) | (simp [go_sem, *]; done) | assumption)
  have g1x7 : w1.cell? ⟨(w.heap.size + 1), 3, none⟩ = some (.int .i64 0) := (hc1 _ _ (by first | omega | (simp; done) | (simp; omega))).trans (by first | (with_reducible assumption) | (simp [go_sem]; done) | (simp [go_sem, *]; done) | assumption)
  go_wp2_with fail
  refine (HW.out _).mono ?_
  rintro e w' ⟨rfl, rfl⟩
  go_wp2_with fail
  refine (HV.out _).mono ?_
  rintro e w' ⟨rfl, rfl⟩
  go_wp2_with fail
  refine (HB.out _ (Tab.below hT (by repeat (first | (with_reducible exact Below.refl _ _) | (with_reducible assumption) | (with_reducible refine bdrew ?_) | (with_reducible refine baa ?_ _) | (with_reducible refine bs ?_ (by first | exact Nat.le_refl _ | omega | (simp; done) | (simp; omega)) _) | (with_reducible refine bt ?_ (by with_reducible assumption))))) (Tab.below hL (by repeat (first | (with_reducible exact Below.refl _ _) | (with_reducible assumption) | (with_reducible refine bdrew ?_) | (with_reducible refine baa ?_ _) | (with_reducible refine bs ?_ (by first | exact Nat.le_refl _ | omega | (simp; done) | (simp; omega)) _) | (with_reducible refine bt ?_ (by with_reducible assumption)))))).mono ?_
  rintro e w3 ⟨rfl, hb3⟩
  obtain ⟨hc3, hf3⟩ := bcell hb3
  have hz3 := hb3.size
  try simp at hz3
  have hs3x0 : (w.heap.size + 1) < w3.heap.size := by omega
  have g3x0 : w3.cell? ⟨(w.heap.size + 1), 0, none⟩ = some (.int .i64 0) := (hc3 _ _ (by first | omega | (simp; done) | (simp; omega))).trans (by first | (with_reducible assumption) | (simp [go_sem]; done) | (simp [go_sem, *]; done) | assumption)
  have g3x1 : w3.cell? ⟨(w.heap.size + 1), 1, none⟩ = some (.int .i64 0) := (hc3 _ _ (by first | omega | (simp; done) | (simp; omega))).trans (by first | (with_reducible assumption) | (simp [go_sem]; done) | (simp [go_sem, *]; done) | assumption)
  have g3x2 : w3.cell? ⟨(w.heap.size + 1), 2, none⟩ = some (.bool false) := (hc3 _ _ (by first | omega | (simp; done) | (simp; omega))).trans (by first | (with_reducible assumption) | (simp [go_sem]; done) | (simp [go_sem, *]; done) | assumption)
  have g3x3 : w3.cell? ⟨(w.heap.size + 1), 3, none⟩ = some (.int .i64 0) := (hc3 _ _ (by first | omega | (simp; done) | (simp; omega))).trans (by first | (with_reducible assumption) | (simp [go_sem]; done) | (simp [go_sem, *]; done) | assumption)
  go_wp2_with fail
  refine bodyPost_ret (v := .tuple #[.agg #[.int .i64 (ry), .int .i64 (rn), .bool (rl), .int .i64 (rd)], .int .i64 (0)]) (by simp [results, Tryd.results27, go_sem, *]) rfl ⟨rfl, ?_⟩
  repeat (first | (with_reducible exact Below.refl _ _) | (with_reducible assumption) | (with_reducible refine bdrew ?_) | (with_reducible refine baa ?_ _) | (with_reducible refine bs ?_ (by first | exact Nat.le_refl _ | omega | (simp; done) | (simp; omega)) _) | (with_reducible refine bt ?_ (by with_reducible assumption)))
theorem anniv_Death (y n : Int) (l : Bool) (d Y : Int) (hy : I64 y) (hd : I64 d) (hY : I64 Y) (w : World) (hT : Tab w 8 kevCells) (hL : Tab w 5 lenCells) :
    Calls Tryd.prog 27 #[.agg #[.int .i64 (y), .int .i64 (n), .bool (l), .int .i64 (d)], .int .i64 Y] w fun e w' => e = .returned (.tuple #[.agg #[.int .i64 (A18.bY y n l d Y), .int .i64 (A18.tN y n l d Y), .bool (A18.tL y n l d Y), .int .i64 (A18.tD y n l d Y)], .int .i64 (A18.chkE y n l d Y)]) ∧ Below w.heap.size w w' := by
  by_cases h0 : A18.chkE y n l d Y = 0
  · have hY0 : A18.bY y n l d Y = Y := by unfold A18.bY; rw [if_pos h0]
    obtain ⟨hde, _, _, _⟩ := A18.chk_0 h0
    have hr := A18.right_of (D10.date_valid hde).2
    rw [h0]
    have kb : ∀ (c1 : ¬ A18.k1 y n l d = true) (c2 : ¬ A18.k2 l d Y = true) (c3 : ¬ A18.k3 y n Y = true), Calls Tryd.prog 27 #[.agg #[.int .i64 (y), .int .i64 (n), .bool (l), .int .i64 (d)], .int .i64 Y] w (fun e w' => e = .returned (.tuple #[.agg #[.int .i64 (A18.bY y n l d Y), .int .i64 (A18.bN y n l d Y), .bool (A18.bL y n l d Y), .int .i64 (A18.bD y n l d Y)], .int .i64 (0)]) ∧ Below w.heap.size w w') → Calls Tryd.prog 27 #[.agg #[.int .i64 (y), .int .i64 (n), .bool (l), .int .i64 (d)], .int .i64 Y] w (fun e w' => e = .returned (.tuple #[.agg #[.int .i64 (A18.bY y n l d Y), .int .i64 (A18.tN y n l d Y), .bool (A18.tL y n l d Y), .int .i64 (A18.tD y n l d Y)], .int .i64 (0)]) ∧ Below w.heap.size w w') := by
      intro c1 c2 c3 H
      obtain ⟨e1, e2, e3⟩ := A18.dth_b h0 c1 c2 c3
      rw [e1, e2, e3]; exact H
    by_cases hd30 : d = 30
    · subst hd30
      have n6 : ¬ n = 6 := fun c => by subst c; have := A18.six_short hde; omega
      have c3 : ¬ A18.k3 y n Y = true := fun c => by unfold A18.k3 at c; simp at c; omega
      by_cases hn : n = 2 ∨ n = 3
      · have hl := (A18.two_there (lp := true) hr hn Y).1
        subst hl
        have c2 : ¬ A18.k2 false 30 Y = true := fun c => by unfold A18.k2 at c; simp at c
        by_cases hlt : D10.lastV (y + 1) n false < 30
        · have c1 : A18.k1 y n false 30 = true := by unfold A18.k1; rcases hn with rfl | rfl <;> simp [hlt]
          obtain ⟨e1, e2, e3⟩ := A18.dth_k1 h0 c1
          rw [e1, e2, e3, hY0]
          rcases hn with rfl | rfl
          · exact anniv_Death_a2 y Y hy hY w hT hL h0 (by simpa using hlt)
          · exact anniv_Death_a3 y Y hy hY w hT hL h0 (by simpa using hlt)
        · have c1 : ¬ A18.k1 y n false 30 = true := fun c => hlt (A18.k1_in c).2.2
          refine kb c1 c2 c3 ?_
          rcases hn with rfl | rfl
          · exact anniv_Death_c2 y Y hy hY w hT hL h0 (by simpa using hlt)
          · exact anniv_Death_c3 y Y hy hY w hT hL h0 (by simpa using hlt)
      · have c1 : ¬ A18.k1 y n l 30 = true := fun c => hn (A18.k1_in c).2.1
        have m2 : (n == 2) = false := by simp; omega
        have m3 : (n == 3) = false := by simp; omega
        have m6 : (n == 6) = false := by simp; omega
        cases hl : l with
        | true =>
          subst hl
          cases hi : Cal.leap Y with
          | false =>
            obtain ⟨e1, e2, e3⟩ := A18.dth_k2 h0 c1 (by unfold A18.k2; simp [hi])
            rw [e1, e2, e3, hY0]
            exact anniv_Death_bl y n Y hy hY w hT hL h0 m2 m3 hi
          | true => exact kb c1 (fun c => by unfold A18.k2 at c; simp [hi] at c) c3 (anniv_Death_bll y n Y hy hY w hT hL h0 m2 m3 m6 hi)
        | false =>
          subst hl
          exact kb c1 (fun c => by unfold A18.k2 at c; simp at c) c3 (anniv_Death_bp y n Y hy hY w hT hL h0 m2 m3 m6)
    · have md : (d == 30) = false := by simpa using hd30
      have c1 : ¬ A18.k1 y n l d = true := fun c => hd30 (A18.k1_in c).1
      have c2 : ¬ A18.k2 l d Y = true := fun c => by unfold A18.k2 at c; simp at c; omega
      by_cases n6 : n = 6
      · subst n6
        cases hw : Cal.leap y with
        | true => exact kb c1 c2 (fun c => by unfold A18.k3 at c; simp [hw] at c) (anniv_Death_6w y l d Y hy hd hY w hT hL h0 md hw)
        | false =>
          cases hi : Cal.leap Y with
          | false => exact kb c1 c2 (fun c => by unfold A18.k3 at c; simp [hi] at c) (anniv_Death_6i y l d Y hy hd hY w hT hL h0 md hw hi)
          | true =>
            obtain ⟨e1, e2, e3⟩ := A18.dth_k3 h0 c1 c2 (by unfold A18.k3; simp [hw, hi])
            rw [e1, e2, e3, hY0]
            exact anniv_Death_k3 y l d Y hy hd hY w hT hL h0 md hw hi
      · exact kb c1 c2 (fun c => by unfold A18.k3 at c; simp at c; omega) (anniv_Death_dp y n l d Y hy hd hY w hT hL h0 md (by simpa using n6))
  · have e : A18.bY y n l d Y = 0 ∧ A18.tN y n l d Y = 0 ∧ A18.tL y n l d Y = false ∧ A18.tD y n l d Y = 0 := by
      unfold A18.bY A18.tN A18.tL A18.tD; rw [if_neg h0, if_neg h0, if_neg h0, if_neg h0]; exact ⟨rfl, rfl, rfl, rfl⟩
    rw [e.1, e.2.1, e.2.2.1, e.2.2.2]
    exact anniv_Death_err y n l d Y hy hd hY w hT hL h0
end Go.Proofs.YtmiadhiomingmaaDoor
