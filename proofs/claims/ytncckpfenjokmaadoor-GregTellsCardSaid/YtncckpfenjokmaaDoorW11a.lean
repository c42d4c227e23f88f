/- Layer 11: its laws' walks. -/
import Derived.Test.YtncckpfenjokmaaDoorW11
namespace Go.Proofs.YtncckpfenjokmaaDoor
open Go.ChangeShapes Go.WideShapes Go.ChangeAt Go.RowKit
set_option linter.unusedVariables false
set_option maxRecDepth 100000
set_option maxHeartbeats 2000000 in
theorem GregTells_at (y n d z k f : Int) (D : Int) (hy : I64 y) (w : World) (hG : Tab w 0 Gr.gregCells) (ry rm rd : Int) (hv : Gr.Valid ry rm rd) (hD : D = Gr.dayOf ry rm rd) (b1 : -1373427 ≤ D) (b2 : D ≤ 2278650) :
    Calls Tryd.prog 3 #[.agg #[.int .i64 y, .int .i64 n, .int .i64 d], .agg #[.int .i64 z, .int .i64 k, .int .i64 f], .int .i64 D] w fun e w' => e = .returned (.bool true) ∧ Below w.heap.size w w' := by
  have HT1 := Lib.hid (fun w hG => greg_ToDay y n d w hG)
  have HT2 := Lib.hid (fun w => ref11_ToDay y n d w)
  have HL1 := Lib.hid (fun w => greg_Leap y w hy)
  have HL2 := Lib.hid (fun w => ref11_Leap y w hy)
  have HC1 := Lib.hid (fun w hG => greg_Days y n w hG hy)
  have HC2 := Lib.hid (fun w => ref11_Days y n w hy)
  have HE1 := Lib.hid (fun w => greg_Less y n d z k f w)
  have HE2 := Lib.hid (fun w => ref11_Less y n d z k f w)
  rw [show ref11_LessV = greg_LessV from rfl] at HE2
  subst hD
  have HF1 := Lib.hid (fun w hG => greg_FromDay_v ry rm rd w hG hv b1 b2)
  have HF2 := Lib.hid (fun w => ref11_FromDay_v ry rm rd w hv b1 b2)
  clear hv
  generalize Gr.dayOf ry rm rd = D at *
  clear b1 b2
  generalize Gr.gtV y n d = v1 at *
  generalize Gr.gtE y n d = v2 at *
  generalize Gr.leap y = v3 at *
  generalize Gr.days y n = v4 at *
  generalize greg_LessV y n d z k f = v5 at *
  go_enter Tryd.func3, Tryd.ntmps3
  go_wp2_with fail
  refine (HT1.out _ (Tab.below hG (by repeat (first | (with_reducible exact Below.refl _ _) | assumption | (with_reducible refine bdrew ?_) | (with_reducible refine baa ?_ _) | (with_reducible refine bs ?_ (by first | exact Nat.le_refl _ | omega | (simp; omega)) _) | (with_reducible refine bt ?_ (by assumption)))))).mono ?_
  rintro e w1 ⟨rfl, hb1⟩
  obtain ⟨hc1, hf1⟩ := bcell hb1
  have hz1 := hb1.size
  try simp at hz1
  have hs1x0 : w.heap.size < w1.heap.size := by omega
  have hs1x1 : (w.heap.size + 1) < w1.heap.size := by omega
  have g1x0 : w1.cell? ⟨w.heap.size, 0, none⟩ = some (.int .i64 y) := (hc1 _ _ (by first | omega | (simp; done) | (simp; omega))).trans (by first | assumption | simp [go_sem] | simp [go_sem, *])
  have g1x1 : w1.cell? ⟨w.heap.size, 1, none⟩ = some (.int .i64 n) := (hc1 _ _ (by first | omega | (simp; done) | (simp; omega))).trans (by first | assumption | simp [go_sem] | simp [go_sem, *])
  have g1x2 : w1.cell? ⟨w.heap.size, 2, none⟩ = some (.int .i64 d) := (hc1 _ _ (by first | omega | (simp; done) | (simp; omega))).trans (by first | assumption | simp [go_sem] | simp [go_sem, *])
  have g1x3 : w1.cell? ⟨(w.heap.size + 1), 0, none⟩ = some (.int .i64 z) := (hc1 _ _ (by first | omega | (simp; done) | (simp; omega))).trans (by first | assumption | simp [go_sem] | simp [go_sem, *])
  have g1x4 : w1.cell? ⟨(w.heap.size + 1), 1, none⟩ = some (.int .i64 k) := (hc1 _ _ (by first | omega | (simp; done) | (simp; omega))).trans (by first | assumption | simp [go_sem] | simp [go_sem, *])
  have g1x5 : w1.cell? ⟨(w.heap.size + 1), 2, none⟩ = some (.int .i64 f) := (hc1 _ _ (by first | omega | (simp; done) | (simp; omega))).trans (by first | assumption | simp [go_sem] | simp [go_sem, *])
  go_wp2_with fail
  refine (HT2.out _).mono ?_
  rintro e w2 ⟨rfl, hb2⟩
  obtain ⟨hc2, hf2⟩ := bcell hb2
  have hz2 := hb2.size
  try simp at hz2
  have hs2x0 : w.heap.size < w2.heap.size := by omega
  have hs2x1 : (w.heap.size + 1) < w2.heap.size := by omega
  have g2x0 : w2.cell? ⟨w.heap.size, 0, none⟩ = some (.int .i64 y) := (hc2 _ _ (by first | omega | (simp; done) | (simp; omega))).trans (by first | assumption | simp [go_sem] | simp [go_sem, *])
  have g2x1 : w2.cell? ⟨w.heap.size, 1, none⟩ = some (.int .i64 n) := (hc2 _ _ (by first | omega | (simp; done) | (simp; omega))).trans (by first | assumption | simp [go_sem] | simp [go_sem, *])
  have g2x2 : w2.cell? ⟨w.heap.size, 2, none⟩ = some (.int .i64 d) := (hc2 _ _ (by first | omega | (simp; done) | (simp; omega))).trans (by first | assumption | simp [go_sem] | simp [go_sem, *])
  have g2x3 : w2.cell? ⟨(w.heap.size + 1), 0, none⟩ = some (.int .i64 z) := (hc2 _ _ (by first | omega | (simp; done) | (simp; omega))).trans (by first | assumption | simp [go_sem] | simp [go_sem, *])
  have g2x4 : w2.cell? ⟨(w.heap.size + 1), 1, none⟩ = some (.int .i64 k) := (hc2 _ _ (by first | omega | (simp; done) | (simp; omega))).trans (by first | assumption | simp [go_sem] | simp [go_sem, *])
  have g2x5 : w2.cell? ⟨(w.heap.size + 1), 2, none⟩ = some (.int .i64 f) := (hc2 _ _ (by first | omega | (simp; done) | (simp; omega))).trans (by first | assumption | simp [go_sem] | simp [go_sem, *])
  go_wp2_with fail
  refine (HF1.out _ (Tab.below hG (by repeat (first | (with_reducible exact Below.refl _ _) | assumption | (with_reducible refine bdrew ?_) | (with_reducible refine baa ?_ _) | (with_reducible refine bs ?_ (by first | exact Nat.le_refl _ | omega | (simp; omega)) _) | (with_reducible refine bt ?_ (by assumption)))))).mono ?_
  rintro e w3 ⟨rfl, hb3⟩
  obtain ⟨hc3, hf3⟩ := bcell hb3
  have hz3 := hb3.size
  try simp at hz3
  have hs3x0 : w.heap.size < w3.heap.size := by omega
  have hs3x1 : (w.heap.size + 1) < w3.heap.size := by omega
  have g3x0 : w3.cell? ⟨w.heap.size, 0, none⟩ = some (.int .i64 y) := (hc3 _ _ (by first | omega | (simp; done) | (simp; omega))).trans (by first | assumption | simp [go_sem] | simp [go_sem, *])
  have g3x1 : w3.cell? ⟨w.heap.size, 1, none⟩ = some (.int .i64 n) := (hc3 _ _ (by first | omega | (simp; done) | (simp; omega))).trans (by first | assumption | simp [go_sem] | simp [go_sem, *])
  have g3x2 : w3.cell? ⟨w.heap.size, 2, none⟩ = some (.int .i64 d) := (hc3 _ _ (by first | omega | (simp; done) | (simp; omega))).trans (by first | assumption | simp [go_sem] | simp [go_sem, *])
  have g3x3 : w3.cell? ⟨(w.heap.size + 1), 0, none⟩ = some (.int .i64 z) := (hc3 _ _ (by first | omega | (simp; done) | (simp; omega))).trans (by first | assumption | simp [go_sem] | simp [go_sem, *])
  have g3x4 : w3.cell? ⟨(w.heap.size + 1), 1, none⟩ = some (.int .i64 k) := (hc3 _ _ (by first | omega | (simp; done) | (simp; omega))).trans (by first | assumption | simp [go_sem] | simp [go_sem, *])
  have g3x5 : w3.cell? ⟨(w.heap.size + 1), 2, none⟩ = some (.int .i64 f) := (hc3 _ _ (by first | omega | (simp; done) | (simp; omega))).trans (by first | assumption | simp [go_sem] | simp [go_sem, *])
  go_wp2_with fail
  refine (HF2.out _).mono ?_
  rintro e w4 ⟨rfl, hb4⟩
  obtain ⟨hc4, hf4⟩ := bcell hb4
  have hz4 := hb4.size
  try simp at hz4
  have hl4w3 : w3.heap.size < w4.heap.size := by omega
  have hm4w3 : w3.heap.size ≤ w4.heap.size := by omega
  have hs4x0 : w.heap.size < w4.heap.size := by omega
  have hs4x1 : (w.heap.size + 1) < w4.heap.size := by omega
  have g4x0 : w4.cell? ⟨w.heap.size, 0, none⟩ = some (.int .i64 y) := (hc4 _ _ (by first | omega | (simp; done) | (simp; omega))).trans (by first | assumption | simp [go_sem] | simp [go_sem, *])
  have g4x1 : w4.cell? ⟨w.heap.size, 1, none⟩ = some (.int .i64 n) := (hc4 _ _ (by first | omega | (simp; done) | (simp; omega))).trans (by first | assumption | simp [go_sem] | simp [go_sem, *])
  have g4x2 : w4.cell? ⟨w.heap.size, 2, none⟩ = some (.int .i64 d) := (hc4 _ _ (by first | omega | (simp; done) | (simp; omega))).trans (by first | assumption | simp [go_sem] | simp [go_sem, *])
  have g4x3 : w4.cell? ⟨(w.heap.size + 1), 0, none⟩ = some (.int .i64 z) := (hc4 _ _ (by first | omega | (simp; done) | (simp; omega))).trans (by first | assumption | simp [go_sem] | simp [go_sem, *])
  have g4x4 : w4.cell? ⟨(w.heap.size + 1), 1, none⟩ = some (.int .i64 k) := (hc4 _ _ (by first | omega | (simp; done) | (simp; omega))).trans (by first | assumption | simp [go_sem] | simp [go_sem, *])
  have g4x5 : w4.cell? ⟨(w.heap.size + 1), 2, none⟩ = some (.int .i64 f) := (hc4 _ _ (by first | omega | (simp; done) | (simp; omega))).trans (by first | assumption | simp [go_sem] | simp [go_sem, *])
  have g4x6 : w4.cell? ⟨w3.heap.size, 0, none⟩ = some (.int .i64 ry) := (hc4 _ _ (by first | omega | (simp; done) | (simp; omega))).trans (by first | assumption | simp [go_sem] | simp [go_sem, *])
  have g4x7 : w4.cell? ⟨w3.heap.size, 1, none⟩ = some (.int .i64 rm) := (hc4 _ _ (by first | omega | (simp; done) | (simp; omega))).trans (by first | assumption | simp [go_sem] | simp [go_sem, *])
  have g4x8 : w4.cell? ⟨w3.heap.size, 2, none⟩ = some (.int .i64 rd) := (hc4 _ _ (by first | omega | (simp; done) | (simp; omega))).trans (by first | assumption | simp [go_sem] | simp [go_sem, *])
  go_wp2_with fail
  refine settle (fun W => W.cell? ⟨w.heap.size, 0, none⟩ = some (.int .i64 y) ∧ W.cell? ⟨w.heap.size, 1, none⟩ = some (.int .i64 n) ∧ W.cell? ⟨w.heap.size, 2, none⟩ = some (.int .i64 d) ∧ W.cell? ⟨(w.heap.size + 1), 0, none⟩ = some (.int .i64 z) ∧ W.cell? ⟨(w.heap.size + 1), 1, none⟩ = some (.int .i64 k) ∧ W.cell? ⟨(w.heap.size + 1), 2, none⟩ = some (.int .i64 f) ∧ W.cell? ⟨w3.heap.size, 0, none⟩ = some (.int .i64 ry) ∧ W.cell? ⟨w3.heap.size, 1, none⟩ = some (.int .i64 rm) ∧ W.cell? ⟨w3.heap.size, 2, none⟩ = some (.int .i64 rd) ∧ W.cell? ⟨w4.heap.size, 0, none⟩ = some (.int .i64 ry) ∧ W.cell? ⟨w4.heap.size, 1, none⟩ = some (.int .i64 rm) ∧ W.cell? ⟨w4.heap.size, 2, none⟩ = some (.int .i64 rd) ∧ w.heap.size < W.heap.size ∧ (w.heap.size + 1) < W.heap.size ∧ w3.heap.size < W.heap.size ∧ w4.heap.size < W.heap.size ∧ Below w.heap.size w W ∧ Tab W 0 Gr.gregCells) ⟨?_, ?_, ?_, ?_, ?_, ?_, ?_, ?_, ?_, ?_, ?_, ?_, ?_, ?_, ?_, ?_, ?_, ?_⟩ ?_
  · (first | assumption | (simp [go_sem, *]; done))
  · (first | assumption | (simp [go_sem, *]; done))
  · (first | assumption | (simp [go_sem, *]; done))
  · (first | assumption | (simp [go_sem, *]; done))
  · (first | assumption | (simp [go_sem, *]; done))
  · (first | assumption | (simp [go_sem, *]; done))
  · (first | assumption | (simp [go_sem, *]; done))
  · (first | assumption | (simp [go_sem, *]; done))
  · (first | assumption | (simp [go_sem, *]; done))
  · (first | assumption | (simp [go_sem, *]; done))
  · (first | assumption | (simp [go_sem, *]; done))
  · (first | assumption | (simp [go_sem, *]; done))
  · (first | assumption | (simp; done) | (simp; omega) | omega)
  · (first | assumption | (simp; done) | (simp; omega) | omega)
  · (first | assumption | (simp; done) | (simp; omega) | omega)
  · (first | assumption | (simp; done) | (simp; omega) | omega)
  · (repeat (first | (with_reducible exact Below.refl _ _) | assumption | (with_reducible refine bdrew ?_) | (with_reducible refine baa ?_ _) | (with_reducible refine bs ?_ (by first | exact Nat.le_refl _ | omega | (simp; omega)) _) | (with_reducible refine bt ?_ (by assumption))))
  · (refine Tab.below hG ?_; repeat (first | (with_reducible exact Below.refl _ _) | assumption | (with_reducible refine bdrew ?_) | (with_reducible refine baa ?_ _) | (with_reducible refine bs ?_ (by first | exact Nat.le_refl _ | omega | (simp; omega)) _) | (with_reducible refine bt ?_ (by assumption))))
  rintro W7 ⟨r7x0, r7x1, r7x2, r7x3, r7x4, r7x5, r7x6, r7x7, r7x8, r7x9, r7x10, r7x11, rs7x0, rs7x1, rs7x2, rs7x3, hB7, hT7x0⟩
  refine wp_region_class (by kernel_rfl) (by kernel_rfl) (fun hall => ?_)
  repeat (first | go_big_quiet_skip | (go_big_quiet_want; first | (refine quiet_load1 _ _ _ rfl rfl ?_ ?_ ?_; (focus (intro _; simp; done)); (focus (first | assumption | omega | (simp; done) | (simp; omega))); apply Exists.intro; refine ⟨?_, ?_⟩; assumption; go_simp; go_big_quiet_on) | (refine quiet_load2 _ _ _ _ rfl rfl ?_ ?_ ?_ ?_; (focus (intro _; simp; done)); (focus (intro _; simp; done)); (focus (first | assumption | omega | (simp; done) | (simp; omega))); apply Exists.intro; apply Exists.intro; refine ⟨?_, ?_, ?_⟩; assumption; assumption; go_simp; go_big_quiet_on) | (refine quiet_load3 _ _ _ _ rfl rfl ?_ ?_ ?_ ?_; (focus (intro _; simp; done)); (focus (intro _; simp; done)); (focus (first | assumption | omega | (simp; done) | (simp; omega))); apply Exists.intro; apply Exists.intro; apply Exists.intro; refine ⟨?_, ?_, ?_, ?_⟩; assumption; assumption; assumption; go_simp; go_big_quiet_on) | (refine quiet_load4 _ _ _ _ rfl rfl ?_ ?_ ?_ ?_; (focus (intro _; simp; done)); (focus (intro _; simp; done)); (focus (first | assumption | omega | (simp; done) | (simp; omega))); apply Exists.intro; apply Exists.intro; apply Exists.intro; apply Exists.intro; refine ⟨?_, ?_, ?_, ?_, ?_⟩; assumption; assumption; assumption; assumption; go_simp; go_big_quiet_on) | (go_big_quiet_op; first | go_big_quiet_on | (apply Exists.intro; refine ⟨fun x hx => ?_, ?_⟩; (first | exact call_below hx (awake11 x (Tab.below hT7x0 hx)) | exact call_same hx (HL1.out x) | exact call_same hx (HL2.out x) | exact call_below hx (HC1.out x (Tab.below hT7x0 hx)) | exact call_below hx (HC2.out x) | exact call_below hx (HE1.out x) | exact call_below hx (HE2.out x)); go_big_quiet_on))))
  refine wpQuiet_nil ?_
  clear hall
  intro x8 hx8
  go_wp2_with fail
  go_ret
  exact ⟨rfl, bt hB7 hx8⟩
set_option maxHeartbeats 2000000 in
theorem GregTells_no (y n d z k f : Int) (D : Int) (hy : I64 y) (w : World) (hG : Tab w 0 Gr.gregCells) (hD : D < -1373427 ∨ 2278650 < D) :
    Calls Tryd.prog 3 #[.agg #[.int .i64 y, .int .i64 n, .int .i64 d], .agg #[.int .i64 z, .int .i64 k, .int .i64 f], .int .i64 D] w fun e w' => e = .returned (.bool true) ∧ Below w.heap.size w w' := by
  have HT1 := Lib.hid (fun w hG => greg_ToDay y n d w hG)
  have HT2 := Lib.hid (fun w => ref11_ToDay y n d w)
  have HL1 := Lib.hid (fun w => greg_Leap y w hy)
  have HL2 := Lib.hid (fun w => ref11_Leap y w hy)
  have HC1 := Lib.hid (fun w hG => greg_Days y n w hG hy)
  have HC2 := Lib.hid (fun w => ref11_Days y n w hy)
  have HE1 := Lib.hid (fun w => greg_Less y n d z k f w)
  have HE2 := Lib.hid (fun w => ref11_Less y n d z k f w)
  rw [show ref11_LessV = greg_LessV from rfl] at HE2
  have HF1 := Lib.hid (fun w => greg_FromDay_no D w hD)
  have HF2 := Lib.hid (fun w => ref11_FromDay_no D w hD)
  clear hD
  generalize Gr.gtV y n d = v1 at *
  generalize Gr.gtE y n d = v2 at *
  generalize Gr.leap y = v3 at *
  generalize Gr.days y n = v4 at *
  generalize greg_LessV y n d z k f = v5 at *
  go_enter Tryd.func3, Tryd.ntmps3
  go_wp2_with fail
  refine (HT1.out _ (Tab.below hG (by repeat (first | (with_reducible exact Below.refl _ _) | assumption | (with_reducible refine bdrew ?_) | (with_reducible refine baa ?_ _) | (with_reducible refine bs ?_ (by first | exact Nat.le_refl _ | omega | (simp; omega)) _) | (with_reducible refine bt ?_ (by assumption)))))).mono ?_
  rintro e w1 ⟨rfl, hb1⟩
  obtain ⟨hc1, hf1⟩ := bcell hb1
  have hz1 := hb1.size
  try simp at hz1
  have hs1x0 : w.heap.size < w1.heap.size := by omega
  have hs1x1 : (w.heap.size + 1) < w1.heap.size := by omega
  have g1x0 : w1.cell? ⟨w.heap.size, 0, none⟩ = some (.int .i64 y) := (hc1 _ _ (by first | omega | (simp; done) | (simp; omega))).trans (by first | assumption | simp [go_sem] | simp [go_sem, *])
  have g1x1 : w1.cell? ⟨w.heap.size, 1, none⟩ = some (.int .i64 n) := (hc1 _ _ (by first | omega | (simp; done) | (simp; omega))).trans (by first | assumption | simp [go_sem] | simp [go_sem, *])
  have g1x2 : w1.cell? ⟨w.heap.size, 2, none⟩ = some (.int .i64 d) := (hc1 _ _ (by first | omega | (simp; done) | (simp; omega))).trans (by first | assumption | simp [go_sem] | simp [go_sem, *])
  have g1x3 : w1.cell? ⟨(w.heap.size + 1), 0, none⟩ = some (.int .i64 z) := (hc1 _ _ (by first | omega | (simp; done) | (simp; omega))).trans (by first | assumption | simp [go_sem] | simp [go_sem, *])
  have g1x4 : w1.cell? ⟨(w.heap.size + 1), 1, none⟩ = some (.int .i64 k) := (hc1 _ _ (by first | omega | (simp; done) | (simp; omega))).trans (by first | assumption | simp [go_sem] | simp [go_sem, *])
  have g1x5 : w1.cell? ⟨(w.heap.size + 1), 2, none⟩ = some (.int .i64 f) := (hc1 _ _ (by first | omega | (simp; done) | (simp; omega))).trans (by first | assumption | simp [go_sem] | simp [go_sem, *])
  go_wp2_with fail
  refine (HT2.out _).mono ?_
  rintro e w2 ⟨rfl, hb2⟩
  obtain ⟨hc2, hf2⟩ := bcell hb2
  have hz2 := hb2.size
  try simp at hz2
  have hs2x0 : w.heap.size < w2.heap.size := by omega
  have hs2x1 : (w.heap.size + 1) < w2.heap.size := by omega
  have g2x0 : w2.cell? ⟨w.heap.size, 0, none⟩ = some (.int .i64 y) := (hc2 _ _ (by first | omega | (simp; done) | (simp; omega))).trans (by first | assumption | simp [go_sem] | simp [go_sem, *])
  have g2x1 : w2.cell? ⟨w.heap.size, 1, none⟩ = some (.int .i64 n) := (hc2 _ _ (by first | omega | (simp; done) | (simp; omega))).trans (by first | assumption | simp [go_sem] | simp [go_sem, *])
  have g2x2 : w2.cell? ⟨w.heap.size, 2, none⟩ = some (.int .i64 d) := (hc2 _ _ (by first | omega | (simp; done) | (simp; omega))).trans (by first | assumption | simp [go_sem] | simp [go_sem, *])
  have g2x3 : w2.cell? ⟨(w.heap.size + 1), 0, none⟩ = some (.int .i64 z) := (hc2 _ _ (by first | omega | (simp; done) | (simp; omega))).trans (by first | assumption | simp [go_sem] | simp [go_sem, *])
  have g2x4 : w2.cell? ⟨(w.heap.size + 1), 1, none⟩ = some (.int .i64 k) := (hc2 _ _ (by first | omega | (simp; done) | (simp; omega))).trans (by first | assumption | simp [go_sem] | simp [go_sem, *])
  have g2x5 : w2.cell? ⟨(w.heap.size + 1), 2, none⟩ = some (.int .i64 f) := (hc2 _ _ (by first | omega | (simp; done) | (simp; omega))).trans (by first | assumption | simp [go_sem] | simp [go_sem, *])
  go_wp2_with fail
  refine (HF1.out _).mono ?_
  rintro e w3 ⟨rfl, hb3⟩
  obtain ⟨hc3, hf3⟩ := bcell hb3
  have hz3 := hb3.size
  try simp at hz3
  have hs3x0 : w.heap.size < w3.heap.size := by omega
  have hs3x1 : (w.heap.size + 1) < w3.heap.size := by omega
  have g3x0 : w3.cell? ⟨w.heap.size, 0, none⟩ = some (.int .i64 y) := (hc3 _ _ (by first | omega | (simp; done) | (simp; omega))).trans (by first | assumption | simp [go_sem] | simp [go_sem, *])
  have g3x1 : w3.cell? ⟨w.heap.size, 1, none⟩ = some (.int .i64 n) := (hc3 _ _ (by first | omega | (simp; done) | (simp; omega))).trans (by first | assumption | simp [go_sem] | simp [go_sem, *])
  have g3x2 : w3.cell? ⟨w.heap.size, 2, none⟩ = some (.int .i64 d) := (hc3 _ _ (by first | omega | (simp; done) | (simp; omega))).trans (by first | assumption | simp [go_sem] | simp [go_sem, *])
  have g3x3 : w3.cell? ⟨(w.heap.size + 1), 0, none⟩ = some (.int .i64 z) := (hc3 _ _ (by first | omega | (simp; done) | (simp; omega))).trans (by first | assumption | simp [go_sem] | simp [go_sem, *])
  have g3x4 : w3.cell? ⟨(w.heap.size + 1), 1, none⟩ = some (.int .i64 k) := (hc3 _ _ (by first | omega | (simp; done) | (simp; omega))).trans (by first | assumption | simp [go_sem] | simp [go_sem, *])
  have g3x5 : w3.cell? ⟨(w.heap.size + 1), 2, none⟩ = some (.int .i64 f) := (hc3 _ _ (by first | omega | (simp; done) | (simp; omega))).trans (by first | assumption | simp [go_sem] | simp [go_sem, *])
  go_wp2_with fail
  refine (HF2.out _).mono ?_
  rintro e w4 ⟨rfl, hb4⟩
  obtain ⟨hc4, hf4⟩ := bcell hb4
  have hz4 := hb4.size
  try simp at hz4
  have hl4w3 : w3.heap.size < w4.heap.size := by omega
  have hm4w3 : w3.heap.size ≤ w4.heap.size := by omega
  have hs4x0 : w.heap.size < w4.heap.size := by omega
  have hs4x1 : (w.heap.size + 1) < w4.heap.size := by omega
  have g4x0 : w4.cell? ⟨w.heap.size, 0, none⟩ = some (.int .i64 y) := (hc4 _ _ (by first | omega | (simp; done) | (simp; omega))).trans (by first | assumption | simp [go_sem] | simp [go_sem, *])
  have g4x1 : w4.cell? ⟨w.heap.size, 1, none⟩ = some (.int .i64 n) := (hc4 _ _ (by first | omega | (simp; done) | (simp; omega))).trans (by first | assumption | simp [go_sem] | simp [go_sem, *])
  have g4x2 : w4.cell? ⟨w.heap.size, 2, none⟩ = some (.int .i64 d) := (hc4 _ _ (by first | omega | (simp; done) | (simp; omega))).trans (by first | assumption | simp [go_sem] | simp [go_sem, *])
  have g4x3 : w4.cell? ⟨(w.heap.size + 1), 0, none⟩ = some (.int .i64 z) := (hc4 _ _ (by first | omega | (simp; done) | (simp; omega))).trans (by first | assumption | simp [go_sem] | simp [go_sem, *])
  have g4x4 : w4.cell? ⟨(w.heap.size + 1), 1, none⟩ = some (.int .i64 k) := (hc4 _ _ (by first | omega | (simp; done) | (simp; omega))).trans (by first | assumption | simp [go_sem] | simp [go_sem, *])
  have g4x5 : w4.cell? ⟨(w.heap.size + 1), 2, none⟩ = some (.int .i64 f) := (hc4 _ _ (by first | omega | (simp; done) | (simp; omega))).trans (by first | assumption | simp [go_sem] | simp [go_sem, *])
  have g4x6 : w4.cell? ⟨w3.heap.size, 0, none⟩ = some (.int .i64 0) := (hc4 _ _ (by first | omega | (simp; done) | (simp; omega))).trans (by first | assumption | simp [go_sem] | simp [go_sem, *])
  have g4x7 : w4.cell? ⟨w3.heap.size, 1, none⟩ = some (.int .i64 0) := (hc4 _ _ (by first | omega | (simp; done) | (simp; omega))).trans (by first | assumption | simp [go_sem] | simp [go_sem, *])
  have g4x8 : w4.cell? ⟨w3.heap.size, 2, none⟩ = some (.int .i64 0) := (hc4 _ _ (by first | omega | (simp; done) | (simp; omega))).trans (by first | assumption | simp [go_sem] | simp [go_sem, *])
  go_wp2_with fail
  refine settle (fun W => W.cell? ⟨w.heap.size, 0, none⟩ = some (.int .i64 y) ∧ W.cell? ⟨w.heap.size, 1, none⟩ = some (.int .i64 n) ∧ W.cell? ⟨w.heap.size, 2, none⟩ = some (.int .i64 d) ∧ W.cell? ⟨(w.heap.size + 1), 0, none⟩ = some (.int .i64 z) ∧ W.cell? ⟨(w.heap.size + 1), 1, none⟩ = some (.int .i64 k) ∧ W.cell? ⟨(w.heap.size + 1), 2, none⟩ = some (.int .i64 f) ∧ W.cell? ⟨w3.heap.size, 0, none⟩ = some (.int .i64 0) ∧ W.cell? ⟨w3.heap.size, 1, none⟩ = some (.int .i64 0) ∧ W.cell? ⟨w3.heap.size, 2, none⟩ = some (.int .i64 0) ∧ W.cell? ⟨w4.heap.size, 0, none⟩ = some (.int .i64 0) ∧ W.cell? ⟨w4.heap.size, 1, none⟩ = some (.int .i64 0) ∧ W.cell? ⟨w4.heap.size, 2, none⟩ = some (.int .i64 0) ∧ w.heap.size < W.heap.size ∧ (w.heap.size + 1) < W.heap.size ∧ w3.heap.size < W.heap.size ∧ w4.heap.size < W.heap.size ∧ Below w.heap.size w W ∧ Tab W 0 Gr.gregCells) ⟨?_, ?_, ?_, ?_, ?_, ?_, ?_, ?_, ?_, ?_, ?_, ?_, ?_, ?_, ?_, ?_, ?_, ?_⟩ ?_
  · (first | assumption | (simp [go_sem, *]; done))
  · (first | assumption | (simp [go_sem, *]; done))
  · (first | assumption | (simp [go_sem, *]; done))
  · (first | assumption | (simp [go_sem, *]; done))
  · (first | assumption | (simp [go_sem, *]; done))
  · (first | assumption | (simp [go_sem, *]; done))
  · (first | assumption | (simp [go_sem, *]; done))
  · (first | assumption | (simp [go_sem, *]; done))
  · (first | assumption | (simp [go_sem, *]; done))
  · (first | assumption | (simp [go_sem, *]; done))
  · (first | assumption | (simp [go_sem, *]; done))
  · (first | assumption | (simp [go_sem, *]; done))
  · (first | assumption | (simp; done) | (simp; omega) | omega)
  · (first | assumption | (simp; done) | (simp; omega) | omega)
  · (first | assumption | (simp; done) | (simp; omega) | omega)
  · (first | assumption | (simp; done) | (simp; omega) | omega)
  · (repeat (first | (with_reducible exact Below.refl _ _) | assumption | (with_reducible refine bdrew ?_) | (with_reducible refine baa ?_ _) | (with_reducible refine bs ?_ (by first | exact Nat.le_refl _ | omega | (simp; omega)) _) | (with_reducible refine bt ?_ (by assumption))))
  · (refine Tab.below hG ?_; repeat (first | (with_reducible exact Below.refl _ _) | assumption | (with_reducible refine bdrew ?_) | (with_reducible refine baa ?_ _) | (with_reducible refine bs ?_ (by first | exact Nat.le_refl _ | omega | (simp; omega)) _) | (with_reducible refine bt ?_ (by assumption))))
  rintro W7 ⟨r7x0, r7x1, r7x2, r7x3, r7x4, r7x5, r7x6, r7x7, r7x8, r7x9, r7x10, r7x11, rs7x0, rs7x1, rs7x2, rs7x3, hB7, hT7x0⟩
  refine wp_region_class (by kernel_rfl) (by kernel_rfl) (fun hall => ?_)
  repeat (first | go_big_quiet_skip | (go_big_quiet_want; first | (refine quiet_load1 _ _ _ rfl rfl ?_ ?_ ?_; (focus (intro _; simp; done)); (focus (first | assumption | omega | (simp; done) | (simp; omega))); apply Exists.intro; refine ⟨?_, ?_⟩; assumption; go_simp; go_big_quiet_on) | (refine quiet_load2 _ _ _ _ rfl rfl ?_ ?_ ?_ ?_; (focus (intro _; simp; done)); (focus (intro _; simp; done)); (focus (first | assumption | omega | (simp; done) | (simp; omega))); apply Exists.intro; apply Exists.intro; refine ⟨?_, ?_, ?_⟩; assumption; assumption; go_simp; go_big_quiet_on) | (refine quiet_load3 _ _ _ _ rfl rfl ?_ ?_ ?_ ?_; (focus (intro _; simp; done)); (focus (intro _; simp; done)); (focus (first | assumption | omega | (simp; done) | (simp; omega))); apply Exists.intro; apply Exists.intro; apply Exists.intro; refine ⟨?_, ?_, ?_, ?_⟩; assumption; assumption; assumption; go_simp; go_big_quiet_on) | (refine quiet_load4 _ _ _ _ rfl rfl ?_ ?_ ?_ ?_; (focus (intro _; simp; done)); (focus (intro _; simp; done)); (focus (first | assumption | omega | (simp; done) | (simp; omega))); apply Exists.intro; apply Exists.intro; apply Exists.intro; apply Exists.intro; refine ⟨?_, ?_, ?_, ?_, ?_⟩; assumption; assumption; assumption; assumption; go_simp; go_big_quiet_on) | (go_big_quiet_op; first | go_big_quiet_on | (apply Exists.intro; refine ⟨fun x hx => ?_, ?_⟩; (first | exact call_below hx (awake11 x (Tab.below hT7x0 hx)) | exact call_same hx (HL1.out x) | exact call_same hx (HL2.out x) | exact call_below hx (HC1.out x (Tab.below hT7x0 hx)) | exact call_below hx (HC2.out x) | exact call_below hx (HE1.out x) | exact call_below hx (HE2.out x)); go_big_quiet_on))))
  refine wpQuiet_nil ?_
  clear hall
  intro x8 hx8
  go_wp2_with fail
  go_ret
  exact ⟨rfl, bt hB7 hx8⟩
theorem GregTells_walk (y n d z k f : Int) (D : Int) (hy : I64 y) (hn : I64 n) (hd : I64 d) (hz : I64 z) (hk : I64 k) (hf : I64 f) (hD : I64 D) (w : World) (hG : Tab w 0 Gr.gregCells) :
    Calls Tryd.prog 3 #[.agg #[.int .i64 y, .int .i64 n, .int .i64 d], .agg #[.int .i64 z, .int .i64 k, .int .i64 f], .int .i64 D] w fun e w' => e = .returned (.bool true) ∧ Below w.heap.size w w' := by
  by_cases c : D < -1373427 ∨ 2278650 < D
  · exact GregTells_no y n d z k f D hy w hG c
  · obtain ⟨a, b, c', hv, e⟩ := Gr.day_there D
    exact GregTells_at y n d z k f D hy w hG a b c' hv e (by omega) (by omega)
end Go.Proofs.YtncckpfenjokmaaDoor
