/- Layer 11: its laws' walks. -/
import Derived.Test.YtncckpfenjokmaaDoorW11
namespace Go.Proofs.YtncckpfenjokmaaDoor
open Go.ChangeShapes Go.WideShapes Go.ChangeAt Go.RowKit
set_option linter.unusedVariables false
set_option maxRecDepth 100000
theorem set3 {W : World} {B : Nat} {a b c : Value} (h0 : W.cell? ⟨B, 0, none⟩ = some a) (h1 : W.cell? ⟨B, 1, none⟩ = some b) (h2 : W.cell? ⟨B, 2, none⟩ = some c) (x y z : Value) :
    (((W.setCell ⟨B, 0, none⟩ x).setCell ⟨B, 1, none⟩ y).setCell ⟨B, 2, none⟩ z).cell? ⟨B, 0, none⟩ = some x ∧ (((W.setCell ⟨B, 0, none⟩ x).setCell ⟨B, 1, none⟩ y).setCell ⟨B, 2, none⟩ z).cell? ⟨B, 1, none⟩ = some y ∧ (((W.setCell ⟨B, 0, none⟩ x).setCell ⟨B, 1, none⟩ y).setCell ⟨B, 2, none⟩ z).cell? ⟨B, 2, none⟩ = some z ∧ ∀ b' o, b' ≠ B → (((W.setCell ⟨B, 0, none⟩ x).setCell ⟨B, 1, none⟩ y).setCell ⟨B, 2, none⟩ z).cell? ⟨b', o, none⟩ = W.cell? ⟨b', o, none⟩ := by
  refine ⟨?_, ?_, ?_, fun b' o hb => ?_⟩
  · simp [go_sem, h0]
  · simp [go_sem, h1]
  · simp [go_sem, h2]
  · first | (simp [go_sem]; done) | (simp [go_sem, hb]; done)
set_option maxHeartbeats 4000000 in
theorem GregNext_no (D : Int) (w : World) (hG : Tab w 0 Gr.gregCells) (hD : D < -1373427 ∨ 2278650 < D) :
    Calls Tryd.prog 5 #[.int .i64 D] w fun e w' => e = .returned (.bool true) ∧ Below w.heap.size w w' := by
  have HF1 := Lib.hid (fun w => greg_FromDay_no D w hD)
  clear hD
  go_enter Tryd.func5, Tryd.ntmps5
  go_wp2_with fail
  refine (HF1.out _).mono ?_
  rintro e w1 ⟨rfl, hb1⟩
  obtain ⟨hc1, hf1⟩ := bcell hb1
  have hz1 := hb1.size
  try simp at hz1
  go_wp2_with fail
  refine (awake11 _ (Tab.below hG (by repeat (first | (with_reducible exact Below.refl _ _) | (with_reducible assumption) | (with_reducible refine bdrew ?_) | (with_reducible refine baa ?_ _) | (with_reducible refine bs ?_ (by first | exact Nat.le_refl _ | omega | (simp; omega)) _) | (with_reducible refine bt ?_ (by with_reducible assumption)))))).mono ?_
  rintro e w2 ⟨rfl, hb2⟩
  obtain ⟨hc2, hf2⟩ := bcell hb2
  have hz2 := hb2.size
  try simp at hz2
  have hl2w1 : w1.heap.size < w2.heap.size := by omega
  have hm2w1 : w1.heap.size ≤ w2.heap.size := by omega
  have g2x0 : w2.cell? ⟨w1.heap.size, 0, none⟩ = some (.int .i64 0) := (hc2 _ _ (by first | omega | (simp; done) | (simp; omega))).trans (by first | (with_reducible assumption) | (simp [go_sem]; done) | (simp [go_sem, *]; done) | assumption)
  have g2x1 : w2.cell? ⟨w1.heap.size, 1, none⟩ = some (.int .i64 0) := (hc2 _ _ (by first | omega | (simp; done) | (simp; omega))).trans (by first | (with_reducible assumption) | (simp [go_sem]; done) | (simp [go_sem, *]; done) | assumption)
  have g2x2 : w2.cell? ⟨w1.heap.size, 2, none⟩ = some (.int .i64 0) := (hc2 _ _ (by first | omega | (simp; done) | (simp; omega))).trans (by first | (with_reducible assumption) | (simp [go_sem]; done) | (simp [go_sem, *]; done) | assumption)
  go_wp2_with fail
  go_ret
  refine ⟨rfl, ?_⟩
  repeat (first | (with_reducible exact Below.refl _ _) | (with_reducible assumption) | (with_reducible refine bdrew ?_) | (with_reducible refine baa ?_ _) | (with_reducible refine bs ?_ (by first | exact Nat.le_refl _ | omega | (simp; omega)) _) | (with_reducible refine bt ?_ (by with_reducible assumption)))
set_option maxHeartbeats 4000000 in
theorem GregNext_last (D : Int) (w : World) (hG : Tab w 0 Gr.gregCells) (ry rm rd : Int) (hv : Gr.Valid ry rm rd) (hD : D = Gr.dayOf ry rm rd) (b1 : -1373427 ≤ D) (b2 : D ≤ 2278650) (c : D = 2278650) :
    Calls Tryd.prog 5 #[.int .i64 D] w fun e w' => e = .returned (.bool true) ∧ Below w.heap.size w w' := by
  subst hD
  have HF1 := Lib.hid (fun w hG => greg_FromDay_v ry rm rd w hG hv b1 b2)
  have HLa := Lib.hid (fun w => ref6_Last w)
  clear hv
  generalize Gr.dayOf ry rm rd = D at *
  subst c
  go_enter Tryd.func5, Tryd.ntmps5
  go_wp2_with fail
  refine (HF1.out _ (Tab.below hG (by repeat (first | (with_reducible exact Below.refl _ _) | (with_reducible assumption) | (with_reducible refine bdrew ?_) | (with_reducible refine baa ?_ _) | (with_reducible refine bs ?_ (by first | exact Nat.le_refl _ | omega | (simp; omega)) _) | (with_reducible refine bt ?_ (by with_reducible assumption)))))).mono ?_
  rintro e w1 ⟨rfl, hb1⟩
  obtain ⟨hc1, hf1⟩ := bcell hb1
  have hz1 := hb1.size
  try simp at hz1
  go_wp2_with fail
  refine (HLa.out _).mono ?_
  rintro e w2 ⟨rfl, hb2⟩
  obtain ⟨hc2, hf2⟩ := bcell hb2
  have hz2 := hb2.size
  try simp at hz2
  have hl2w1 : w1.heap.size < w2.heap.size := by omega
  have hm2w1 : w1.heap.size ≤ w2.heap.size := by omega
  have g2x0 : w2.cell? ⟨w1.heap.size, 0, none⟩ = some (.int .i64 ry) := (hc2 _ _ (by first | omega | (simp; done) | (simp; omega))).trans (by first | (with_reducible assumption) | (simp [go_sem]; done) | (simp [go_sem, *]; done) | assumption)
  have g2x1 : w2.cell? ⟨w1.heap.size, 1, none⟩ = some (.int .i64 rm) := (hc2 _ _ (by first | omega | (simp; done) | (simp; omega))).trans (by first | (with_reducible assumption) | (simp [go_sem]; done) | (simp [go_sem, *]; done) | assumption)
  have g2x2 : w2.cell? ⟨w1.heap.size, 2, none⟩ = some (.int .i64 rd) := (hc2 _ _ (by first | omega | (simp; done) | (simp; omega))).trans (by first | (with_reducible assumption) | (simp [go_sem]; done) | (simp [go_sem, *]; done) | assumption)
  go_wp2_with fail
  refine (awake11 _ (Tab.below hG (by repeat (first | (with_reducible exact Below.refl _ _) | (with_reducible assumption) | (with_reducible refine bdrew ?_) | (with_reducible refine baa ?_ _) | (with_reducible refine bs ?_ (by first | exact Nat.le_refl _ | omega | (simp; omega)) _) | (with_reducible refine bt ?_ (by with_reducible assumption)))))).mono ?_
  rintro e w3 ⟨rfl, hb3⟩
  obtain ⟨hc3, hf3⟩ := bcell hb3
  have hz3 := hb3.size
  try simp at hz3
  have hl3w1 : w1.heap.size < w3.heap.size := by omega
  have hm3w1 : w1.heap.size ≤ w3.heap.size := by omega
  have g3x0 : w3.cell? ⟨w1.heap.size, 0, none⟩ = some (.int .i64 ry) := (hc3 _ _ (by first | omega | (simp; done) | (simp; omega))).trans (by first | (with_reducible assumption) | (simp [go_sem]; done) | (simp [go_sem, *]; done) | assumption)
  have g3x1 : w3.cell? ⟨w1.heap.size, 1, none⟩ = some (.int .i64 rm) := (hc3 _ _ (by first | omega | (simp; done) | (simp; omega))).trans (by first | (with_reducible assumption) | (simp [go_sem]; done) | (simp [go_sem, *]; done) | assumption)
  have g3x2 : w3.cell? ⟨w1.heap.size, 2, none⟩ = some (.int .i64 rd) := (hc3 _ _ (by first | omega | (simp; done) | (simp; omega))).trans (by first | (with_reducible assumption) | (simp [go_sem]; done) | (simp [go_sem, *]; done) | assumption)
  go_wp2_with fail
  go_ret
  refine ⟨rfl, ?_⟩
  repeat (first | (with_reducible exact Below.refl _ _) | (with_reducible assumption) | (with_reducible refine bdrew ?_) | (with_reducible refine baa ?_ _) | (with_reducible refine bs ?_ (by first | exact Nat.le_refl _ | omega | (simp; omega)) _) | (with_reducible refine bt ?_ (by with_reducible assumption)))
set_option maxHeartbeats 4000000 in
theorem GregRound_no (D : Int) (w : World) (hG : Tab w 0 Gr.gregCells) (hD : D < -1373427 ∨ 2278650 < D) :
    Calls Tryd.prog 6 #[.int .i64 D] w fun e w' => e = .returned (.bool true) ∧ Below w.heap.size w w' := by
  have HF1 := Lib.hid (fun w => greg_FromDay_no D w hD)
  clear hD
  go_enter Tryd.func6, Tryd.ntmps6
  go_wp2_with fail
  refine (HF1.out _).mono ?_
  rintro e w1 ⟨rfl, hb1⟩
  obtain ⟨hc1, hf1⟩ := bcell hb1
  have hz1 := hb1.size
  try simp at hz1
  go_wp2_with fail
  refine (awake11 _ (Tab.below hG (by repeat (first | (with_reducible exact Below.refl _ _) | (with_reducible assumption) | (with_reducible refine bdrew ?_) | (with_reducible refine baa ?_ _) | (with_reducible refine bs ?_ (by first | exact Nat.le_refl _ | omega | (simp; omega)) _) | (with_reducible refine bt ?_ (by with_reducible assumption)))))).mono ?_
  rintro e w2 ⟨rfl, hb2⟩
  obtain ⟨hc2, hf2⟩ := bcell hb2
  have hz2 := hb2.size
  try simp at hz2
  have hl2w1 : w1.heap.size < w2.heap.size := by omega
  have hm2w1 : w1.heap.size ≤ w2.heap.size := by omega
  have g2x0 : w2.cell? ⟨w1.heap.size, 0, none⟩ = some (.int .i64 0) := (hc2 _ _ (by first | omega | (simp; done) | (simp; omega))).trans (by first | (with_reducible assumption) | (simp [go_sem]; done) | (simp [go_sem, *]; done) | assumption)
  have g2x1 : w2.cell? ⟨w1.heap.size, 1, none⟩ = some (.int .i64 0) := (hc2 _ _ (by first | omega | (simp; done) | (simp; omega))).trans (by first | (with_reducible assumption) | (simp [go_sem]; done) | (simp [go_sem, *]; done) | assumption)
  have g2x2 : w2.cell? ⟨w1.heap.size, 2, none⟩ = some (.int .i64 0) := (hc2 _ _ (by first | omega | (simp; done) | (simp; omega))).trans (by first | (with_reducible assumption) | (simp [go_sem]; done) | (simp [go_sem, *]; done) | assumption)
  go_wp2_with fail
  go_ret
  refine ⟨rfl, ?_⟩
  repeat (first | (with_reducible exact Below.refl _ _) | (with_reducible assumption) | (with_reducible refine bdrew ?_) | (with_reducible refine baa ?_ _) | (with_reducible refine bs ?_ (by first | exact Nat.le_refl _ | omega | (simp; omega)) _) | (with_reducible refine bt ?_ (by with_reducible assumption)))
set_option maxHeartbeats 4000000 in
theorem GregRound_last (D : Int) (w : World) (hG : Tab w 0 Gr.gregCells) (ry rm rd : Int) (hv : Gr.Valid ry rm rd) (hD : D = Gr.dayOf ry rm rd) (b1 : -1373427 ≤ D) (b2 : D ≤ 2278650) (c : 2278650 < D + 146097) :
    Calls Tryd.prog 6 #[.int .i64 D] w fun e w' => e = .returned (.bool true) ∧ Below w.heap.size w w' := by
  subst hD
  have HF1 := Lib.hid (fun w hG => greg_FromDay_v ry rm rd w hG hv b1 b2)
  have HLa := Lib.hid (fun w => ref6_Last w)
  clear hv
  generalize Gr.dayOf ry rm rd = D at *
  go_enter Tryd.func6, Tryd.ntmps6
  go_wp2_with fail
  refine (HF1.out _ (Tab.below hG (by repeat (first | (with_reducible exact Below.refl _ _) | (with_reducible assumption) | (with_reducible refine bdrew ?_) | (with_reducible refine baa ?_ _) | (with_reducible refine bs ?_ (by first | exact Nat.le_refl _ | omega | (simp; omega)) _) | (with_reducible refine bt ?_ (by with_reducible assumption)))))).mono ?_
  rintro e w1 ⟨rfl, hb1⟩
  obtain ⟨hc1, hf1⟩ := bcell hb1
  have hz1 := hb1.size
  try simp at hz1
  go_wp2_with fail
  refine (HLa.out _).mono ?_
  rintro e w2 ⟨rfl, hb2⟩
  obtain ⟨hc2, hf2⟩ := bcell hb2
  have hz2 := hb2.size
  try simp at hz2
  have hl2w1 : w1.heap.size < w2.heap.size := by omega
  have hm2w1 : w1.heap.size ≤ w2.heap.size := by omega
  have g2x0 : w2.cell? ⟨w1.heap.size, 0, none⟩ = some (.int .i64 ry) := (hc2 _ _ (by first | omega | (simp; done) | (simp; omega))).trans (by first | (with_reducible assumption) | (simp [go_sem]; done) | (simp [go_sem, *]; done) | assumption)
  have g2x1 : w2.cell? ⟨w1.heap.size, 1, none⟩ = some (.int .i64 rm) := (hc2 _ _ (by first | omega | (simp; done) | (simp; omega))).trans (by first | (with_reducible assumption) | (simp [go_sem]; done) | (simp [go_sem, *]; done) | assumption)
  have g2x2 : w2.cell? ⟨w1.heap.size, 2, none⟩ = some (.int .i64 rd) := (hc2 _ _ (by first | omega | (simp; done) | (simp; omega))).trans (by first | (with_reducible assumption) | (simp [go_sem]; done) | (simp [go_sem, *]; done) | assumption)
  go_wp2_with fail
  refine (awake11 _ (Tab.below hG (by repeat (first | (with_reducible exact Below.refl _ _) | (with_reducible assumption) | (with_reducible refine bdrew ?_) | (with_reducible refine baa ?_ _) | (with_reducible refine bs ?_ (by first | exact Nat.le_refl _ | omega | (simp; omega)) _) | (with_reducible refine bt ?_ (by with_reducible assumption)))))).mono ?_
  rintro e w3 ⟨rfl, hb3⟩
  obtain ⟨hc3, hf3⟩ := bcell hb3
  have hz3 := hb3.size
  try simp at hz3
  have hl3w1 : w1.heap.size < w3.heap.size := by omega
  have hm3w1 : w1.heap.size ≤ w3.heap.size := by omega
  have g3x0 : w3.cell? ⟨w1.heap.size, 0, none⟩ = some (.int .i64 ry) := (hc3 _ _ (by first | omega | (simp; done) | (simp; omega))).trans (by first | (with_reducible assumption) | (simp [go_sem]; done) | (simp [go_sem, *]; done) | assumption)
  have g3x1 : w3.cell? ⟨w1.heap.size, 1, none⟩ = some (.int .i64 rm) := (hc3 _ _ (by first | omega | (simp; done) | (simp; omega))).trans (by first | (with_reducible assumption) | (simp [go_sem]; done) | (simp [go_sem, *]; done) | assumption)
  have g3x2 : w3.cell? ⟨w1.heap.size, 2, none⟩ = some (.int .i64 rd) := (hc3 _ _ (by first | omega | (simp; done) | (simp; omega))).trans (by first | (with_reducible assumption) | (simp [go_sem]; done) | (simp [go_sem, *]; done) | assumption)
  go_wp2_with fail
  go_ret
  refine ⟨rfl, ?_⟩
  repeat (first | (with_reducible exact Below.refl _ _) | (with_reducible assumption) | (with_reducible refine bdrew ?_) | (with_reducible refine baa ?_ _) | (with_reducible refine bs ?_ (by first | exact Nat.le_refl _ | omega | (simp; omega)) _) | (with_reducible refine bt ?_ (by with_reducible assumption)))
set_option maxHeartbeats 4000000 in
theorem GregNext_a (D : Int) (w : World) (hG : Tab w 0 Gr.gregCells) (ry rm rd : Int) (hv : Gr.Valid ry rm rd) (hD : D = Gr.dayOf ry rm rd) (b1 : -1373427 ≤ D) (b2 : D ≤ 2278650) (c : D < 2278650) (hle : rd ≤ Gr.days ry rm) (c1 : rd < Gr.days ry rm) :
    Calls Tryd.prog 5 #[.int .i64 D] w fun e w' => e = .returned (.bool true) ∧ Below w.heap.size w w' := by
  obtain ⟨hw, hE⟩ : Gr.Valid ry rm (rd + 1) ∧ Gr.dayOf ry rm (rd + 1) = Gr.dayOf ry rm rd + 1 := by
    rcases Gr.next_day hv with ⟨a, b⟩ | ⟨a, b, c'⟩ | ⟨a, b, c'⟩
    · exact b
    · omega
    · omega
  have hyb := Gr.year_in hv (by omega) (by omega)
  have hmb := hv.1
  have hmb2 := hv.2.1
  have hdb := hv.2.2.1
  have hdb2 : Gr.days ry rm ≤ 31 := by
    obtain ⟨x, e1, e2, e3, e4⟩ := Gr.ml_at ry (rm - 1).toNat (by omega)
    rw [show (((rm - 1).toNat : Nat) : Int) + 1 = rm by omega] at e2
    omega
  have hne : (D == 2278650) = false := by simp; omega
  subst hD
  have HF2 := Lib.hid (fun w hG => greg_FromDay_v ry rm (rd + 1) w hG hw (by omega) (by omega))
  rw [hE] at HF2
  have HF1 := Lib.hid (fun w hG => greg_FromDay_v ry rm rd w hG hv b1 b2)
  have HLa := Lib.hid (fun w => ref6_Last w)
  have HC := Lib.hid (fun w hG => greg_Days ry rm w hG ⟨by omega, by omega⟩)
  clear hw hE hv
  generalize Gr.dayOf ry rm rd = D at *
  generalize Gr.days ry rm = M at *
  have hq : (rd == M) = false := by simp; omega
  go_enter Tryd.func5, Tryd.ntmps5
  go_wp2_with fail
  refine (HF1.out _ (Tab.below hG (by repeat (first | (with_reducible exact Below.refl _ _) | (with_reducible assumption) | (with_reducible refine bdrew ?_) | (with_reducible refine baa ?_ _) | (with_reducible refine bs ?_ (by first | exact Nat.le_refl _ | omega | (simp; omega)) _) | (with_reducible refine bt ?_ (by with_reducible assumption)))))).mono ?_
  rintro e w1 ⟨rfl, hb1⟩
  obtain ⟨hc1, hf1⟩ := bcell hb1
  have hz1 := hb1.size
  try simp at hz1
  go_wp2_with fail
  refine (HLa.out _).mono ?_
  rintro e w2 ⟨rfl, hb2⟩
  obtain ⟨hc2, hf2⟩ := bcell hb2
  have hz2 := hb2.size
  try simp at hz2
  have hl2w1 : w1.heap.size < w2.heap.size := by omega
  have hm2w1 : w1.heap.size ≤ w2.heap.size := by omega
  have g2x0 : w2.cell? ⟨w1.heap.size, 0, none⟩ = some (.int .i64 ry) := (hc2 _ _ (by first | omega | (simp; done) | (simp; omega))).trans (by first | (with_reducible assumption) | (simp [go_sem]; done) | (simp [go_sem, *]; done) | assumption)
  have g2x1 : w2.cell? ⟨w1.heap.size, 1, none⟩ = some (.int .i64 rm) := (hc2 _ _ (by first | omega | (simp; done) | (simp; omega))).trans (by first | (with_reducible assumption) | (simp [go_sem]; done) | (simp [go_sem, *]; done) | assumption)
  have g2x2 : w2.cell? ⟨w1.heap.size, 2, none⟩ = some (.int .i64 rd) := (hc2 _ _ (by first | omega | (simp; done) | (simp; omega))).trans (by first | (with_reducible assumption) | (simp [go_sem]; done) | (simp [go_sem, *]; done) | assumption)
  go_wp2_with fail
  refine (HF2.out _ (Tab.below hG (by repeat (first | (with_reducible exact Below.refl _ _) | (with_reducible assumption) | (with_reducible refine bdrew ?_) | (with_reducible refine baa ?_ _) | (with_reducible refine bs ?_ (by first | exact Nat.le_refl _ | omega | (simp; omega)) _) | (with_reducible refine bt ?_ (by with_reducible assumption)))))).mono ?_
  rintro e w3 ⟨rfl, hb3⟩
  obtain ⟨hc3, hf3⟩ := bcell hb3
  have hz3 := hb3.size
  try simp at hz3
  have hl3w1 : w1.heap.size < w3.heap.size := by omega
  have hm3w1 : w1.heap.size ≤ w3.heap.size := by omega
  have g3x0 : w3.cell? ⟨w1.heap.size, 0, none⟩ = some (.int .i64 ry) := (hc3 _ _ (by first | omega | (simp; done) | (simp; omega))).trans (by first | (with_reducible assumption) | (simp [go_sem]; done) | (simp [go_sem, *]; done) | assumption)
  have g3x1 : w3.cell? ⟨w1.heap.size, 1, none⟩ = some (.int .i64 rm) := (hc3 _ _ (by first | omega | (simp; done) | (simp; omega))).trans (by first | (with_reducible assumption) | (simp [go_sem]; done) | (simp [go_sem, *]; done) | assumption)
  have g3x2 : w3.cell? ⟨w1.heap.size, 2, none⟩ = some (.int .i64 rd) := (hc3 _ _ (by first | omega | (simp; done) | (simp; omega))).trans (by first | (with_reducible assumption) | (simp [go_sem]; done) | (simp [go_sem, *]; done) | assumption)
  go_wp2_with fail
  refine settle (fun W => W.cell? ⟨w1.heap.size, 0, none⟩ = some (.int .i64 ry) ∧ W.cell? ⟨w1.heap.size, 1, none⟩ = some (.int .i64 rm) ∧ W.cell? ⟨w1.heap.size, 2, none⟩ = some (.int .i64 rd) ∧ W.cell? ⟨w3.heap.size, 0, none⟩ = some (.int .i64 ry) ∧ W.cell? ⟨w3.heap.size, 1, none⟩ = some (.int .i64 rm) ∧ W.cell? ⟨w3.heap.size, 2, none⟩ = some (.int .i64 (rd + 1)) ∧ W.cell? ⟨(w3.heap.size + 1), 0, none⟩ = some (.int .i64 ry) ∧ W.cell? ⟨(w3.heap.size + 1), 1, none⟩ = some (.int .i64 rm) ∧ W.cell? ⟨(w3.heap.size + 1), 2, none⟩ = some (.int .i64 (rd + 1)) ∧ w1.heap.size < W.heap.size ∧ w3.heap.size < W.heap.size ∧ (w3.heap.size + 1) < W.heap.size ∧ W.frozen? ⟨(w3.heap.size + 1), 0, none⟩ = false ∧ W.frozen? ⟨(w3.heap.size + 1), 1, none⟩ = false ∧ W.frozen? ⟨(w3.heap.size + 1), 2, none⟩ = false ∧ Below w.heap.size w W ∧ Tab W 0 Gr.gregCells) ⟨?_, ?_, ?_, ?_, ?_, ?_, ?_, ?_, ?_, ?_, ?_, ?_, ?_, ?_, ?_, ?_, ?_⟩ ?_
  · (first | (with_reducible assumption) | (simp [go_sem, *]; done) | assumption)
  · (first | (with_reducible assumption) | (simp [go_sem, *]; done) | assumption)
  · (first | (with_reducible assumption) | (simp [go_sem, *]; done) | assumption)
  · (first | (with_reducible assumption) | (simp [go_sem, *]; done) | assumption)
  · (first | (with_reducible assumption) | (simp [go_sem, *]; done) | assumption)
  · (first | (with_reducible assumption) | (simp [go_sem, *]; done) | assumption)
  · (first | (with_reducible assumption) | (simp [go_sem, *]; done) | assumption)
  · (first | (with_reducible assumption) | (simp [go_sem, *]; done) | assumption)
  · (first | (with_reducible assumption) | (simp [go_sem, *]; done) | assumption)
  · (first | assumption | (simp; done) | (simp; omega) | omega)
  · (first | assumption | (simp; done) | (simp; omega) | omega)
  · (first | assumption | (simp; done) | (simp; omega) | omega)
  · (first | (with_reducible assumption) | (simp [go_sem, *]; done) | assumption)
  · (first | (with_reducible assumption) | (simp [go_sem, *]; done) | assumption)
  · (first | (with_reducible assumption) | (simp [go_sem, *]; done) | assumption)
  · (repeat (first | (with_reducible exact Below.refl _ _) | (with_reducible assumption) | (with_reducible refine bdrew ?_) | (with_reducible refine baa ?_ _) | (with_reducible refine bs ?_ (by first | exact Nat.le_refl _ | omega | (simp; omega)) _) | (with_reducible refine bt ?_ (by with_reducible assumption))))
  · (refine Tab.below hG ?_; repeat (first | (with_reducible exact Below.refl _ _) | (with_reducible assumption) | (with_reducible refine bdrew ?_) | (with_reducible refine baa ?_ _) | (with_reducible refine bs ?_ (by first | exact Nat.le_refl _ | omega | (simp; omega)) _) | (with_reducible refine bt ?_ (by with_reducible assumption))))
  rintro W4 ⟨r4x0, r4x1, r4x2, r4x3, r4x4, r4x5, r4x6, r4x7, r4x8, rs4x0, rs4x1, rs4x2, rf4x0, rf4x1, rf4x2, hB4, hT4x0⟩
  refine wp_region_class (by kernel_rfl) (by kernel_rfl) (fun hall => ?_)
  repeat (first | go_big_quiet_skip | (go_big_quiet_want; first | (refine quiet_load1 _ _ _ rfl rfl ?_ ?_ ?_; (focus (intro _; simp; done)); (focus (first | assumption | omega | (simp; done) | (simp; omega))); apply Exists.intro; refine ⟨?_, ?_⟩; assumption; go_simp; go_big_quiet_on) | (refine quiet_load2 _ _ _ _ rfl rfl ?_ ?_ ?_ ?_; (focus (intro _; simp; done)); (focus (intro _; simp; done)); (focus (first | assumption | omega | (simp; done) | (simp; omega))); apply Exists.intro; apply Exists.intro; refine ⟨?_, ?_, ?_⟩; assumption; assumption; go_simp; go_big_quiet_on) | (refine quiet_load3 _ _ _ _ rfl rfl ?_ ?_ ?_ ?_; (focus (intro _; simp; done)); (focus (intro _; simp; done)); (focus (first | assumption | omega | (simp; done) | (simp; omega))); apply Exists.intro; apply Exists.intro; apply Exists.intro; refine ⟨?_, ?_, ?_, ?_⟩; assumption; assumption; assumption; go_simp; go_big_quiet_on) | (refine quiet_load4 _ _ _ _ rfl rfl ?_ ?_ ?_ ?_; (focus (intro _; simp; done)); (focus (intro _; simp; done)); (focus (first | assumption | omega | (simp; done) | (simp; omega))); apply Exists.intro; apply Exists.intro; apply Exists.intro; apply Exists.intro; refine ⟨?_, ?_, ?_, ?_, ?_⟩; assumption; assumption; assumption; assumption; go_simp; go_big_quiet_on) | (go_big_quiet_op; first | go_big_quiet_on | (apply Exists.intro; refine ⟨fun x hx => ?_, ?_⟩; (first | exact call_below hx (HC.out x (Tab.below hT4x0 hx))); go_big_quiet_on))))
  refine wpQuiet_nil ?_
  clear hall
  intro x5 hx5
  obtain ⟨hcr5, hfr5⟩ := bcell hx5
  have hzr5 := hx5.size
  try simp at hzr5
  have hsr5x0 : w1.heap.size < x5.heap.size := by omega
  have hsr5x1 : w3.heap.size < x5.heap.size := by omega
  have hsr5x2 : (w3.heap.size + 1) < x5.heap.size := by omega
  have gr5x0 : x5.cell? ⟨w1.heap.size, 0, none⟩ = some (.int .i64 ry) := (hcr5 _ _ (by first | omega | (simp; done) | (simp; omega))).trans (by first | (with_reducible assumption) | (simp [go_sem]; done) | (simp [go_sem, *]; done) | assumption)
  have gr5x1 : x5.cell? ⟨w1.heap.size, 1, none⟩ = some (.int .i64 rm) := (hcr5 _ _ (by first | omega | (simp; done) | (simp; omega))).trans (by first | (with_reducible assumption) | (simp [go_sem]; done) | (simp [go_sem, *]; done) | assumption)
  have gr5x2 : x5.cell? ⟨w1.heap.size, 2, none⟩ = some (.int .i64 rd) := (hcr5 _ _ (by first | omega | (simp; done) | (simp; omega))).trans (by first | (with_reducible assumption) | (simp [go_sem]; done) | (simp [go_sem, *]; done) | assumption)
  have gr5x3 : x5.cell? ⟨w3.heap.size, 0, none⟩ = some (.int .i64 ry) := (hcr5 _ _ (by first | omega | (simp; done) | (simp; omega))).trans (by first | (with_reducible assumption) | (simp [go_sem]; done) | (simp [go_sem, *]; done) | assumption)
  have gr5x4 : x5.cell? ⟨w3.heap.size, 1, none⟩ = some (.int .i64 rm) := (hcr5 _ _ (by first | omega | (simp; done) | (simp; omega))).trans (by first | (with_reducible assumption) | (simp [go_sem]; done) | (simp [go_sem, *]; done) | assumption)
  have gr5x5 : x5.cell? ⟨w3.heap.size, 2, none⟩ = some (.int .i64 (rd + 1)) := (hcr5 _ _ (by first | omega | (simp; done) | (simp; omega))).trans (by first | (with_reducible assumption) | (simp [go_sem]; done) | (simp [go_sem, *]; done) | assumption)
  have gr5x6 : x5.cell? ⟨(w3.heap.size + 1), 0, none⟩ = some (.int .i64 ry) := (hcr5 _ _ (by first | omega | (simp; done) | (simp; omega))).trans (by first | (with_reducible assumption) | (simp [go_sem]; done) | (simp [go_sem, *]; done) | assumption)
  have gr5x7 : x5.cell? ⟨(w3.heap.size + 1), 1, none⟩ = some (.int .i64 rm) := (hcr5 _ _ (by first | omega | (simp; done) | (simp; omega))).trans (by first | (with_reducible assumption) | (simp [go_sem]; done) | (simp [go_sem, *]; done) | assumption)
  have gr5x8 : x5.cell? ⟨(w3.heap.size + 1), 2, none⟩ = some (.int .i64 (rd + 1)) := (hcr5 _ _ (by first | omega | (simp; done) | (simp; omega))).trans (by first | (with_reducible assumption) | (simp [go_sem]; done) | (simp [go_sem, *]; done) | assumption)
  have hB5 := bt hB4 hx5
  go_wp2_with fail
  refine settleC (fun W => W.cell? ⟨w3.heap.size, 0, none⟩ = some (.int .i64 ry) ∧ W.cell? ⟨w3.heap.size, 1, none⟩ = some (.int .i64 rm) ∧ W.cell? ⟨w3.heap.size, 2, none⟩ = some (.int .i64 (rd + 1)) ∧ W.cell? ⟨(w3.heap.size + 1), 0, none⟩ = some (.int .i64 ry) ∧ W.cell? ⟨(w3.heap.size + 1), 1, none⟩ = some (.int .i64 rm) ∧ W.cell? ⟨(w3.heap.size + 1), 2, none⟩ = some (.int .i64 (rd + 1)) ∧ w3.heap.size < W.heap.size ∧ (w3.heap.size + 1) < W.heap.size ∧ Below w.heap.size w W ∧ Tab W 0 Gr.gregCells) ⟨?_, ?_, ?_, ?_, ?_, ?_, ?_, ?_, ?_, ?_⟩ ?_
  · (first | (with_reducible assumption) | (simp [go_sem, *]; done))
  · (first | (with_reducible assumption) | (simp [go_sem, *]; done))
  · (first | (with_reducible assumption) | (simp [go_sem, *]; done))
  · (first | (with_reducible assumption) | (simp [go_sem, *]; done))
  · (first | (with_reducible assumption) | (simp [go_sem, *]; done))
  · (first | (with_reducible assumption) | (simp [go_sem, *]; done))
  · (first | (with_reducible assumption) | (simp; done) | (simp; omega) | omega)
  · (first | (with_reducible assumption) | (simp; done) | (simp; omega) | omega)
  · (repeat (first | (with_reducible exact Below.refl _ _) | (with_reducible assumption) | (with_reducible refine bdrew ?_) | (with_reducible refine baa ?_ _) | (with_reducible refine bs ?_ (by first | exact Nat.le_refl _ | omega | (simp; omega)) _) | (with_reducible refine bt ?_ (by with_reducible assumption))))
  · (refine Tab.below hG ?_; repeat (first | (with_reducible exact Below.refl _ _) | (with_reducible assumption) | (with_reducible refine bdrew ?_) | (with_reducible refine baa ?_ _) | (with_reducible refine bs ?_ (by first | exact Nat.le_refl _ | omega | (simp; omega)) _) | (with_reducible refine bt ?_ (by with_reducible assumption))))
  rintro W6 ⟨r6x0, r6x1, r6x2, r6x3, r6x4, r6x5, rs6x0, rs6x1, hB6, hT6x0⟩
  clear hcr5 hfr5
  refine (awake11 _ hT6x0).mono ?_
  rintro e w8 ⟨rfl, hb8⟩
  obtain ⟨hc8, hf8⟩ := bcell hb8
  have g8x0 : w8.cell? ⟨w3.heap.size, 0, none⟩ = some (.int .i64 ry) := (hc8 _ _ (by omega)).trans r6x0
  have g8x1 : w8.cell? ⟨w3.heap.size, 1, none⟩ = some (.int .i64 rm) := (hc8 _ _ (by omega)).trans r6x1
  have g8x2 : w8.cell? ⟨w3.heap.size, 2, none⟩ = some (.int .i64 (rd + 1)) := (hc8 _ _ (by omega)).trans r6x2
  have g8x3 : w8.cell? ⟨(w3.heap.size + 1), 0, none⟩ = some (.int .i64 ry) := (hc8 _ _ (by omega)).trans r6x3
  have g8x4 : w8.cell? ⟨(w3.heap.size + 1), 1, none⟩ = some (.int .i64 rm) := (hc8 _ _ (by omega)).trans r6x4
  have g8x5 : w8.cell? ⟨(w3.heap.size + 1), 2, none⟩ = some (.int .i64 (rd + 1)) := (hc8 _ _ (by omega)).trans r6x5
  clear hc8 hf8
  go_wp2_with fail
  go_ret
  refine ⟨by first | rfl | simp [*], bt hB6 hb8⟩
set_option maxHeartbeats 4000000 in
theorem GregNext_b (D : Int) (w : World) (hG : Tab w 0 Gr.gregCells) (ry rm rd : Int) (hv : Gr.Valid ry rm rd) (hD : D = Gr.dayOf ry rm rd) (b1 : -1373427 ≤ D) (b2 : D ≤ 2278650) (c : D < 2278650) (hle : rd ≤ Gr.days ry rm) (c1 : rd = Gr.days ry rm) (c2 : rm < 12) :
    Calls Tryd.prog 5 #[.int .i64 D] w fun e w' => e = .returned (.bool true) ∧ Below w.heap.size w w' := by
  obtain ⟨hw, hE⟩ : Gr.Valid ry (rm + 1) 1 ∧ Gr.dayOf ry (rm + 1) 1 = Gr.dayOf ry rm rd + 1 := by
    rcases Gr.next_day hv with ⟨a, b⟩ | ⟨a, b, c'⟩ | ⟨a, b, c'⟩
    · omega
    · exact c'
    · omega
  have hyb := Gr.year_in hv (by omega) (by omega)
  have hmb := hv.1
  have hmb2 := hv.2.1
  have hdb := hv.2.2.1
  have hdb2 : Gr.days ry rm ≤ 31 := by
    obtain ⟨x, e1, e2, e3, e4⟩ := Gr.ml_at ry (rm - 1).toNat (by omega)
    rw [show (((rm - 1).toNat : Nat) : Int) + 1 = rm by omega] at e2
    omega
  have hne : (D == 2278650) = false := by simp; omega
  subst hD
  have HF2 := Lib.hid (fun w hG => greg_FromDay_v ry (rm + 1) 1 w hG hw (by omega) (by omega))
  rw [hE] at HF2
  have HF1 := Lib.hid (fun w hG => greg_FromDay_v ry rm rd w hG hv b1 b2)
  have HLa := Lib.hid (fun w => ref6_Last w)
  have HC := Lib.hid (fun w hG => greg_Days ry rm w hG ⟨by omega, by omega⟩)
  clear hw hE hv
  generalize Gr.dayOf ry rm rd = D at *
  generalize Gr.days ry rm = M at *
  subst c1
  have hq : (rm == 12) = false := by simp; omega
  go_enter Tryd.func5, Tryd.ntmps5
  go_wp2_with fail
  refine (HF1.out _ (Tab.below hG (by repeat (first | (with_reducible exact Below.refl _ _) | (with_reducible assumption) | (with_reducible refine bdrew ?_) | (with_reducible refine baa ?_ _) | (with_reducible refine bs ?_ (by first | exact Nat.le_refl _ | omega | (simp; omega)) _) | (with_reducible refine bt ?_ (by with_reducible assumption)))))).mono ?_
  rintro e w1 ⟨rfl, hb1⟩
  obtain ⟨hc1, hf1⟩ := bcell hb1
  have hz1 := hb1.size
  try simp at hz1
  go_wp2_with fail
  refine (HLa.out _).mono ?_
  rintro e w2 ⟨rfl, hb2⟩
  obtain ⟨hc2, hf2⟩ := bcell hb2
  have hz2 := hb2.size
  try simp at hz2
  have hl2w1 : w1.heap.size < w2.heap.size := by omega
  have hm2w1 : w1.heap.size ≤ w2.heap.size := by omega
  have g2x0 : w2.cell? ⟨w1.heap.size, 0, none⟩ = some (.int .i64 ry) := (hc2 _ _ (by first | omega | (simp; done) | (simp; omega))).trans (by first | (with_reducible assumption) | (simp [go_sem]; done) | (simp [go_sem, *]; done) | assumption)
  have g2x1 : w2.cell? ⟨w1.heap.size, 1, none⟩ = some (.int .i64 rm) := (hc2 _ _ (by first | omega | (simp; done) | (simp; omega))).trans (by first | (with_reducible assumption) | (simp [go_sem]; done) | (simp [go_sem, *]; done) | assumption)
  have g2x2 : w2.cell? ⟨w1.heap.size, 2, none⟩ = some (.int .i64 rd) := (hc2 _ _ (by first | omega | (simp; done) | (simp; omega))).trans (by first | (with_reducible assumption) | (simp [go_sem]; done) | (simp [go_sem, *]; done) | assumption)
  go_wp2_with fail
  refine (HF2.out _ (Tab.below hG (by repeat (first | (with_reducible exact Below.refl _ _) | (with_reducible assumption) | (with_reducible refine bdrew ?_) | (with_reducible refine baa ?_ _) | (with_reducible refine bs ?_ (by first | exact Nat.le_refl _ | omega | (simp; omega)) _) | (with_reducible refine bt ?_ (by with_reducible assumption)))))).mono ?_
  rintro e w3 ⟨rfl, hb3⟩
  obtain ⟨hc3, hf3⟩ := bcell hb3
  have hz3 := hb3.size
  try simp at hz3
  have hl3w1 : w1.heap.size < w3.heap.size := by omega
  have hm3w1 : w1.heap.size ≤ w3.heap.size := by omega
  have g3x0 : w3.cell? ⟨w1.heap.size, 0, none⟩ = some (.int .i64 ry) := (hc3 _ _ (by first | omega | (simp; done) | (simp; omega))).trans (by first | (with_reducible assumption) | (simp [go_sem]; done) | (simp [go_sem, *]; done) | assumption)
  have g3x1 : w3.cell? ⟨w1.heap.size, 1, none⟩ = some (.int .i64 rm) := (hc3 _ _ (by first | omega | (simp; done) | (simp; omega))).trans (by first | (with_reducible assumption) | (simp [go_sem]; done) | (simp [go_sem, *]; done) | assumption)
  have g3x2 : w3.cell? ⟨w1.heap.size, 2, none⟩ = some (.int .i64 rd) := (hc3 _ _ (by first | omega | (simp; done) | (simp; omega))).trans (by first | (with_reducible assumption) | (simp [go_sem]; done) | (simp [go_sem, *]; done) | assumption)
  go_wp2_with fail
  refine settle (fun W => W.cell? ⟨w1.heap.size, 0, none⟩ = some (.int .i64 ry) ∧ W.cell? ⟨w1.heap.size, 1, none⟩ = some (.int .i64 rm) ∧ W.cell? ⟨w1.heap.size, 2, none⟩ = some (.int .i64 rd) ∧ W.cell? ⟨w3.heap.size, 0, none⟩ = some (.int .i64 ry) ∧ W.cell? ⟨w3.heap.size, 1, none⟩ = some (.int .i64 (rm + 1)) ∧ W.cell? ⟨w3.heap.size, 2, none⟩ = some (.int .i64 1) ∧ W.cell? ⟨(w3.heap.size + 1), 0, none⟩ = some (.int .i64 ry) ∧ W.cell? ⟨(w3.heap.size + 1), 1, none⟩ = some (.int .i64 rm) ∧ W.cell? ⟨(w3.heap.size + 1), 2, none⟩ = some (.int .i64 (rd + 1)) ∧ w1.heap.size < W.heap.size ∧ w3.heap.size < W.heap.size ∧ (w3.heap.size + 1) < W.heap.size ∧ W.frozen? ⟨(w3.heap.size + 1), 0, none⟩ = false ∧ W.frozen? ⟨(w3.heap.size + 1), 1, none⟩ = false ∧ W.frozen? ⟨(w3.heap.size + 1), 2, none⟩ = false ∧ Below w.heap.size w W ∧ Tab W 0 Gr.gregCells) ⟨?_, ?_, ?_, ?_, ?_, ?_, ?_, ?_, ?_, ?_, ?_, ?_, ?_, ?_, ?_, ?_, ?_⟩ ?_
  · (first | (with_reducible assumption) | (simp [go_sem, *]; done) | assumption)
  · (first | (with_reducible assumption) | (simp [go_sem, *]; done) | assumption)
  · (first | (with_reducible assumption) | (simp [go_sem, *]; done) | assumption)
  · (first | (with_reducible assumption) | (simp [go_sem, *]; done) | assumption)
  · (first | (with_reducible assumption) | (simp [go_sem, *]; done) | assumption)
  · (first | (with_reducible assumption) | (simp [go_sem, *]; done) | assumption)
  · (first | (with_reducible assumption) | (simp [go_sem, *]; done) | assumption)
  · (first | (with_reducible assumption) | (simp [go_sem, *]; done) | assumption)
  · (first | (with_reducible assumption) | (simp [go_sem, *]; done) | assumption)
  · (first | assumption | (simp; done) | (simp; omega) | omega)
  · (first | assumption | (simp; done) | (simp; omega) | omega)
  · (first | assumption | (simp; done) | (simp; omega) | omega)
  · (first | (with_reducible assumption) | (simp [go_sem, *]; done) | assumption)
  · (first | (with_reducible assumption) | (simp [go_sem, *]; done) | assumption)
  · (first | (with_reducible assumption) | (simp [go_sem, *]; done) | assumption)
  · (repeat (first | (with_reducible exact Below.refl _ _) | (with_reducible assumption) | (with_reducible refine bdrew ?_) | (with_reducible refine baa ?_ _) | (with_reducible refine bs ?_ (by first | exact Nat.le_refl _ | omega | (simp; omega)) _) | (with_reducible refine bt ?_ (by with_reducible assumption))))
  · (refine Tab.below hG ?_; repeat (first | (with_reducible exact Below.refl _ _) | (with_reducible assumption) | (with_reducible refine bdrew ?_) | (with_reducible refine baa ?_ _) | (with_reducible refine bs ?_ (by first | exact Nat.le_refl _ | omega | (simp; omega)) _) | (with_reducible refine bt ?_ (by with_reducible assumption))))
  rintro W4 ⟨r4x0, r4x1, r4x2, r4x3, r4x4, r4x5, r4x6, r4x7, r4x8, rs4x0, rs4x1, rs4x2, rf4x0, rf4x1, rf4x2, hB4, hT4x0⟩
  refine wp_region_class (by kernel_rfl) (by kernel_rfl) (fun hall => ?_)
  repeat (first | go_big_quiet_skip | (go_big_quiet_want; first | (refine quiet_load1 _ _ _ rfl rfl ?_ ?_ ?_; (focus (intro _; simp; done)); (focus (first | assumption | omega | (simp; done) | (simp; omega))); apply Exists.intro; refine ⟨?_, ?_⟩; assumption; go_simp; go_big_quiet_on) | (refine quiet_load2 _ _ _ _ rfl rfl ?_ ?_ ?_ ?_; (focus (intro _; simp; done)); (focus (intro _; simp; done)); (focus (first | assumption | omega | (simp; done) | (simp; omega))); apply Exists.intro; apply Exists.intro; refine ⟨?_, ?_, ?_⟩; assumption; assumption; go_simp; go_big_quiet_on) | (refine quiet_load3 _ _ _ _ rfl rfl ?_ ?_ ?_ ?_; (focus (intro _; simp; done)); (focus (intro _; simp; done)); (focus (first | assumption | omega | (simp; done) | (simp; omega))); apply Exists.intro; apply Exists.intro; apply Exists.intro; refine ⟨?_, ?_, ?_, ?_⟩; assumption; assumption; assumption; go_simp; go_big_quiet_on) | (refine quiet_load4 _ _ _ _ rfl rfl ?_ ?_ ?_ ?_; (focus (intro _; simp; done)); (focus (intro _; simp; done)); (focus (first | assumption | omega | (simp; done) | (simp; omega))); apply Exists.intro; apply Exists.intro; apply Exists.intro; apply Exists.intro; refine ⟨?_, ?_, ?_, ?_, ?_⟩; assumption; assumption; assumption; assumption; go_simp; go_big_quiet_on) | (go_big_quiet_op; first | go_big_quiet_on | (apply Exists.intro; refine ⟨fun x hx => ?_, ?_⟩; (first | exact call_below hx (HC.out x (Tab.below hT4x0 hx))); go_big_quiet_on))))
  refine wpQuiet_nil ?_
  clear hall
  intro x5 hx5
  obtain ⟨hcr5, hfr5⟩ := bcell hx5
  have hzr5 := hx5.size
  try simp at hzr5
  have hsr5x0 : w1.heap.size < x5.heap.size := by omega
  have hsr5x1 : w3.heap.size < x5.heap.size := by omega
  have hsr5x2 : (w3.heap.size + 1) < x5.heap.size := by omega
  have gr5x0 : x5.cell? ⟨w1.heap.size, 0, none⟩ = some (.int .i64 ry) := (hcr5 _ _ (by first | omega | (simp; done) | (simp; omega))).trans (by first | (with_reducible assumption) | (simp [go_sem]; done) | (simp [go_sem, *]; done) | assumption)
  have gr5x1 : x5.cell? ⟨w1.heap.size, 1, none⟩ = some (.int .i64 rm) := (hcr5 _ _ (by first | omega | (simp; done) | (simp; omega))).trans (by first | (with_reducible assumption) | (simp [go_sem]; done) | (simp [go_sem, *]; done) | assumption)
  have gr5x2 : x5.cell? ⟨w1.heap.size, 2, none⟩ = some (.int .i64 rd) := (hcr5 _ _ (by first | omega | (simp; done) | (simp; omega))).trans (by first | (with_reducible assumption) | (simp [go_sem]; done) | (simp [go_sem, *]; done) | assumption)
  have gr5x3 : x5.cell? ⟨w3.heap.size, 0, none⟩ = some (.int .i64 ry) := (hcr5 _ _ (by first | omega | (simp; done) | (simp; omega))).trans (by first | (with_reducible assumption) | (simp [go_sem]; done) | (simp [go_sem, *]; done) | assumption)
  have gr5x4 : x5.cell? ⟨w3.heap.size, 1, none⟩ = some (.int .i64 (rm + 1)) := (hcr5 _ _ (by first | omega | (simp; done) | (simp; omega))).trans (by first | (with_reducible assumption) | (simp [go_sem]; done) | (simp [go_sem, *]; done) | assumption)
  have gr5x5 : x5.cell? ⟨w3.heap.size, 2, none⟩ = some (.int .i64 1) := (hcr5 _ _ (by first | omega | (simp; done) | (simp; omega))).trans (by first | (with_reducible assumption) | (simp [go_sem]; done) | (simp [go_sem, *]; done) | assumption)
  have gr5x6 : x5.cell? ⟨(w3.heap.size + 1), 0, none⟩ = some (.int .i64 ry) := (hcr5 _ _ (by first | omega | (simp; done) | (simp; omega))).trans (by first | (with_reducible assumption) | (simp [go_sem]; done) | (simp [go_sem, *]; done) | assumption)
  have gr5x7 : x5.cell? ⟨(w3.heap.size + 1), 1, none⟩ = some (.int .i64 rm) := (hcr5 _ _ (by first | omega | (simp; done) | (simp; omega))).trans (by first | (with_reducible assumption) | (simp [go_sem]; done) | (simp [go_sem, *]; done) | assumption)
  have gr5x8 : x5.cell? ⟨(w3.heap.size + 1), 2, none⟩ = some (.int .i64 (rd + 1)) := (hcr5 _ _ (by first | omega | (simp; done) | (simp; omega))).trans (by first | (with_reducible assumption) | (simp [go_sem]; done) | (simp [go_sem, *]; done) | assumption)
  have hB5 := bt hB4 hx5
  go_wp2_with fail
  refine settleC (fun W => W.cell? ⟨w3.heap.size, 0, none⟩ = some (.int .i64 ry) ∧ W.cell? ⟨w3.heap.size, 1, none⟩ = some (.int .i64 (rm + 1)) ∧ W.cell? ⟨w3.heap.size, 2, none⟩ = some (.int .i64 1) ∧ W.cell? ⟨(w3.heap.size + 1), 0, none⟩ = some (.int .i64 ry) ∧ W.cell? ⟨(w3.heap.size + 1), 1, none⟩ = some (.int .i64 (rm + 1)) ∧ W.cell? ⟨(w3.heap.size + 1), 2, none⟩ = some (.int .i64 1) ∧ w3.heap.size < W.heap.size ∧ (w3.heap.size + 1) < W.heap.size ∧ Below w.heap.size w W ∧ Tab W 0 Gr.gregCells) ⟨?_, ?_, ?_, ?_, ?_, ?_, ?_, ?_, ?_, ?_⟩ ?_
  · exact ((set3 gr5x6 gr5x7 gr5x8 _ _ _).2.2.2 _ _ (by omega)).trans gr5x3
  · exact ((set3 gr5x6 gr5x7 gr5x8 _ _ _).2.2.2 _ _ (by omega)).trans gr5x4
  · exact ((set3 gr5x6 gr5x7 gr5x8 _ _ _).2.2.2 _ _ (by omega)).trans gr5x5
  · exact (set3 gr5x6 gr5x7 gr5x8 _ _ _).1
  · exact (set3 gr5x6 gr5x7 gr5x8 _ _ _).2.1
  · exact (set3 gr5x6 gr5x7 gr5x8 _ _ _).2.2.1
  · (first | (with_reducible assumption) | (simp; done) | (simp; omega) | omega)
  · (first | (with_reducible assumption) | (simp; done) | (simp; omega) | omega)
  · (repeat (first | (with_reducible exact Below.refl _ _) | (with_reducible assumption) | (with_reducible refine bdrew ?_) | (with_reducible refine baa ?_ _) | (with_reducible refine bs ?_ (by first | exact Nat.le_refl _ | omega | (simp; omega)) _) | (with_reducible refine bt ?_ (by with_reducible assumption))))
  · (refine Tab.below hG ?_; repeat (first | (with_reducible exact Below.refl _ _) | (with_reducible assumption) | (with_reducible refine bdrew ?_) | (with_reducible refine baa ?_ _) | (with_reducible refine bs ?_ (by first | exact Nat.le_refl _ | omega | (simp; omega)) _) | (with_reducible refine bt ?_ (by with_reducible assumption))))
  rintro W6 ⟨r6x0, r6x1, r6x2, r6x3, r6x4, r6x5, rs6x0, rs6x1, hB6, hT6x0⟩
  clear hcr5 hfr5
  refine (awake11 _ hT6x0).mono ?_
  rintro e w8 ⟨rfl, hb8⟩
  obtain ⟨hc8, hf8⟩ := bcell hb8
  have g8x0 : w8.cell? ⟨w3.heap.size, 0, none⟩ = some (.int .i64 ry) := (hc8 _ _ (by omega)).trans r6x0
  have g8x1 : w8.cell? ⟨w3.heap.size, 1, none⟩ = some (.int .i64 (rm + 1)) := (hc8 _ _ (by omega)).trans r6x1
  have g8x2 : w8.cell? ⟨w3.heap.size, 2, none⟩ = some (.int .i64 1) := (hc8 _ _ (by omega)).trans r6x2
  have g8x3 : w8.cell? ⟨(w3.heap.size + 1), 0, none⟩ = some (.int .i64 ry) := (hc8 _ _ (by omega)).trans r6x3
  have g8x4 : w8.cell? ⟨(w3.heap.size + 1), 1, none⟩ = some (.int .i64 (rm + 1)) := (hc8 _ _ (by omega)).trans r6x4
  have g8x5 : w8.cell? ⟨(w3.heap.size + 1), 2, none⟩ = some (.int .i64 1) := (hc8 _ _ (by omega)).trans r6x5
  clear hc8 hf8
  go_wp2_with fail
  go_ret
  refine ⟨by first | rfl | simp [*], bt hB6 hb8⟩
set_option maxHeartbeats 4000000 in
theorem GregNext_c (D : Int) (w : World) (hG : Tab w 0 Gr.gregCells) (ry rm rd : Int) (hv : Gr.Valid ry rm rd) (hD : D = Gr.dayOf ry rm rd) (b1 : -1373427 ≤ D) (b2 : D ≤ 2278650) (c : D < 2278650) (hle : rd ≤ Gr.days ry rm) (c1 : rd = Gr.days ry rm) (c2 : rm = 12) :
    Calls Tryd.prog 5 #[.int .i64 D] w fun e w' => e = .returned (.bool true) ∧ Below w.heap.size w w' := by
  obtain ⟨hw, hE⟩ : Gr.Valid (ry + 1) 1 1 ∧ Gr.dayOf (ry + 1) 1 1 = Gr.dayOf ry rm rd + 1 := by
    rcases Gr.next_day hv with ⟨a, b⟩ | ⟨a, b, c'⟩ | ⟨a, b, c'⟩
    · omega
    · omega
    · exact c'
  have hyb := Gr.year_in hv (by omega) (by omega)
  have hmb := hv.1
  have hmb2 := hv.2.1
  have hdb := hv.2.2.1
  have hdb2 : Gr.days ry rm ≤ 31 := by
    obtain ⟨x, e1, e2, e3, e4⟩ := Gr.ml_at ry (rm - 1).toNat (by omega)
    rw [show (((rm - 1).toNat : Nat) : Int) + 1 = rm by omega] at e2
    omega
  have hne : (D == 2278650) = false := by simp; omega
  subst hD
  have HF2 := Lib.hid (fun w hG => greg_FromDay_v (ry + 1) 1 1 w hG hw (by omega) (by omega))
  rw [hE] at HF2
  have HF1 := Lib.hid (fun w hG => greg_FromDay_v ry rm rd w hG hv b1 b2)
  have HLa := Lib.hid (fun w => ref6_Last w)
  have HC := Lib.hid (fun w hG => greg_Days ry rm w hG ⟨by omega, by omega⟩)
  clear hw hE hv
  generalize Gr.dayOf ry rm rd = D at *
  subst c2
  generalize Gr.days ry 12 = M at *
  subst c1
  go_enter Tryd.func5, Tryd.ntmps5
  go_wp2_with fail
  refine (HF1.out _ (Tab.below hG (by repeat (first | (with_reducible exact Below.refl _ _) | (with_reducible assumption) | (with_reducible refine bdrew ?_) | (with_reducible refine baa ?_ _) | (with_reducible refine bs ?_ (by first | exact Nat.le_refl _ | omega | (simp; omega)) _) | (with_reducible refine bt ?_ (by with_reducible assumption)))))).mono ?_
  rintro e w1 ⟨rfl, hb1⟩
  obtain ⟨hc1, hf1⟩ := bcell hb1
  have hz1 := hb1.size
  try simp at hz1
  go_wp2_with fail
  refine (HLa.out _).mono ?_
  rintro e w2 ⟨rfl, hb2⟩
  obtain ⟨hc2, hf2⟩ := bcell hb2
  have hz2 := hb2.size
  try simp at hz2
  have hl2w1 : w1.heap.size < w2.heap.size := by omega
  have hm2w1 : w1.heap.size ≤ w2.heap.size := by omega
  have g2x0 : w2.cell? ⟨w1.heap.size, 0, none⟩ = some (.int .i64 ry) := (hc2 _ _ (by first | omega | (simp; done) | (simp; omega))).trans (by first | (with_reducible assumption) | (simp [go_sem]; done) | (simp [go_sem, *]; done) | assumption)
  have g2x1 : w2.cell? ⟨w1.heap.size, 1, none⟩ = some (.int .i64 12) := (hc2 _ _ (by first | omega | (simp; done) | (simp; omega))).trans (by first | (with_reducible assumption) | (simp [go_sem]; done) | (simp [go_sem, *]; done) | assumption)
  have g2x2 : w2.cell? ⟨w1.heap.size, 2, none⟩ = some (.int .i64 rd) := (hc2 _ _ (by first | omega | (simp; done) | (simp; omega))).trans (by first | (with_reducible assumption) | (simp [go_sem]; done) | (simp [go_sem, *]; done) | assumption)
  go_wp2_with fail
  refine (HF2.out _ (Tab.below hG (by repeat (first | (with_reducible exact Below.refl _ _) | (with_reducible assumption) | (with_reducible refine bdrew ?_) | (with_reducible refine baa ?_ _) | (with_reducible refine bs ?_ (by first | exact Nat.le_refl _ | omega | (simp; omega)) _) | (with_reducible refine bt ?_ (by with_reducible assumption)))))).mono ?_
  rintro e w3 ⟨rfl, hb3⟩
  obtain ⟨hc3, hf3⟩ := bcell hb3
  have hz3 := hb3.size
  try simp at hz3
  have hl3w1 : w1.heap.size < w3.heap.size := by omega
  have hm3w1 : w1.heap.size ≤ w3.heap.size := by omega
  have g3x0 : w3.cell? ⟨w1.heap.size, 0, none⟩ = some (.int .i64 ry) := (hc3 _ _ (by first | omega | (simp; done) | (simp; omega))).trans (by first | (with_reducible assumption) | (simp [go_sem]; done) | (simp [go_sem, *]; done) | assumption)
  have g3x1 : w3.cell? ⟨w1.heap.size, 1, none⟩ = some (.int .i64 12) := (hc3 _ _ (by first | omega | (simp; done) | (simp; omega))).trans (by first | (with_reducible assumption) | (simp [go_sem]; done) | (simp [go_sem, *]; done) | assumption)
  have g3x2 : w3.cell? ⟨w1.heap.size, 2, none⟩ = some (.int .i64 rd) := (hc3 _ _ (by first | omega | (simp; done) | (simp; omega))).trans (by first | (with_reducible assumption) | (simp [go_sem]; done) | (simp [go_sem, *]; done) | assumption)
  go_wp2_with fail
  refine settle (fun W => W.cell? ⟨w1.heap.size, 0, none⟩ = some (.int .i64 ry) ∧ W.cell? ⟨w1.heap.size, 1, none⟩ = some (.int .i64 12) ∧ W.cell? ⟨w1.heap.size, 2, none⟩ = some (.int .i64 rd) ∧ W.cell? ⟨w3.heap.size, 0, none⟩ = some (.int .i64 (ry + 1)) ∧ W.cell? ⟨w3.heap.size, 1, none⟩ = some (.int .i64 1) ∧ W.cell? ⟨w3.heap.size, 2, none⟩ = some (.int .i64 1) ∧ W.cell? ⟨(w3.heap.size + 1), 0, none⟩ = some (.int .i64 ry) ∧ W.cell? ⟨(w3.heap.size + 1), 1, none⟩ = some (.int .i64 12) ∧ W.cell? ⟨(w3.heap.size + 1), 2, none⟩ = some (.int .i64 (rd + 1)) ∧ w1.heap.size < W.heap.size ∧ w3.heap.size < W.heap.size ∧ (w3.heap.size + 1) < W.heap.size ∧ W.frozen? ⟨(w3.heap.size + 1), 0, none⟩ = false ∧ W.frozen? ⟨(w3.heap.size + 1), 1, none⟩ = false ∧ W.frozen? ⟨(w3.heap.size + 1), 2, none⟩ = false ∧ Below w.heap.size w W ∧ Tab W 0 Gr.gregCells) ⟨?_, ?_, ?_, ?_, ?_, ?_, ?_, ?_, ?_, ?_, ?_, ?_, ?_, ?_, ?_, ?_, ?_⟩ ?_
  · (first | (with_reducible assumption) | (simp [go_sem, *]; done) | assumption)
  · (first | (with_reducible assumption) | (simp [go_sem, *]; done) | assumption)
  · (first | (with_reducible assumption) | (simp [go_sem, *]; done) | assumption)
  · (first | (with_reducible assumption) | (simp [go_sem, *]; done) | assumption)
  · (first | (with_reducible assumption) | (simp [go_sem, *]; done) | assumption)
  · (first | (with_reducible assumption) | (simp [go_sem, *]; done) | assumption)
  · (first | (with_reducible assumption) | (simp [go_sem, *]; done) | assumption)
  · (first | (with_reducible assumption) | (simp [go_sem, *]; done) | assumption)
  · (first | (with_reducible assumption) | (simp [go_sem, *]; done) | assumption)
  · (first | assumption | (simp; done) | (simp; omega) | omega)
  · (first | assumption | (simp; done) | (simp; omega) | omega)
  · (first | assumption | (simp; done) | (simp; omega) | omega)
  · (first | (with_reducible assumption) | (simp [go_sem, *]; done) | assumption)
  · (first | (with_reducible assumption) | (simp [go_sem, *]; done) | assumption)
  · (first | (with_reducible assumption) | (simp [go_sem, *]; done) | assumption)
  · (repeat (first | (with_reducible exact Below.refl _ _) | (with_reducible assumption) | (with_reducible refine bdrew ?_) | (with_reducible refine baa ?_ _) | (with_reducible refine bs ?_ (by first | exact Nat.le_refl _ | omega | (simp; omega)) _) | (with_reducible refine bt ?_ (by with_reducible assumption))))
  · (refine Tab.below hG ?_; repeat (first | (with_reducible exact Below.refl _ _) | (with_reducible assumption) | (with_reducible refine bdrew ?_) | (with_reducible refine baa ?_ _) | (with_reducible refine bs ?_ (by first | exact Nat.le_refl _ | omega | (simp; omega)) _) | (with_reducible refine bt ?_ (by with_reducible assumption))))
  rintro W4 ⟨r4x0, r4x1, r4x2, r4x3, r4x4, r4x5, r4x6, r4x7, r4x8, rs4x0, rs4x1, rs4x2, rf4x0, rf4x1, rf4x2, hB4, hT4x0⟩
  refine wp_region_class (by kernel_rfl) (by kernel_rfl) (fun hall => ?_)
  repeat (first | go_big_quiet_skip | (go_big_quiet_want; first | (refine quiet_load1 _ _ _ rfl rfl ?_ ?_ ?_; (focus (intro _; simp; done)); (focus (first | assumption | omega | (simp; done) | (simp; omega))); apply Exists.intro; refine ⟨?_, ?_⟩; assumption; go_simp; go_big_quiet_on) | (refine quiet_load2 _ _ _ _ rfl rfl ?_ ?_ ?_ ?_; (focus (intro _; simp; done)); (focus (intro _; simp; done)); (focus (first | assumption | omega | (simp; done) | (simp; omega))); apply Exists.intro; apply Exists.intro; refine ⟨?_, ?_, ?_⟩; assumption; assumption; go_simp; go_big_quiet_on) | (refine quiet_load3 _ _ _ _ rfl rfl ?_ ?_ ?_ ?_; (focus (intro _; simp; done)); (focus (intro _; simp; done)); (focus (first | assumption | omega | (simp; done) | (simp; omega))); apply Exists.intro; apply Exists.intro; apply Exists.intro; refine ⟨?_, ?_, ?_, ?_⟩; assumption; assumption; assumption; go_simp; go_big_quiet_on) | (refine quiet_load4 _ _ _ _ rfl rfl ?_ ?_ ?_ ?_; (focus (intro _; simp; done)); (focus (intro _; simp; done)); (focus (first | assumption | omega | (simp; done) | (simp; omega))); apply Exists.intro; apply Exists.intro; apply Exists.intro; apply Exists.intro; refine ⟨?_, ?_, ?_, ?_, ?_⟩; assumption; assumption; assumption; assumption; go_simp; go_big_quiet_on) | (go_big_quiet_op; first | go_big_quiet_on | (apply Exists.intro; refine ⟨fun x hx => ?_, ?_⟩; (first | exact call_below hx (HC.out x (Tab.below hT4x0 hx))); go_big_quiet_on))))
  refine wpQuiet_nil ?_
  clear hall
  intro x5 hx5
  obtain ⟨hcr5, hfr5⟩ := bcell hx5
  have hzr5 := hx5.size
  try simp at hzr5
  have hsr5x0 : w1.heap.size < x5.heap.size := by omega
  have hsr5x1 : w3.heap.size < x5.heap.size := by omega
  have hsr5x2 : (w3.heap.size + 1) < x5.heap.size := by omega
  have gr5x0 : x5.cell? ⟨w1.heap.size, 0, none⟩ = some (.int .i64 ry) := (hcr5 _ _ (by first | omega | (simp; done) | (simp; omega))).trans (by first | (with_reducible assumption) | (simp [go_sem]; done) | (simp [go_sem, *]; done) | assumption)
  have gr5x1 : x5.cell? ⟨w1.heap.size, 1, none⟩ = some (.int .i64 12) := (hcr5 _ _ (by first | omega | (simp; done) | (simp; omega))).trans (by first | (with_reducible assumption) | (simp [go_sem]; done) | (simp [go_sem, *]; done) | assumption)
  have gr5x2 : x5.cell? ⟨w1.heap.size, 2, none⟩ = some (.int .i64 rd) := (hcr5 _ _ (by first | omega | (simp; done) | (simp; omega))).trans (by first | (with_reducible assumption) | (simp [go_sem]; done) | (simp [go_sem, *]; done) | assumption)
  have gr5x3 : x5.cell? ⟨w3.heap.size, 0, none⟩ = some (.int .i64 (ry + 1)) := (hcr5 _ _ (by first | omega | (simp; done) | (simp; omega))).trans (by first | (with_reducible assumption) | (simp [go_sem]; done) | (simp [go_sem, *]; done) | assumption)
  have gr5x4 : x5.cell? ⟨w3.heap.size, 1, none⟩ = some (.int .i64 1) := (hcr5 _ _ (by first | omega | (simp; done) | (simp; omega))).trans (by first | (with_reducible assumption) | (simp [go_sem]; done) | (simp [go_sem, *]; done) | assumption)
  have gr5x5 : x5.cell? ⟨w3.heap.size, 2, none⟩ = some (.int .i64 1) := (hcr5 _ _ (by first | omega | (simp; done) | (simp; omega))).trans (by first | (with_reducible assumption) | (simp [go_sem]; done) | (simp [go_sem, *]; done) | assumption)
  have gr5x6 : x5.cell? ⟨(w3.heap.size + 1), 0, none⟩ = some (.int .i64 ry) := (hcr5 _ _ (by first | omega | (simp; done) | (simp; omega))).trans (by first | (with_reducible assumption) | (simp [go_sem]; done) | (simp [go_sem, *]; done) | assumption)
  have gr5x7 : x5.cell? ⟨(w3.heap.size + 1), 1, none⟩ = some (.int .i64 12) := (hcr5 _ _ (by first | omega | (simp; done) | (simp; omega))).trans (by first | (with_reducible assumption) | (simp [go_sem]; done) | (simp [go_sem, *]; done) | assumption)
  have gr5x8 : x5.cell? ⟨(w3.heap.size + 1), 2, none⟩ = some (.int .i64 (rd + 1)) := (hcr5 _ _ (by first | omega | (simp; done) | (simp; omega))).trans (by first | (with_reducible assumption) | (simp [go_sem]; done) | (simp [go_sem, *]; done) | assumption)
  have hB5 := bt hB4 hx5
  go_upto_region 8 with (fail)
  refine settle (fun W => W.cell? ⟨w1.heap.size, 0, none⟩ = some (.int .i64 ry) ∧ W.cell? ⟨w1.heap.size, 1, none⟩ = some (.int .i64 12) ∧ W.cell? ⟨w1.heap.size, 2, none⟩ = some (.int .i64 rd) ∧ W.cell? ⟨w3.heap.size, 0, none⟩ = some (.int .i64 (ry + 1)) ∧ W.cell? ⟨w3.heap.size, 1, none⟩ = some (.int .i64 1) ∧ W.cell? ⟨w3.heap.size, 2, none⟩ = some (.int .i64 1) ∧ W.cell? ⟨(w3.heap.size + 1), 0, none⟩ = some (.int .i64 ry) ∧ W.cell? ⟨(w3.heap.size + 1), 1, none⟩ = some (.int .i64 13) ∧ W.cell? ⟨(w3.heap.size + 1), 2, none⟩ = some (.int .i64 1) ∧ w1.heap.size < W.heap.size ∧ w3.heap.size < W.heap.size ∧ (w3.heap.size + 1) < W.heap.size ∧ W.frozen? ⟨(w3.heap.size + 1), 0, none⟩ = false ∧ W.frozen? ⟨(w3.heap.size + 1), 1, none⟩ = false ∧ W.frozen? ⟨(w3.heap.size + 1), 2, none⟩ = false ∧ Below w.heap.size w W ∧ Tab W 0 Gr.gregCells) ⟨?_, ?_, ?_, ?_, ?_, ?_, ?_, ?_, ?_, ?_, ?_, ?_, ?_, ?_, ?_, ?_, ?_⟩ ?_
  · exact ((set3 gr5x6 gr5x7 gr5x8 _ _ _).2.2.2 _ _ (by omega)).trans gr5x0
  · exact ((set3 gr5x6 gr5x7 gr5x8 _ _ _).2.2.2 _ _ (by omega)).trans gr5x1
  · exact ((set3 gr5x6 gr5x7 gr5x8 _ _ _).2.2.2 _ _ (by omega)).trans gr5x2
  · exact ((set3 gr5x6 gr5x7 gr5x8 _ _ _).2.2.2 _ _ (by omega)).trans gr5x3
  · exact ((set3 gr5x6 gr5x7 gr5x8 _ _ _).2.2.2 _ _ (by omega)).trans gr5x4
  · exact ((set3 gr5x6 gr5x7 gr5x8 _ _ _).2.2.2 _ _ (by omega)).trans gr5x5
  · exact (set3 gr5x6 gr5x7 gr5x8 _ _ _).1
  · exact (set3 gr5x6 gr5x7 gr5x8 _ _ _).2.1
  · exact (set3 gr5x6 gr5x7 gr5x8 _ _ _).2.2.1
  · (first | (with_reducible assumption) | (simp; done) | (simp; omega) | omega)
  · (first | (with_reducible assumption) | (simp; done) | (simp; omega) | omega)
  · (first | (with_reducible assumption) | (simp; done) | (simp; omega) | omega)
  · (first | (with_reducible assumption) | (simp [go_sem, *]; done))
  · (first | (with_reducible assumption) | (simp [go_sem, *]; done))
  · (first | (with_reducible assumption) | (simp [go_sem, *]; done))
  · (repeat (first | (with_reducible exact Below.refl _ _) | (with_reducible assumption) | (with_reducible refine bdrew ?_) | (with_reducible refine baa ?_ _) | (with_reducible refine bs ?_ (by first | exact Nat.le_refl _ | omega | (simp; omega)) _) | (with_reducible refine bt ?_ (by with_reducible assumption))))
  · (refine Tab.below hG ?_; repeat (first | (with_reducible exact Below.refl _ _) | (with_reducible assumption) | (with_reducible refine bdrew ?_) | (with_reducible refine baa ?_ _) | (with_reducible refine bs ?_ (by first | exact Nat.le_refl _ | omega | (simp; omega)) _) | (with_reducible refine bt ?_ (by with_reducible assumption))))
  rintro W6 ⟨r6x0, r6x1, r6x2, r6x3, r6x4, r6x5, r6x6, r6x7, r6x8, rs6x0, rs6x1, rs6x2, rf6x0, rf6x1, rf6x2, hB6, hT6x0⟩
  clear hcr5 hfr5
  go_wp2_with fail
  refine settleC (fun W => W.cell? ⟨w3.heap.size, 0, none⟩ = some (.int .i64 (ry + 1)) ∧ W.cell? ⟨w3.heap.size, 1, none⟩ = some (.int .i64 1) ∧ W.cell? ⟨w3.heap.size, 2, none⟩ = some (.int .i64 1) ∧ W.cell? ⟨(w3.heap.size + 1), 0, none⟩ = some (.int .i64 (ry + 1)) ∧ W.cell? ⟨(w3.heap.size + 1), 1, none⟩ = some (.int .i64 1) ∧ W.cell? ⟨(w3.heap.size + 1), 2, none⟩ = some (.int .i64 1) ∧ w3.heap.size < W.heap.size ∧ (w3.heap.size + 1) < W.heap.size ∧ Below w.heap.size w W ∧ Tab W 0 Gr.gregCells) ⟨?_, ?_, ?_, ?_, ?_, ?_, ?_, ?_, ?_, ?_⟩ ?_
  · exact ((set3 r6x6 r6x7 r6x8 _ _ _).2.2.2 _ _ (by omega)).trans r6x3
  · exact ((set3 r6x6 r6x7 r6x8 _ _ _).2.2.2 _ _ (by omega)).trans r6x4
  · exact ((set3 r6x6 r6x7 r6x8 _ _ _).2.2.2 _ _ (by omega)).trans r6x5
  · exact (set3 r6x6 r6x7 r6x8 _ _ _).1
  · exact (set3 r6x6 r6x7 r6x8 _ _ _).2.1
  · exact (set3 r6x6 r6x7 r6x8 _ _ _).2.2.1
  · (first | (with_reducible assumption) | (simp; done) | (simp; omega) | omega)
  · (first | (with_reducible assumption) | (simp; done) | (simp; omega) | omega)
  · (repeat (first | (with_reducible exact Below.refl _ _) | (with_reducible assumption) | (with_reducible refine bdrew ?_) | (with_reducible refine baa ?_ _) | (with_reducible refine bs ?_ (by first | exact Nat.le_refl _ | omega | (simp; omega)) _) | (with_reducible refine bt ?_ (by with_reducible assumption))))
  · (refine Tab.below hG ?_; repeat (first | (with_reducible exact Below.refl _ _) | (with_reducible assumption) | (with_reducible refine bdrew ?_) | (with_reducible refine baa ?_ _) | (with_reducible refine bs ?_ (by first | exact Nat.le_refl _ | omega | (simp; omega)) _) | (with_reducible refine bt ?_ (by with_reducible assumption))))
  rintro W7 ⟨r7x0, r7x1, r7x2, r7x3, r7x4, r7x5, rs7x0, rs7x1, hB7, hT7x0⟩
  refine (awake11 _ hT7x0).mono ?_
  rintro e w8 ⟨rfl, hb8⟩
  obtain ⟨hc8, hf8⟩ := bcell hb8
  have g8x0 : w8.cell? ⟨w3.heap.size, 0, none⟩ = some (.int .i64 (ry + 1)) := (hc8 _ _ (by omega)).trans r7x0
  have g8x1 : w8.cell? ⟨w3.heap.size, 1, none⟩ = some (.int .i64 1) := (hc8 _ _ (by omega)).trans r7x1
  have g8x2 : w8.cell? ⟨w3.heap.size, 2, none⟩ = some (.int .i64 1) := (hc8 _ _ (by omega)).trans r7x2
  have g8x3 : w8.cell? ⟨(w3.heap.size + 1), 0, none⟩ = some (.int .i64 (ry + 1)) := (hc8 _ _ (by omega)).trans r7x3
  have g8x4 : w8.cell? ⟨(w3.heap.size + 1), 1, none⟩ = some (.int .i64 1) := (hc8 _ _ (by omega)).trans r7x4
  have g8x5 : w8.cell? ⟨(w3.heap.size + 1), 2, none⟩ = some (.int .i64 1) := (hc8 _ _ (by omega)).trans r7x5
  clear hc8 hf8
  go_wp2_with fail
  go_ret
  refine ⟨by first | rfl | simp [*], bt hB7 hb8⟩
set_option maxHeartbeats 4000000 in
theorem GregRound_at (D : Int) (w : World) (hG : Tab w 0 Gr.gregCells) (ry rm rd : Int) (hv : Gr.Valid ry rm rd) (hD : D = Gr.dayOf ry rm rd) (b1 : -1373427 ≤ D) (b2 : D ≤ 2278650) (c : D + 146097 ≤ 2278650) :
    Calls Tryd.prog 6 #[.int .i64 D] w fun e w' => e = .returned (.bool true) ∧ Below w.heap.size w w' := by
  have hyb := Gr.year_in hv (by omega) (by omega)
  obtain ⟨hw, hE⟩ := Gr.round_400 hv
  subst hD
  have HF2 := Lib.hid (fun w hG => greg_FromDay_v (ry + 400) rm rd w hG hw (by omega) (by omega))
  rw [hE] at HF2
  have HF1 := Lib.hid (fun w hG => greg_FromDay_v ry rm rd w hG hv b1 b2)
  have HLa := Lib.hid (fun w => ref6_Last w)
  clear hw hE hv
  generalize Gr.dayOf ry rm rd = D at *
  go_enter Tryd.func6, Tryd.ntmps6
  go_wp2_with fail
  refine (HF1.out _ (Tab.below hG (by repeat (first | (with_reducible exact Below.refl _ _) | (with_reducible assumption) | (with_reducible refine bdrew ?_) | (with_reducible refine baa ?_ _) | (with_reducible refine bs ?_ (by first | exact Nat.le_refl _ | omega | (simp; omega)) _) | (with_reducible refine bt ?_ (by with_reducible assumption)))))).mono ?_
  rintro e w1 ⟨rfl, hb1⟩
  obtain ⟨hc1, hf1⟩ := bcell hb1
  have hz1 := hb1.size
  try simp at hz1
  go_wp2_with fail
  refine (HLa.out _).mono ?_
  rintro e w2 ⟨rfl, hb2⟩
  obtain ⟨hc2, hf2⟩ := bcell hb2
  have hz2 := hb2.size
  try simp at hz2
  have hl2w1 : w1.heap.size < w2.heap.size := by omega
  have hm2w1 : w1.heap.size ≤ w2.heap.size := by omega
  have g2x0 : w2.cell? ⟨w1.heap.size, 0, none⟩ = some (.int .i64 ry) := (hc2 _ _ (by first | omega | (simp; done) | (simp; omega))).trans (by first | (with_reducible assumption) | (simp [go_sem]; done) | (simp [go_sem, *]; done) | assumption)
  have g2x1 : w2.cell? ⟨w1.heap.size, 1, none⟩ = some (.int .i64 rm) := (hc2 _ _ (by first | omega | (simp; done) | (simp; omega))).trans (by first | (with_reducible assumption) | (simp [go_sem]; done) | (simp [go_sem, *]; done) | assumption)
  have g2x2 : w2.cell? ⟨w1.heap.size, 2, none⟩ = some (.int .i64 rd) := (hc2 _ _ (by first | omega | (simp; done) | (simp; omega))).trans (by first | (with_reducible assumption) | (simp [go_sem]; done) | (simp [go_sem, *]; done) | assumption)
  go_wp2_with fail
  refine (HF2.out _ (Tab.below hG (by repeat (first | (with_reducible exact Below.refl _ _) | (with_reducible assumption) | (with_reducible refine bdrew ?_) | (with_reducible refine baa ?_ _) | (with_reducible refine bs ?_ (by first | exact Nat.le_refl _ | omega | (simp; omega)) _) | (with_reducible refine bt ?_ (by with_reducible assumption)))))).mono ?_
  rintro e w3 ⟨rfl, hb3⟩
  obtain ⟨hc3, hf3⟩ := bcell hb3
  have hz3 := hb3.size
  try simp at hz3
  have hl3w1 : w1.heap.size < w3.heap.size := by omega
  have hm3w1 : w1.heap.size ≤ w3.heap.size := by omega
  have g3x0 : w3.cell? ⟨w1.heap.size, 0, none⟩ = some (.int .i64 ry) := (hc3 _ _ (by first | omega | (simp; done) | (simp; omega))).trans (by first | (with_reducible assumption) | (simp [go_sem]; done) | (simp [go_sem, *]; done) | assumption)
  have g3x1 : w3.cell? ⟨w1.heap.size, 1, none⟩ = some (.int .i64 rm) := (hc3 _ _ (by first | omega | (simp; done) | (simp; omega))).trans (by first | (with_reducible assumption) | (simp [go_sem]; done) | (simp [go_sem, *]; done) | assumption)
  have g3x2 : w3.cell? ⟨w1.heap.size, 2, none⟩ = some (.int .i64 rd) := (hc3 _ _ (by first | omega | (simp; done) | (simp; omega))).trans (by first | (with_reducible assumption) | (simp [go_sem]; done) | (simp [go_sem, *]; done) | assumption)
  go_wp2_with fail
  refine (awake11 _ (Tab.below hG (by repeat (first | (with_reducible exact Below.refl _ _) | (with_reducible assumption) | (with_reducible refine bdrew ?_) | (with_reducible refine baa ?_ _) | (with_reducible refine bs ?_ (by first | exact Nat.le_refl _ | omega | (simp; omega)) _) | (with_reducible refine bt ?_ (by with_reducible assumption)))))).mono ?_
  rintro e w4 ⟨rfl, hb4⟩
  obtain ⟨hc4, hf4⟩ := bcell hb4
  have hz4 := hb4.size
  try simp at hz4
  have hl4w1 : w1.heap.size < w4.heap.size := by omega
  have hm4w1 : w1.heap.size ≤ w4.heap.size := by omega
  have hl4w3 : w3.heap.size < w4.heap.size := by omega
  have hm4w3 : w3.heap.size ≤ w4.heap.size := by omega
  have g4x0 : w4.cell? ⟨w1.heap.size, 0, none⟩ = some (.int .i64 ry) := (hc4 _ _ (by first | omega | (simp; done) | (simp; omega))).trans (by first | (with_reducible assumption) | (simp [go_sem]; done) | (simp [go_sem, *]; done) | assumption)
  have g4x1 : w4.cell? ⟨w1.heap.size, 1, none⟩ = some (.int .i64 rm) := (hc4 _ _ (by first | omega | (simp; done) | (simp; omega))).trans (by first | (with_reducible assumption) | (simp [go_sem]; done) | (simp [go_sem, *]; done) | assumption)
  have g4x2 : w4.cell? ⟨w1.heap.size, 2, none⟩ = some (.int .i64 rd) := (hc4 _ _ (by first | omega | (simp; done) | (simp; omega))).trans (by first | (with_reducible assumption) | (simp [go_sem]; done) | (simp [go_sem, *]; done) | assumption)
  have g4x3 : w4.cell? ⟨w3.heap.size, 0, none⟩ = some (.int .i64 (ry + 400)) := (hc4 _ _ (by first | omega | (simp; done) | (simp; omega))).trans (by first | (with_reducible assumption) | (simp [go_sem]; done) | (simp [go_sem, *]; done) | assumption)
  have g4x4 : w4.cell? ⟨w3.heap.size, 1, none⟩ = some (.int .i64 rm) := (hc4 _ _ (by first | omega | (simp; done) | (simp; omega))).trans (by first | (with_reducible assumption) | (simp [go_sem]; done) | (simp [go_sem, *]; done) | assumption)
  have g4x5 : w4.cell? ⟨w3.heap.size, 2, none⟩ = some (.int .i64 rd) := (hc4 _ _ (by first | omega | (simp; done) | (simp; omega))).trans (by first | (with_reducible assumption) | (simp [go_sem]; done) | (simp [go_sem, *]; done) | assumption)
  go_wp2_with fail
  go_ret
  refine ⟨rfl, ?_⟩
  repeat (first | (with_reducible exact Below.refl _ _) | (with_reducible assumption) | (with_reducible refine bdrew ?_) | (with_reducible refine baa ?_ _) | (with_reducible refine bs ?_ (by first | exact Nat.le_refl _ | omega | (simp; omega)) _) | (with_reducible refine bt ?_ (by with_reducible assumption)))
theorem GregNext_walk (D : Int) (hD : I64 D) (w : World) (hG : Tab w 0 Gr.gregCells) :
    Calls Tryd.prog 5 #[.int .i64 D] w fun e w' => e = .returned (.bool true) ∧ Below w.heap.size w w' := by
  by_cases c : D < -1373427 ∨ 2278650 < D
  · exact GregNext_no D w hG c
  obtain ⟨a, b, d, hv, e⟩ := Gr.day_there D
  by_cases c1 : D = 2278650
  · exact GregNext_last D w hG a b d hv e (by omega) (by omega) c1
  have h4 := hv.2.2.2
  by_cases c2 : d < Gr.days a b
  · exact GregNext_a D w hG a b d hv e (by omega) (by omega) (by omega) h4 c2
  by_cases c3 : b < 12
  · exact GregNext_b D w hG a b d hv e (by omega) (by omega) (by omega) h4 (by omega) c3
  · exact GregNext_c D w hG a b d hv e (by omega) (by omega) (by omega) h4 (by omega) (by have := hv.2.1; omega)
theorem GregRound_walk (D : Int) (hD : I64 D) (w : World) (hG : Tab w 0 Gr.gregCells) :
    Calls Tryd.prog 6 #[.int .i64 D] w fun e w' => e = .returned (.bool true) ∧ Below w.heap.size w w' := by
  by_cases c : D < -1373427 ∨ 2278650 < D
  · exact GregRound_no D w hG c
  obtain ⟨a, b, d, hv, e⟩ := Gr.day_there D
  by_cases c1 : 2278650 < D + 146097
  · exact GregRound_last D w hG a b d hv e (by omega) (by omega) c1
  · exact GregRound_at D w hG a b d hv e (by omega) (by omega) (by omega)
end Go.Proofs.YtncckpfenjokmaaDoor
