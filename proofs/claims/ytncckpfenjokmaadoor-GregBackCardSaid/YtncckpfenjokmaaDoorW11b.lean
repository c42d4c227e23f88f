/- Layer 11: its laws' walks. -/
import Derived.Test.YtncckpfenjokmaaDoorW11
namespace Go.Proofs.YtncckpfenjokmaaDoor
open Go.ChangeShapes Go.WideShapes Go.ChangeAt Go.RowKit
set_option linter.unusedVariables false
set_option maxRecDepth 100000
set_option maxHeartbeats 2000000 in
theorem GregBack_in_no1 (y n d : Int) (D : Int) (w : World) (hG : Tab w 0 Gr.gregCells) (he : Gr.gtE y n d = 0) (hD : D < -1373427) :
    Calls Tryd.prog 4 #[.agg #[.int .i64 y, .int .i64 n, .int .i64 d], .int .i64 D] w fun e w' => e = .returned (.bool true) ∧ Below w.heap.size w w' := by
  have HT1 := Lib.hid (fun w hG => greg_ToDay y n d w hG)
  obtain ⟨u1, u2, u3, u4⟩ := Gr.valid_gt he
  have hF : ∀ w, Tab w 0 Gr.gregCells → Calls Tryd.prog 21 #[.int .i64 (Gr.gtV y n d)] w fun e w' => e = .returned (.tuple #[.agg #[.int .i64 y, .int .i64 n, .int .i64 d], .int .i64 0]) ∧ Below w.heap.size w w' := fun w hG => by
    have := greg_FromDay_v y n d w hG u1 u3 u4
    rwa [← u2] at this
  have HFA := Lib.hid hF
  clear hF u1 u2 u3 u4
  rw [he] at HT1
  clear he
  generalize Gr.gtV y n d = v1 at *
  have HF1 := Lib.hid (fun w => greg_FromDay_no D w (.inl hD))
  go_enter Tryd.func4, Tryd.ntmps4
  go_wp2_with fail
  refine (HT1.out _ (Tab.below hG (by repeat (first | (with_reducible exact Below.refl _ _) | assumption | (with_reducible refine bdrew ?_) | (with_reducible refine baa ?_ _) | (with_reducible refine bs ?_ (by first | exact Nat.le_refl _ | omega | (simp; omega)) _) | (with_reducible refine bt ?_ (by assumption)))))).mono ?_
  rintro e w1 ⟨rfl, hb1⟩
  obtain ⟨hc1, hf1⟩ := bcell hb1
  have hz1 := hb1.size
  try simp at hz1
  have hs1x0 : w.heap.size < w1.heap.size := by omega
  have g1x0 : w1.cell? ⟨w.heap.size, 0, none⟩ = some (.int .i64 y) := (hc1 _ _ (by first | omega | (simp; done) | (simp; omega))).trans (by first | assumption | simp [go_sem] | simp [go_sem, *])
  have g1x1 : w1.cell? ⟨w.heap.size, 1, none⟩ = some (.int .i64 n) := (hc1 _ _ (by first | omega | (simp; done) | (simp; omega))).trans (by first | assumption | simp [go_sem] | simp [go_sem, *])
  have g1x2 : w1.cell? ⟨w.heap.size, 2, none⟩ = some (.int .i64 d) := (hc1 _ _ (by first | omega | (simp; done) | (simp; omega))).trans (by first | assumption | simp [go_sem] | simp [go_sem, *])
  go_wp2_with fail
  refine (HFA.out _ (Tab.below hG (by repeat (first | (with_reducible exact Below.refl _ _) | assumption | (with_reducible refine bdrew ?_) | (with_reducible refine baa ?_ _) | (with_reducible refine bs ?_ (by first | exact Nat.le_refl _ | omega | (simp; omega)) _) | (with_reducible refine bt ?_ (by assumption)))))).mono ?_
  rintro e w2 ⟨rfl, hb2⟩
  obtain ⟨hc2, hf2⟩ := bcell hb2
  have hz2 := hb2.size
  try simp at hz2
  have hs2x0 : w.heap.size < w2.heap.size := by omega
  have g2x0 : w2.cell? ⟨w.heap.size, 0, none⟩ = some (.int .i64 y) := (hc2 _ _ (by first | omega | (simp; done) | (simp; omega))).trans (by first | assumption | simp [go_sem] | simp [go_sem, *])
  have g2x1 : w2.cell? ⟨w.heap.size, 1, none⟩ = some (.int .i64 n) := (hc2 _ _ (by first | omega | (simp; done) | (simp; omega))).trans (by first | assumption | simp [go_sem] | simp [go_sem, *])
  have g2x2 : w2.cell? ⟨w.heap.size, 2, none⟩ = some (.int .i64 d) := (hc2 _ _ (by first | omega | (simp; done) | (simp; omega))).trans (by first | assumption | simp [go_sem] | simp [go_sem, *])
  go_wp2_with fail
  refine (HF1.out _).mono ?_
  rintro e w3 ⟨rfl, hb3⟩
  obtain ⟨hc3, hf3⟩ := bcell hb3
  have hz3 := hb3.size
  try simp at hz3
  have hl3w2 : w2.heap.size < w3.heap.size := by omega
  have hm3w2 : w2.heap.size ≤ w3.heap.size := by omega
  have hs3x0 : w.heap.size < w3.heap.size := by omega
  have g3x0 : w3.cell? ⟨w.heap.size, 0, none⟩ = some (.int .i64 y) := (hc3 _ _ (by first | omega | (simp; done) | (simp; omega))).trans (by first | assumption | simp [go_sem] | simp [go_sem, *])
  have g3x1 : w3.cell? ⟨w.heap.size, 1, none⟩ = some (.int .i64 n) := (hc3 _ _ (by first | omega | (simp; done) | (simp; omega))).trans (by first | assumption | simp [go_sem] | simp [go_sem, *])
  have g3x2 : w3.cell? ⟨w.heap.size, 2, none⟩ = some (.int .i64 d) := (hc3 _ _ (by first | omega | (simp; done) | (simp; omega))).trans (by first | assumption | simp [go_sem] | simp [go_sem, *])
  have g3x3 : w3.cell? ⟨w2.heap.size, 0, none⟩ = some (.int .i64 y) := (hc3 _ _ (by first | omega | (simp; done) | (simp; omega))).trans (by first | assumption | simp [go_sem] | simp [go_sem, *])
  have g3x4 : w3.cell? ⟨w2.heap.size, 1, none⟩ = some (.int .i64 n) := (hc3 _ _ (by first | omega | (simp; done) | (simp; omega))).trans (by first | assumption | simp [go_sem] | simp [go_sem, *])
  have g3x5 : w3.cell? ⟨w2.heap.size, 2, none⟩ = some (.int .i64 d) := (hc3 _ _ (by first | omega | (simp; done) | (simp; omega))).trans (by first | assumption | simp [go_sem] | simp [go_sem, *])
  go_wp2_with fail
  refine (awake11 _ (Tab.below hG (by repeat (first | (with_reducible exact Below.refl _ _) | assumption | (with_reducible refine bdrew ?_) | (with_reducible refine baa ?_ _) | (with_reducible refine bs ?_ (by first | exact Nat.le_refl _ | omega | (simp; omega)) _) | (with_reducible refine bt ?_ (by assumption)))))).mono ?_
  rintro e w4 ⟨rfl, hb4⟩
  obtain ⟨hc4, hf4⟩ := bcell hb4
  have hz4 := hb4.size
  try simp at hz4
  have hl4w3 : w3.heap.size < w4.heap.size := by omega
  have hm4w3 : w3.heap.size ≤ w4.heap.size := by omega
  have g4x0 : w4.cell? ⟨w3.heap.size, 0, none⟩ = some (.int .i64 0) := (hc4 _ _ (by first | omega | (simp; done) | (simp; omega))).trans (by first | assumption | simp [go_sem] | simp [go_sem, *])
  have g4x1 : w4.cell? ⟨w3.heap.size, 1, none⟩ = some (.int .i64 0) := (hc4 _ _ (by first | omega | (simp; done) | (simp; omega))).trans (by first | assumption | simp [go_sem] | simp [go_sem, *])
  have g4x2 : w4.cell? ⟨w3.heap.size, 2, none⟩ = some (.int .i64 0) := (hc4 _ _ (by first | omega | (simp; done) | (simp; omega))).trans (by first | assumption | simp [go_sem] | simp [go_sem, *])
  go_wp2_with fail
  go_ret
  refine ⟨rfl, ?_⟩
  repeat (first | (with_reducible exact Below.refl _ _) | assumption | (with_reducible refine bdrew ?_) | (with_reducible refine baa ?_ _) | (with_reducible refine bs ?_ (by first | exact Nat.le_refl _ | omega | (simp; omega)) _) | (with_reducible refine bt ?_ (by assumption)))
set_option maxHeartbeats 2000000 in
theorem GregBack_in_no2 (y n d : Int) (D : Int) (w : World) (hG : Tab w 0 Gr.gregCells) (he : Gr.gtE y n d = 0) (hD0 : -1373427 ≤ D) (hD : 2278650 < D) :
    Calls Tryd.prog 4 #[.agg #[.int .i64 y, .int .i64 n, .int .i64 d], .int .i64 D] w fun e w' => e = .returned (.bool true) ∧ Below w.heap.size w w' := by
  have HT1 := Lib.hid (fun w hG => greg_ToDay y n d w hG)
  obtain ⟨u1, u2, u3, u4⟩ := Gr.valid_gt he
  have hF : ∀ w, Tab w 0 Gr.gregCells → Calls Tryd.prog 21 #[.int .i64 (Gr.gtV y n d)] w fun e w' => e = .returned (.tuple #[.agg #[.int .i64 y, .int .i64 n, .int .i64 d], .int .i64 0]) ∧ Below w.heap.size w w' := fun w hG => by
    have := greg_FromDay_v y n d w hG u1 u3 u4
    rwa [← u2] at this
  have HFA := Lib.hid hF
  clear hF u1 u2 u3 u4
  rw [he] at HT1
  clear he
  generalize Gr.gtV y n d = v1 at *
  have HF1 := Lib.hid (fun w => greg_FromDay_no D w (.inr hD))
  have HLa := Lib.hid (fun w => ref6_Last w)
  go_enter Tryd.func4, Tryd.ntmps4
  go_wp2_with fail
  refine (HT1.out _ (Tab.below hG (by repeat (first | (with_reducible exact Below.refl _ _) | assumption | (with_reducible refine bdrew ?_) | (with_reducible refine baa ?_ _) | (with_reducible refine bs ?_ (by first | exact Nat.le_refl _ | omega | (simp; omega)) _) | (with_reducible refine bt ?_ (by assumption)))))).mono ?_
  rintro e w1 ⟨rfl, hb1⟩
  obtain ⟨hc1, hf1⟩ := bcell hb1
  have hz1 := hb1.size
  try simp at hz1
  have hs1x0 : w.heap.size < w1.heap.size := by omega
  have g1x0 : w1.cell? ⟨w.heap.size, 0, none⟩ = some (.int .i64 y) := (hc1 _ _ (by first | omega | (simp; done) | (simp; omega))).trans (by first | assumption | simp [go_sem] | simp [go_sem, *])
  have g1x1 : w1.cell? ⟨w.heap.size, 1, none⟩ = some (.int .i64 n) := (hc1 _ _ (by first | omega | (simp; done) | (simp; omega))).trans (by first | assumption | simp [go_sem] | simp [go_sem, *])
  have g1x2 : w1.cell? ⟨w.heap.size, 2, none⟩ = some (.int .i64 d) := (hc1 _ _ (by first | omega | (simp; done) | (simp; omega))).trans (by first | assumption | simp [go_sem] | simp [go_sem, *])
  go_wp2_with fail
  refine (HFA.out _ (Tab.below hG (by repeat (first | (with_reducible exact Below.refl _ _) | assumption | (with_reducible refine bdrew ?_) | (with_reducible refine baa ?_ _) | (with_reducible refine bs ?_ (by first | exact Nat.le_refl _ | omega | (simp; omega)) _) | (with_reducible refine bt ?_ (by assumption)))))).mono ?_
  rintro e w2 ⟨rfl, hb2⟩
  obtain ⟨hc2, hf2⟩ := bcell hb2
  have hz2 := hb2.size
  try simp at hz2
  have hs2x0 : w.heap.size < w2.heap.size := by omega
  have g2x0 : w2.cell? ⟨w.heap.size, 0, none⟩ = some (.int .i64 y) := (hc2 _ _ (by first | omega | (simp; done) | (simp; omega))).trans (by first | assumption | simp [go_sem] | simp [go_sem, *])
  have g2x1 : w2.cell? ⟨w.heap.size, 1, none⟩ = some (.int .i64 n) := (hc2 _ _ (by first | omega | (simp; done) | (simp; omega))).trans (by first | assumption | simp [go_sem] | simp [go_sem, *])
  have g2x2 : w2.cell? ⟨w.heap.size, 2, none⟩ = some (.int .i64 d) := (hc2 _ _ (by first | omega | (simp; done) | (simp; omega))).trans (by first | assumption | simp [go_sem] | simp [go_sem, *])
  go_wp2_with fail
  refine (HF1.out _).mono ?_
  rintro e w3 ⟨rfl, hb3⟩
  obtain ⟨hc3, hf3⟩ := bcell hb3
  have hz3 := hb3.size
  try simp at hz3
  have hl3w2 : w2.heap.size < w3.heap.size := by omega
  have hm3w2 : w2.heap.size ≤ w3.heap.size := by omega
  have hs3x0 : w.heap.size < w3.heap.size := by omega
  have g3x0 : w3.cell? ⟨w.heap.size, 0, none⟩ = some (.int .i64 y) := (hc3 _ _ (by first | omega | (simp; done) | (simp; omega))).trans (by first | assumption | simp [go_sem] | simp [go_sem, *])
  have g3x1 : w3.cell? ⟨w.heap.size, 1, none⟩ = some (.int .i64 n) := (hc3 _ _ (by first | omega | (simp; done) | (simp; omega))).trans (by first | assumption | simp [go_sem] | simp [go_sem, *])
  have g3x2 : w3.cell? ⟨w.heap.size, 2, none⟩ = some (.int .i64 d) := (hc3 _ _ (by first | omega | (simp; done) | (simp; omega))).trans (by first | assumption | simp [go_sem] | simp [go_sem, *])
  have g3x3 : w3.cell? ⟨w2.heap.size, 0, none⟩ = some (.int .i64 y) := (hc3 _ _ (by first | omega | (simp; done) | (simp; omega))).trans (by first | assumption | simp [go_sem] | simp [go_sem, *])
  have g3x4 : w3.cell? ⟨w2.heap.size, 1, none⟩ = some (.int .i64 n) := (hc3 _ _ (by first | omega | (simp; done) | (simp; omega))).trans (by first | assumption | simp [go_sem] | simp [go_sem, *])
  have g3x5 : w3.cell? ⟨w2.heap.size, 2, none⟩ = some (.int .i64 d) := (hc3 _ _ (by first | omega | (simp; done) | (simp; omega))).trans (by first | assumption | simp [go_sem] | simp [go_sem, *])
  go_wp2_with fail
  refine (awake11 _ (Tab.below hG (by repeat (first | (with_reducible exact Below.refl _ _) | assumption | (with_reducible refine bdrew ?_) | (with_reducible refine baa ?_ _) | (with_reducible refine bs ?_ (by first | exact Nat.le_refl _ | omega | (simp; omega)) _) | (with_reducible refine bt ?_ (by assumption)))))).mono ?_
  rintro e w4 ⟨rfl, hb4⟩
  obtain ⟨hc4, hf4⟩ := bcell hb4
  have hz4 := hb4.size
  try simp at hz4
  have hl4w3 : w3.heap.size < w4.heap.size := by omega
  have hm4w3 : w3.heap.size ≤ w4.heap.size := by omega
  have g4x0 : w4.cell? ⟨w3.heap.size, 0, none⟩ = some (.int .i64 0) := (hc4 _ _ (by first | omega | (simp; done) | (simp; omega))).trans (by first | assumption | simp [go_sem] | simp [go_sem, *])
  have g4x1 : w4.cell? ⟨w3.heap.size, 1, none⟩ = some (.int .i64 0) := (hc4 _ _ (by first | omega | (simp; done) | (simp; omega))).trans (by first | assumption | simp [go_sem] | simp [go_sem, *])
  have g4x2 : w4.cell? ⟨w3.heap.size, 2, none⟩ = some (.int .i64 0) := (hc4 _ _ (by first | omega | (simp; done) | (simp; omega))).trans (by first | assumption | simp [go_sem] | simp [go_sem, *])
  go_wp2_with fail
  refine (HLa.out _).mono ?_
  rintro e w5 ⟨rfl, hb5⟩
  obtain ⟨hc5, hf5⟩ := bcell hb5
  have hz5 := hb5.size
  try simp at hz5
  go_wp2_with fail
  go_ret
  refine ⟨rfl, ?_⟩
  repeat (first | (with_reducible exact Below.refl _ _) | assumption | (with_reducible refine bdrew ?_) | (with_reducible refine baa ?_ _) | (with_reducible refine bs ?_ (by first | exact Nat.le_refl _ | omega | (simp; omega)) _) | (with_reducible refine bt ?_ (by assumption)))
set_option maxHeartbeats 2000000 in
theorem GregBack_in_atn (y n d : Int) (D : Int) (w : World) (hG : Tab w 0 Gr.gregCells) (he : Gr.gtE y n d = 0) (ry rm rd : Int) (hv : Gr.Valid ry rm rd) (hD : D = Gr.dayOf ry rm rd) (b1 : -1373427 ≤ D) (b2 : D ≤ 2278650) (z k f : Int) (hw : Gr.Valid z k f) (hE : Gr.dayOf z k f = D + 1) (c1 : D + 1 ≤ 2278650) :
    Calls Tryd.prog 4 #[.agg #[.int .i64 y, .int .i64 n, .int .i64 d], .int .i64 D] w fun e w' => e = .returned (.bool true) ∧ Below w.heap.size w w' := by
  have HT1 := Lib.hid (fun w hG => greg_ToDay y n d w hG)
  obtain ⟨u1, u2, u3, u4⟩ := Gr.valid_gt he
  have hF : ∀ w, Tab w 0 Gr.gregCells → Calls Tryd.prog 21 #[.int .i64 (Gr.gtV y n d)] w fun e w' => e = .returned (.tuple #[.agg #[.int .i64 y, .int .i64 n, .int .i64 d], .int .i64 0]) ∧ Below w.heap.size w w' := fun w hG => by
    have := greg_FromDay_v y n d w hG u1 u3 u4
    rwa [← u2] at this
  have HFA := Lib.hid hF
  clear hF u1 u2 u3 u4
  rw [he] at HT1
  clear he
  generalize Gr.gtV y n d = v1 at *
  subst hD
  have HLs := Lib.hid (fun w => greg_Less ry rm rd z k f w)
  rw [Gr.less_next hv hw hE] at HLs
  have HF2 := Lib.hid (fun w hG => greg_FromDay_v z k f w hG hw (by omega) (by omega))
  rw [hE] at HF2
  clear hE hw
  obtain ⟨x1, x2⟩ := Gr.gt_valid hv b1 b2
  have HT2 := Lib.hid (fun w hG => greg_ToDay ry rm rd w hG)
  rw [x1, x2] at HT2
  clear x1 x2
  have HF1 := Lib.hid (fun w hG => greg_FromDay_v ry rm rd w hG hv b1 b2)
  clear hv
  generalize Gr.dayOf ry rm rd = D at *
  go_enter Tryd.func4, Tryd.ntmps4
  go_wp2_with fail
  refine (HT1.out _ (Tab.below hG (by repeat (first | (with_reducible exact Below.refl _ _) | assumption | (with_reducible refine bdrew ?_) | (with_reducible refine baa ?_ _) | (with_reducible refine bs ?_ (by first | exact Nat.le_refl _ | omega | (simp; omega)) _) | (with_reducible refine bt ?_ (by assumption)))))).mono ?_
  rintro e w1 ⟨rfl, hb1⟩
  obtain ⟨hc1, hf1⟩ := bcell hb1
  have hz1 := hb1.size
  try simp at hz1
  have hs1x0 : w.heap.size < w1.heap.size := by omega
  have g1x0 : w1.cell? ⟨w.heap.size, 0, none⟩ = some (.int .i64 y) := (hc1 _ _ (by first | omega | (simp; done) | (simp; omega))).trans (by first | assumption | simp [go_sem] | simp [go_sem, *])
  have g1x1 : w1.cell? ⟨w.heap.size, 1, none⟩ = some (.int .i64 n) := (hc1 _ _ (by first | omega | (simp; done) | (simp; omega))).trans (by first | assumption | simp [go_sem] | simp [go_sem, *])
  have g1x2 : w1.cell? ⟨w.heap.size, 2, none⟩ = some (.int .i64 d) := (hc1 _ _ (by first | omega | (simp; done) | (simp; omega))).trans (by first | assumption | simp [go_sem] | simp [go_sem, *])
  go_wp2_with fail
  refine (HFA.out _ (Tab.below hG (by repeat (first | (with_reducible exact Below.refl _ _) | assumption | (with_reducible refine bdrew ?_) | (with_reducible refine baa ?_ _) | (with_reducible refine bs ?_ (by first | exact Nat.le_refl _ | omega | (simp; omega)) _) | (with_reducible refine bt ?_ (by assumption)))))).mono ?_
  rintro e w2 ⟨rfl, hb2⟩
  obtain ⟨hc2, hf2⟩ := bcell hb2
  have hz2 := hb2.size
  try simp at hz2
  have hs2x0 : w.heap.size < w2.heap.size := by omega
  have g2x0 : w2.cell? ⟨w.heap.size, 0, none⟩ = some (.int .i64 y) := (hc2 _ _ (by first | omega | (simp; done) | (simp; omega))).trans (by first | assumption | simp [go_sem] | simp [go_sem, *])
  have g2x1 : w2.cell? ⟨w.heap.size, 1, none⟩ = some (.int .i64 n) := (hc2 _ _ (by first | omega | (simp; done) | (simp; omega))).trans (by first | assumption | simp [go_sem] | simp [go_sem, *])
  have g2x2 : w2.cell? ⟨w.heap.size, 2, none⟩ = some (.int .i64 d) := (hc2 _ _ (by first | omega | (simp; done) | (simp; omega))).trans (by first | assumption | simp [go_sem] | simp [go_sem, *])
  go_wp2_with fail
  refine (HF1.out _ (Tab.below hG (by repeat (first | (with_reducible exact Below.refl _ _) | assumption | (with_reducible refine bdrew ?_) | (with_reducible refine baa ?_ _) | (with_reducible refine bs ?_ (by first | exact Nat.le_refl _ | omega | (simp; omega)) _) | (with_reducible refine bt ?_ (by assumption)))))).mono ?_
  rintro e w3 ⟨rfl, hb3⟩
  obtain ⟨hc3, hf3⟩ := bcell hb3
  have hz3 := hb3.size
  try simp at hz3
  have hl3w2 : w2.heap.size < w3.heap.size := by omega
  have hm3w2 : w2.heap.size ≤ w3.heap.size := by omega
  have hs3x0 : w.heap.size < w3.heap.size := by omega
  have g3x0 : w3.cell? ⟨w.heap.size, 0, none⟩ = some (.int .i64 y) := (hc3 _ _ (by first | omega | (simp; done) | (simp; omega))).trans (by first | assumption | simp [go_sem] | simp [go_sem, *])
  have g3x1 : w3.cell? ⟨w.heap.size, 1, none⟩ = some (.int .i64 n) := (hc3 _ _ (by first | omega | (simp; done) | (simp; omega))).trans (by first | assumption | simp [go_sem] | simp [go_sem, *])
  have g3x2 : w3.cell? ⟨w.heap.size, 2, none⟩ = some (.int .i64 d) := (hc3 _ _ (by first | omega | (simp; done) | (simp; omega))).trans (by first | assumption | simp [go_sem] | simp [go_sem, *])
  have g3x3 : w3.cell? ⟨w2.heap.size, 0, none⟩ = some (.int .i64 y) := (hc3 _ _ (by first | omega | (simp; done) | (simp; omega))).trans (by first | assumption | simp [go_sem] | simp [go_sem, *])
  have g3x4 : w3.cell? ⟨w2.heap.size, 1, none⟩ = some (.int .i64 n) := (hc3 _ _ (by first | omega | (simp; done) | (simp; omega))).trans (by first | assumption | simp [go_sem] | simp [go_sem, *])
  have g3x5 : w3.cell? ⟨w2.heap.size, 2, none⟩ = some (.int .i64 d) := (hc3 _ _ (by first | omega | (simp; done) | (simp; omega))).trans (by first | assumption | simp [go_sem] | simp [go_sem, *])
  go_wp2_with fail
  refine (HT2.out _ (Tab.below hG (by repeat (first | (with_reducible exact Below.refl _ _) | assumption | (with_reducible refine bdrew ?_) | (with_reducible refine baa ?_ _) | (with_reducible refine bs ?_ (by first | exact Nat.le_refl _ | omega | (simp; omega)) _) | (with_reducible refine bt ?_ (by assumption)))))).mono ?_
  rintro e w4 ⟨rfl, hb4⟩
  obtain ⟨hc4, hf4⟩ := bcell hb4
  have hz4 := hb4.size
  try simp at hz4
  have hl4w3 : w3.heap.size < w4.heap.size := by omega
  have hm4w3 : w3.heap.size ≤ w4.heap.size := by omega
  have g4x0 : w4.cell? ⟨w3.heap.size, 0, none⟩ = some (.int .i64 ry) := (hc4 _ _ (by first | omega | (simp; done) | (simp; omega))).trans (by first | assumption | simp [go_sem] | simp [go_sem, *])
  have g4x1 : w4.cell? ⟨w3.heap.size, 1, none⟩ = some (.int .i64 rm) := (hc4 _ _ (by first | omega | (simp; done) | (simp; omega))).trans (by first | assumption | simp [go_sem] | simp [go_sem, *])
  have g4x2 : w4.cell? ⟨w3.heap.size, 2, none⟩ = some (.int .i64 rd) := (hc4 _ _ (by first | omega | (simp; done) | (simp; omega))).trans (by first | assumption | simp [go_sem] | simp [go_sem, *])
  go_wp2_with fail
  refine (HF2.out _ (Tab.below hG (by repeat (first | (with_reducible exact Below.refl _ _) | assumption | (with_reducible refine bdrew ?_) | (with_reducible refine baa ?_ _) | (with_reducible refine bs ?_ (by first | exact Nat.le_refl _ | omega | (simp; omega)) _) | (with_reducible refine bt ?_ (by assumption)))))).mono ?_
  rintro e w5 ⟨rfl, hb5⟩
  obtain ⟨hc5, hf5⟩ := bcell hb5
  have hz5 := hb5.size
  try simp at hz5
  have hl5w3 : w3.heap.size < w5.heap.size := by omega
  have hm5w3 : w3.heap.size ≤ w5.heap.size := by omega
  have g5x0 : w5.cell? ⟨w3.heap.size, 0, none⟩ = some (.int .i64 ry) := (hc5 _ _ (by first | omega | (simp; done) | (simp; omega))).trans (by first | assumption | simp [go_sem] | simp [go_sem, *])
  have g5x1 : w5.cell? ⟨w3.heap.size, 1, none⟩ = some (.int .i64 rm) := (hc5 _ _ (by first | omega | (simp; done) | (simp; omega))).trans (by first | assumption | simp [go_sem] | simp [go_sem, *])
  have g5x2 : w5.cell? ⟨w3.heap.size, 2, none⟩ = some (.int .i64 rd) := (hc5 _ _ (by first | omega | (simp; done) | (simp; omega))).trans (by first | assumption | simp [go_sem] | simp [go_sem, *])
  go_wp2_with fail
  refine (awake11 _ (Tab.below hG (by repeat (first | (with_reducible exact Below.refl _ _) | assumption | (with_reducible refine bdrew ?_) | (with_reducible refine baa ?_ _) | (with_reducible refine bs ?_ (by first | exact Nat.le_refl _ | omega | (simp; omega)) _) | (with_reducible refine bt ?_ (by assumption)))))).mono ?_
  rintro e w6 ⟨rfl, hb6⟩
  obtain ⟨hc6, hf6⟩ := bcell hb6
  have hz6 := hb6.size
  try simp at hz6
  have hl6w3 : w3.heap.size < w6.heap.size := by omega
  have hm6w3 : w3.heap.size ≤ w6.heap.size := by omega
  have hl6w5 : w5.heap.size < w6.heap.size := by omega
  have hm6w5 : w5.heap.size ≤ w6.heap.size := by omega
  have g6x0 : w6.cell? ⟨w3.heap.size, 0, none⟩ = some (.int .i64 ry) := (hc6 _ _ (by first | omega | (simp; done) | (simp; omega))).trans (by first | assumption | simp [go_sem] | simp [go_sem, *])
  have g6x1 : w6.cell? ⟨w3.heap.size, 1, none⟩ = some (.int .i64 rm) := (hc6 _ _ (by first | omega | (simp; done) | (simp; omega))).trans (by first | assumption | simp [go_sem] | simp [go_sem, *])
  have g6x2 : w6.cell? ⟨w3.heap.size, 2, none⟩ = some (.int .i64 rd) := (hc6 _ _ (by first | omega | (simp; done) | (simp; omega))).trans (by first | assumption | simp [go_sem] | simp [go_sem, *])
  have g6x3 : w6.cell? ⟨w5.heap.size, 0, none⟩ = some (.int .i64 z) := (hc6 _ _ (by first | omega | (simp; done) | (simp; omega))).trans (by first | assumption | simp [go_sem] | simp [go_sem, *])
  have g6x4 : w6.cell? ⟨w5.heap.size, 1, none⟩ = some (.int .i64 k) := (hc6 _ _ (by first | omega | (simp; done) | (simp; omega))).trans (by first | assumption | simp [go_sem] | simp [go_sem, *])
  have g6x5 : w6.cell? ⟨w5.heap.size, 2, none⟩ = some (.int .i64 f) := (hc6 _ _ (by first | omega | (simp; done) | (simp; omega))).trans (by first | assumption | simp [go_sem] | simp [go_sem, *])
  go_wp2_with fail
  refine (HLs.out _).mono ?_
  rintro e w7 ⟨rfl, hb7⟩
  obtain ⟨hc7, hf7⟩ := bcell hb7
  have hz7 := hb7.size
  try simp at hz7
  have hl7w3 : w3.heap.size < w7.heap.size := by omega
  have hm7w3 : w3.heap.size ≤ w7.heap.size := by omega
  have hl7w5 : w5.heap.size < w7.heap.size := by omega
  have hm7w5 : w5.heap.size ≤ w7.heap.size := by omega
  have g7x0 : w7.cell? ⟨w3.heap.size, 0, none⟩ = some (.int .i64 ry) := (hc7 _ _ (by first | omega | (simp; done) | (simp; omega))).trans (by first | assumption | simp [go_sem] | simp [go_sem, *])
  have g7x1 : w7.cell? ⟨w3.heap.size, 1, none⟩ = some (.int .i64 rm) := (hc7 _ _ (by first | omega | (simp; done) | (simp; omega))).trans (by first | assumption | simp [go_sem] | simp [go_sem, *])
  have g7x2 : w7.cell? ⟨w3.heap.size, 2, none⟩ = some (.int .i64 rd) := (hc7 _ _ (by first | omega | (simp; done) | (simp; omega))).trans (by first | assumption | simp [go_sem] | simp [go_sem, *])
  have g7x3 : w7.cell? ⟨w5.heap.size, 0, none⟩ = some (.int .i64 z) := (hc7 _ _ (by first | omega | (simp; done) | (simp; omega))).trans (by first | assumption | simp [go_sem] | simp [go_sem, *])
  have g7x4 : w7.cell? ⟨w5.heap.size, 1, none⟩ = some (.int .i64 k) := (hc7 _ _ (by first | omega | (simp; done) | (simp; omega))).trans (by first | assumption | simp [go_sem] | simp [go_sem, *])
  have g7x5 : w7.cell? ⟨w5.heap.size, 2, none⟩ = some (.int .i64 f) := (hc7 _ _ (by first | omega | (simp; done) | (simp; omega))).trans (by first | assumption | simp [go_sem] | simp [go_sem, *])
  go_wp2_with fail
  go_ret
  refine ⟨rfl, ?_⟩
  repeat (first | (with_reducible exact Below.refl _ _) | assumption | (with_reducible refine bdrew ?_) | (with_reducible refine baa ?_ _) | (with_reducible refine bs ?_ (by first | exact Nat.le_refl _ | omega | (simp; omega)) _) | (with_reducible refine bt ?_ (by assumption)))
set_option maxHeartbeats 2000000 in
theorem GregBack_in_ate (y n d : Int) (D : Int) (w : World) (hG : Tab w 0 Gr.gregCells) (he : Gr.gtE y n d = 0) (ry rm rd : Int) (hv : Gr.Valid ry rm rd) (hD : D = Gr.dayOf ry rm rd) (b1 : -1373427 ≤ D) (b2 : D ≤ 2278650) (c1 : 2278650 < D + 1) :
    Calls Tryd.prog 4 #[.agg #[.int .i64 y, .int .i64 n, .int .i64 d], .int .i64 D] w fun e w' => e = .returned (.bool true) ∧ Below w.heap.size w w' := by
  have HT1 := Lib.hid (fun w hG => greg_ToDay y n d w hG)
  obtain ⟨u1, u2, u3, u4⟩ := Gr.valid_gt he
  have hF : ∀ w, Tab w 0 Gr.gregCells → Calls Tryd.prog 21 #[.int .i64 (Gr.gtV y n d)] w fun e w' => e = .returned (.tuple #[.agg #[.int .i64 y, .int .i64 n, .int .i64 d], .int .i64 0]) ∧ Below w.heap.size w w' := fun w hG => by
    have := greg_FromDay_v y n d w hG u1 u3 u4
    rwa [← u2] at this
  have HFA := Lib.hid hF
  clear hF u1 u2 u3 u4
  rw [he] at HT1
  clear he
  generalize Gr.gtV y n d = v1 at *
  subst hD
  have HF2 := Lib.hid (fun w => greg_FromDay_no (Gr.dayOf ry rm rd + 1) w (by omega))
  obtain ⟨x1, x2⟩ := Gr.gt_valid hv b1 b2
  have HT2 := Lib.hid (fun w hG => greg_ToDay ry rm rd w hG)
  rw [x1, x2] at HT2
  clear x1 x2
  have HF1 := Lib.hid (fun w hG => greg_FromDay_v ry rm rd w hG hv b1 b2)
  clear hv
  generalize Gr.dayOf ry rm rd = D at *
  go_enter Tryd.func4, Tryd.ntmps4
  go_wp2_with fail
  refine (HT1.out _ (Tab.below hG (by repeat (first | (with_reducible exact Below.refl _ _) | assumption | (with_reducible refine bdrew ?_) | (with_reducible refine baa ?_ _) | (with_reducible refine bs ?_ (by first | exact Nat.le_refl _ | omega | (simp; omega)) _) | (with_reducible refine bt ?_ (by assumption)))))).mono ?_
  rintro e w1 ⟨rfl, hb1⟩
  obtain ⟨hc1, hf1⟩ := bcell hb1
  have hz1 := hb1.size
  try simp at hz1
  have hs1x0 : w.heap.size < w1.heap.size := by omega
  have g1x0 : w1.cell? ⟨w.heap.size, 0, none⟩ = some (.int .i64 y) := (hc1 _ _ (by first | omega | (simp; done) | (simp; omega))).trans (by first | assumption | simp [go_sem] | simp [go_sem, *])
  have g1x1 : w1.cell? ⟨w.heap.size, 1, none⟩ = some (.int .i64 n) := (hc1 _ _ (by first | omega | (simp; done) | (simp; omega))).trans (by first | assumption | simp [go_sem] | simp [go_sem, *])
  have g1x2 : w1.cell? ⟨w.heap.size, 2, none⟩ = some (.int .i64 d) := (hc1 _ _ (by first | omega | (simp; done) | (simp; omega))).trans (by first | assumption | simp [go_sem] | simp [go_sem, *])
  go_wp2_with fail
  refine (HFA.out _ (Tab.below hG (by repeat (first | (with_reducible exact Below.refl _ _) | assumption | (with_reducible refine bdrew ?_) | (with_reducible refine baa ?_ _) | (with_reducible refine bs ?_ (by first | exact Nat.le_refl _ | omega | (simp; omega)) _) | (with_reducible refine bt ?_ (by assumption)))))).mono ?_
  rintro e w2 ⟨rfl, hb2⟩
  obtain ⟨hc2, hf2⟩ := bcell hb2
  have hz2 := hb2.size
  try simp at hz2
  have hs2x0 : w.heap.size < w2.heap.size := by omega
  have g2x0 : w2.cell? ⟨w.heap.size, 0, none⟩ = some (.int .i64 y) := (hc2 _ _ (by first | omega | (simp; done) | (simp; omega))).trans (by first | assumption | simp [go_sem] | simp [go_sem, *])
  have g2x1 : w2.cell? ⟨w.heap.size, 1, none⟩ = some (.int .i64 n) := (hc2 _ _ (by first | omega | (simp; done) | (simp; omega))).trans (by first | assumption | simp [go_sem] | simp [go_sem, *])
  have g2x2 : w2.cell? ⟨w.heap.size, 2, none⟩ = some (.int .i64 d) := (hc2 _ _ (by first | omega | (simp; done) | (simp; omega))).trans (by first | assumption | simp [go_sem] | simp [go_sem, *])
  go_wp2_with fail
  refine (HF1.out _ (Tab.below hG (by repeat (first | (with_reducible exact Below.refl _ _) | assumption | (with_reducible refine bdrew ?_) | (with_reducible refine baa ?_ _) | (with_reducible refine bs ?_ (by first | exact Nat.le_refl _ | omega | (simp; omega)) _) | (with_reducible refine bt ?_ (by assumption)))))).mono ?_
  rintro e w3 ⟨rfl, hb3⟩
  obtain ⟨hc3, hf3⟩ := bcell hb3
  have hz3 := hb3.size
  try simp at hz3
  have hl3w2 : w2.heap.size < w3.heap.size := by omega
  have hm3w2 : w2.heap.size ≤ w3.heap.size := by omega
  have hs3x0 : w.heap.size < w3.heap.size := by omega
  have g3x0 : w3.cell? ⟨w.heap.size, 0, none⟩ = some (.int .i64 y) := (hc3 _ _ (by first | omega | (simp; done) | (simp; omega))).trans (by first | assumption | simp [go_sem] | simp [go_sem, *])
  have g3x1 : w3.cell? ⟨w.heap.size, 1, none⟩ = some (.int .i64 n) := (hc3 _ _ (by first | omega | (simp; done) | (simp; omega))).trans (by first | assumption | simp [go_sem] | simp [go_sem, *])
  have g3x2 : w3.cell? ⟨w.heap.size, 2, none⟩ = some (.int .i64 d) := (hc3 _ _ (by first | omega | (simp; done) | (simp; omega))).trans (by first | assumption | simp [go_sem] | simp [go_sem, *])
  have g3x3 : w3.cell? ⟨w2.heap.size, 0, none⟩ = some (.int .i64 y) := (hc3 _ _ (by first | omega | (simp; done) | (simp; omega))).trans (by first | assumption | simp [go_sem] | simp [go_sem, *])
  have g3x4 : w3.cell? ⟨w2.heap.size, 1, none⟩ = some (.int .i64 n) := (hc3 _ _ (by first | omega | (simp; done) | (simp; omega))).trans (by first | assumption | simp [go_sem] | simp [go_sem, *])
  have g3x5 : w3.cell? ⟨w2.heap.size, 2, none⟩ = some (.int .i64 d) := (hc3 _ _ (by first | omega | (simp; done) | (simp; omega))).trans (by first | assumption | simp [go_sem] | simp [go_sem, *])
  go_wp2_with fail
  refine (HT2.out _ (Tab.below hG (by repeat (first | (with_reducible exact Below.refl _ _) | assumption | (with_reducible refine bdrew ?_) | (with_reducible refine baa ?_ _) | (with_reducible refine bs ?_ (by first | exact Nat.le_refl _ | omega | (simp; omega)) _) | (with_reducible refine bt ?_ (by assumption)))))).mono ?_
  rintro e w4 ⟨rfl, hb4⟩
  obtain ⟨hc4, hf4⟩ := bcell hb4
  have hz4 := hb4.size
  try simp at hz4
  have hl4w3 : w3.heap.size < w4.heap.size := by omega
  have hm4w3 : w3.heap.size ≤ w4.heap.size := by omega
  have g4x0 : w4.cell? ⟨w3.heap.size, 0, none⟩ = some (.int .i64 ry) := (hc4 _ _ (by first | omega | (simp; done) | (simp; omega))).trans (by first | assumption | simp [go_sem] | simp [go_sem, *])
  have g4x1 : w4.cell? ⟨w3.heap.size, 1, none⟩ = some (.int .i64 rm) := (hc4 _ _ (by first | omega | (simp; done) | (simp; omega))).trans (by first | assumption | simp [go_sem] | simp [go_sem, *])
  have g4x2 : w4.cell? ⟨w3.heap.size, 2, none⟩ = some (.int .i64 rd) := (hc4 _ _ (by first | omega | (simp; done) | (simp; omega))).trans (by first | assumption | simp [go_sem] | simp [go_sem, *])
  go_wp2_with fail
  refine (HF2.out _).mono ?_
  rintro e w5 ⟨rfl, hb5⟩
  obtain ⟨hc5, hf5⟩ := bcell hb5
  have hz5 := hb5.size
  try simp at hz5
  have hl5w3 : w3.heap.size < w5.heap.size := by omega
  have hm5w3 : w3.heap.size ≤ w5.heap.size := by omega
  have g5x0 : w5.cell? ⟨w3.heap.size, 0, none⟩ = some (.int .i64 ry) := (hc5 _ _ (by first | omega | (simp; done) | (simp; omega))).trans (by first | assumption | simp [go_sem] | simp [go_sem, *])
  have g5x1 : w5.cell? ⟨w3.heap.size, 1, none⟩ = some (.int .i64 rm) := (hc5 _ _ (by first | omega | (simp; done) | (simp; omega))).trans (by first | assumption | simp [go_sem] | simp [go_sem, *])
  have g5x2 : w5.cell? ⟨w3.heap.size, 2, none⟩ = some (.int .i64 rd) := (hc5 _ _ (by first | omega | (simp; done) | (simp; omega))).trans (by first | assumption | simp [go_sem] | simp [go_sem, *])
  go_wp2_with fail
  refine (awake11 _ (Tab.below hG (by repeat (first | (with_reducible exact Below.refl _ _) | assumption | (with_reducible refine bdrew ?_) | (with_reducible refine baa ?_ _) | (with_reducible refine bs ?_ (by first | exact Nat.le_refl _ | omega | (simp; omega)) _) | (with_reducible refine bt ?_ (by assumption)))))).mono ?_
  rintro e w6 ⟨rfl, hb6⟩
  obtain ⟨hc6, hf6⟩ := bcell hb6
  have hz6 := hb6.size
  try simp at hz6
  have hl6w3 : w3.heap.size < w6.heap.size := by omega
  have hm6w3 : w3.heap.size ≤ w6.heap.size := by omega
  have hl6w5 : w5.heap.size < w6.heap.size := by omega
  have hm6w5 : w5.heap.size ≤ w6.heap.size := by omega
  have g6x0 : w6.cell? ⟨w3.heap.size, 0, none⟩ = some (.int .i64 ry) := (hc6 _ _ (by first | omega | (simp; done) | (simp; omega))).trans (by first | assumption | simp [go_sem] | simp [go_sem, *])
  have g6x1 : w6.cell? ⟨w3.heap.size, 1, none⟩ = some (.int .i64 rm) := (hc6 _ _ (by first | omega | (simp; done) | (simp; omega))).trans (by first | assumption | simp [go_sem] | simp [go_sem, *])
  have g6x2 : w6.cell? ⟨w3.heap.size, 2, none⟩ = some (.int .i64 rd) := (hc6 _ _ (by first | omega | (simp; done) | (simp; omega))).trans (by first | assumption | simp [go_sem] | simp [go_sem, *])
  have g6x3 : w6.cell? ⟨w5.heap.size, 0, none⟩ = some (.int .i64 0) := (hc6 _ _ (by first | omega | (simp; done) | (simp; omega))).trans (by first | assumption | simp [go_sem] | simp [go_sem, *])
  have g6x4 : w6.cell? ⟨w5.heap.size, 1, none⟩ = some (.int .i64 0) := (hc6 _ _ (by first | omega | (simp; done) | (simp; omega))).trans (by first | assumption | simp [go_sem] | simp [go_sem, *])
  have g6x5 : w6.cell? ⟨w5.heap.size, 2, none⟩ = some (.int .i64 0) := (hc6 _ _ (by first | omega | (simp; done) | (simp; omega))).trans (by first | assumption | simp [go_sem] | simp [go_sem, *])
  go_wp2_with fail
  go_ret
  refine ⟨rfl, ?_⟩
  repeat (first | (with_reducible exact Below.refl _ _) | assumption | (with_reducible refine bdrew ?_) | (with_reducible refine baa ?_ _) | (with_reducible refine bs ?_ (by first | exact Nat.le_refl _ | omega | (simp; omega)) _) | (with_reducible refine bt ?_ (by assumption)))
set_option maxHeartbeats 2000000 in
theorem GregBack_out_no1 (y n d : Int) (D : Int) (w : World) (hG : Tab w 0 Gr.gregCells) (he : ¬ Gr.gtE y n d = 0) (hD : D < -1373427) :
    Calls Tryd.prog 4 #[.agg #[.int .i64 y, .int .i64 n, .int .i64 d], .int .i64 D] w fun e w' => e = .returned (.bool true) ∧ Below w.heap.size w w' := by
  have HT1 := Lib.hid (fun w hG => greg_ToDay y n d w hG)
  generalize Gr.gtE y n d = v2 at *
  have he2 : (v2 == 0) = false := by simpa using he
  generalize Gr.gtV y n d = v1 at *
  have HF1 := Lib.hid (fun w => greg_FromDay_no D w (.inl hD))
  go_enter Tryd.func4, Tryd.ntmps4
  go_wp2_with fail
  refine (HT1.out _ (Tab.below hG (by repeat (first | (with_reducible exact Below.refl _ _) | assumption | (with_reducible refine bdrew ?_) | (with_reducible refine baa ?_ _) | (with_reducible refine bs ?_ (by first | exact Nat.le_refl _ | omega | (simp; omega)) _) | (with_reducible refine bt ?_ (by assumption)))))).mono ?_
  rintro e w1 ⟨rfl, hb1⟩
  obtain ⟨hc1, hf1⟩ := bcell hb1
  have hz1 := hb1.size
  try simp at hz1
  have hs1x0 : w.heap.size < w1.heap.size := by omega
  have g1x0 : w1.cell? ⟨w.heap.size, 0, none⟩ = some (.int .i64 y) := (hc1 _ _ (by first | omega | (simp; done) | (simp; omega))).trans (by first | assumption | simp [go_sem] | simp [go_sem, *])
  have g1x1 : w1.cell? ⟨w.heap.size, 1, none⟩ = some (.int .i64 n) := (hc1 _ _ (by first | omega | (simp; done) | (simp; omega))).trans (by first | assumption | simp [go_sem] | simp [go_sem, *])
  have g1x2 : w1.cell? ⟨w.heap.size, 2, none⟩ = some (.int .i64 d) := (hc1 _ _ (by first | omega | (simp; done) | (simp; omega))).trans (by first | assumption | simp [go_sem] | simp [go_sem, *])
  go_wp2_with fail
  refine (HF1.out _).mono ?_
  rintro e w2 ⟨rfl, hb2⟩
  obtain ⟨hc2, hf2⟩ := bcell hb2
  have hz2 := hb2.size
  try simp at hz2
  have hs2x0 : w.heap.size < w2.heap.size := by omega
  have g2x0 : w2.cell? ⟨w.heap.size, 0, none⟩ = some (.int .i64 y) := (hc2 _ _ (by first | omega | (simp; done) | (simp; omega))).trans (by first | assumption | simp [go_sem] | simp [go_sem, *])
  have g2x1 : w2.cell? ⟨w.heap.size, 1, none⟩ = some (.int .i64 n) := (hc2 _ _ (by first | omega | (simp; done) | (simp; omega))).trans (by first | assumption | simp [go_sem] | simp [go_sem, *])
  have g2x2 : w2.cell? ⟨w.heap.size, 2, none⟩ = some (.int .i64 d) := (hc2 _ _ (by first | omega | (simp; done) | (simp; omega))).trans (by first | assumption | simp [go_sem] | simp [go_sem, *])
  go_wp2_with fail
  refine (awake11 _ (Tab.below hG (by repeat (first | (with_reducible exact Below.refl _ _) | assumption | (with_reducible refine bdrew ?_) | (with_reducible refine baa ?_ _) | (with_reducible refine bs ?_ (by first | exact Nat.le_refl _ | omega | (simp; omega)) _) | (with_reducible refine bt ?_ (by assumption)))))).mono ?_
  rintro e w3 ⟨rfl, hb3⟩
  obtain ⟨hc3, hf3⟩ := bcell hb3
  have hz3 := hb3.size
  try simp at hz3
  have hl3w2 : w2.heap.size < w3.heap.size := by omega
  have hm3w2 : w2.heap.size ≤ w3.heap.size := by omega
  have g3x0 : w3.cell? ⟨w2.heap.size, 0, none⟩ = some (.int .i64 0) := (hc3 _ _ (by first | omega | (simp; done) | (simp; omega))).trans (by first | assumption | simp [go_sem] | simp [go_sem, *])
  have g3x1 : w3.cell? ⟨w2.heap.size, 1, none⟩ = some (.int .i64 0) := (hc3 _ _ (by first | omega | (simp; done) | (simp; omega))).trans (by first | assumption | simp [go_sem] | simp [go_sem, *])
  have g3x2 : w3.cell? ⟨w2.heap.size, 2, none⟩ = some (.int .i64 0) := (hc3 _ _ (by first | omega | (simp; done) | (simp; omega))).trans (by first | assumption | simp [go_sem] | simp [go_sem, *])
  go_wp2_with fail
  go_ret
  refine ⟨rfl, ?_⟩
  repeat (first | (with_reducible exact Below.refl _ _) | assumption | (with_reducible refine bdrew ?_) | (with_reducible refine baa ?_ _) | (with_reducible refine bs ?_ (by first | exact Nat.le_refl _ | omega | (simp; omega)) _) | (with_reducible refine bt ?_ (by assumption)))
set_option maxHeartbeats 2000000 in
theorem GregBack_out_no2 (y n d : Int) (D : Int) (w : World) (hG : Tab w 0 Gr.gregCells) (he : ¬ Gr.gtE y n d = 0) (hD0 : -1373427 ≤ D) (hD : 2278650 < D) :
    Calls Tryd.prog 4 #[.agg #[.int .i64 y, .int .i64 n, .int .i64 d], .int .i64 D] w fun e w' => e = .returned (.bool true) ∧ Below w.heap.size w w' := by
  have HT1 := Lib.hid (fun w hG => greg_ToDay y n d w hG)
  generalize Gr.gtE y n d = v2 at *
  have he2 : (v2 == 0) = false := by simpa using he
  generalize Gr.gtV y n d = v1 at *
  have HF1 := Lib.hid (fun w => greg_FromDay_no D w (.inr hD))
  have HLa := Lib.hid (fun w => ref6_Last w)
  go_enter Tryd.func4, Tryd.ntmps4
  go_wp2_with fail
  refine (HT1.out _ (Tab.below hG (by repeat (first | (with_reducible exact Below.refl _ _) | assumption | (with_reducible refine bdrew ?_) | (with_reducible refine baa ?_ _) | (with_reducible refine bs ?_ (by first | exact Nat.le_refl _ | omega | (simp; omega)) _) | (with_reducible refine bt ?_ (by assumption)))))).mono ?_
  rintro e w1 ⟨rfl, hb1⟩
  obtain ⟨hc1, hf1⟩ := bcell hb1
  have hz1 := hb1.size
  try simp at hz1
  have hs1x0 : w.heap.size < w1.heap.size := by omega
  have g1x0 : w1.cell? ⟨w.heap.size, 0, none⟩ = some (.int .i64 y) := (hc1 _ _ (by first | omega | (simp; done) | (simp; omega))).trans (by first | assumption | simp [go_sem] | simp [go_sem, *])
  have g1x1 : w1.cell? ⟨w.heap.size, 1, none⟩ = some (.int .i64 n) := (hc1 _ _ (by first | omega | (simp; done) | (simp; omega))).trans (by first | assumption | simp [go_sem] | simp [go_sem, *])
  have g1x2 : w1.cell? ⟨w.heap.size, 2, none⟩ = some (.int .i64 d) := (hc1 _ _ (by first | omega | (simp; done) | (simp; omega))).trans (by first | assumption | simp [go_sem] | simp [go_sem, *])
  go_wp2_with fail
  refine (HF1.out _).mono ?_
  rintro e w2 ⟨rfl, hb2⟩
  obtain ⟨hc2, hf2⟩ := bcell hb2
  have hz2 := hb2.size
  try simp at hz2
  have hs2x0 : w.heap.size < w2.heap.size := by omega
  have g2x0 : w2.cell? ⟨w.heap.size, 0, none⟩ = some (.int .i64 y) := (hc2 _ _ (by first | omega | (simp; done) | (simp; omega))).trans (by first | assumption | simp [go_sem] | simp [go_sem, *])
  have g2x1 : w2.cell? ⟨w.heap.size, 1, none⟩ = some (.int .i64 n) := (hc2 _ _ (by first | omega | (simp; done) | (simp; omega))).trans (by first | assumption | simp [go_sem] | simp [go_sem, *])
  have g2x2 : w2.cell? ⟨w.heap.size, 2, none⟩ = some (.int .i64 d) := (hc2 _ _ (by first | omega | (simp; done) | (simp; omega))).trans (by first | assumption | simp [go_sem] | simp [go_sem, *])
  go_wp2_with fail
  refine (awake11 _ (Tab.below hG (by repeat (first | (with_reducible exact Below.refl _ _) | assumption | (with_reducible refine bdrew ?_) | (with_reducible refine baa ?_ _) | (with_reducible refine bs ?_ (by first | exact Nat.le_refl _ | omega | (simp; omega)) _) | (with_reducible refine bt ?_ (by assumption)))))).mono ?_
  rintro e w3 ⟨rfl, hb3⟩
  obtain ⟨hc3, hf3⟩ := bcell hb3
  have hz3 := hb3.size
  try simp at hz3
  have hl3w2 : w2.heap.size < w3.heap.size := by omega
  have hm3w2 : w2.heap.size ≤ w3.heap.size := by omega
  have g3x0 : w3.cell? ⟨w2.heap.size, 0, none⟩ = some (.int .i64 0) := (hc3 _ _ (by first | omega | (simp; done) | (simp; omega))).trans (by first | assumption | simp [go_sem] | simp [go_sem, *])
  have g3x1 : w3.cell? ⟨w2.heap.size, 1, none⟩ = some (.int .i64 0) := (hc3 _ _ (by first | omega | (simp; done) | (simp; omega))).trans (by first | assumption | simp [go_sem] | simp [go_sem, *])
  have g3x2 : w3.cell? ⟨w2.heap.size, 2, none⟩ = some (.int .i64 0) := (hc3 _ _ (by first | omega | (simp; done) | (simp; omega))).trans (by first | assumption | simp [go_sem] | simp [go_sem, *])
  go_wp2_with fail
  refine (HLa.out _).mono ?_
  rintro e w4 ⟨rfl, hb4⟩
  obtain ⟨hc4, hf4⟩ := bcell hb4
  have hz4 := hb4.size
  try simp at hz4
  go_wp2_with fail
  go_ret
  refine ⟨rfl, ?_⟩
  repeat (first | (with_reducible exact Below.refl _ _) | assumption | (with_reducible refine bdrew ?_) | (with_reducible refine baa ?_ _) | (with_reducible refine bs ?_ (by first | exact Nat.le_refl _ | omega | (simp; omega)) _) | (with_reducible refine bt ?_ (by assumption)))
set_option maxHeartbeats 2000000 in
theorem GregBack_out_atn (y n d : Int) (D : Int) (w : World) (hG : Tab w 0 Gr.gregCells) (he : ¬ Gr.gtE y n d = 0) (ry rm rd : Int) (hv : Gr.Valid ry rm rd) (hD : D = Gr.dayOf ry rm rd) (b1 : -1373427 ≤ D) (b2 : D ≤ 2278650) (z k f : Int) (hw : Gr.Valid z k f) (hE : Gr.dayOf z k f = D + 1) (c1 : D + 1 ≤ 2278650) :
    Calls Tryd.prog 4 #[.agg #[.int .i64 y, .int .i64 n, .int .i64 d], .int .i64 D] w fun e w' => e = .returned (.bool true) ∧ Below w.heap.size w w' := by
  have HT1 := Lib.hid (fun w hG => greg_ToDay y n d w hG)
  generalize Gr.gtE y n d = v2 at *
  have he2 : (v2 == 0) = false := by simpa using he
  generalize Gr.gtV y n d = v1 at *
  subst hD
  have HLs := Lib.hid (fun w => greg_Less ry rm rd z k f w)
  rw [Gr.less_next hv hw hE] at HLs
  have HF2 := Lib.hid (fun w hG => greg_FromDay_v z k f w hG hw (by omega) (by omega))
  rw [hE] at HF2
  clear hE hw
  obtain ⟨x1, x2⟩ := Gr.gt_valid hv b1 b2
  have HT2 := Lib.hid (fun w hG => greg_ToDay ry rm rd w hG)
  rw [x1, x2] at HT2
  clear x1 x2
  have HF1 := Lib.hid (fun w hG => greg_FromDay_v ry rm rd w hG hv b1 b2)
  clear hv
  generalize Gr.dayOf ry rm rd = D at *
  go_enter Tryd.func4, Tryd.ntmps4
  go_wp2_with fail
  refine (HT1.out _ (Tab.below hG (by repeat (first | (with_reducible exact Below.refl _ _) | assumption | (with_reducible refine bdrew ?_) | (with_reducible refine baa ?_ _) | (with_reducible refine bs ?_ (by first | exact Nat.le_refl _ | omega | (simp; omega)) _) | (with_reducible refine bt ?_ (by assumption)))))).mono ?_
  rintro e w1 ⟨rfl, hb1⟩
  obtain ⟨hc1, hf1⟩ := bcell hb1
  have hz1 := hb1.size
  try simp at hz1
  have hs1x0 : w.heap.size < w1.heap.size := by omega
  have g1x0 : w1.cell? ⟨w.heap.size, 0, none⟩ = some (.int .i64 y) := (hc1 _ _ (by first | omega | (simp; done) | (simp; omega))).trans (by first | assumption | simp [go_sem] | simp [go_sem, *])
  have g1x1 : w1.cell? ⟨w.heap.size, 1, none⟩ = some (.int .i64 n) := (hc1 _ _ (by first | omega | (simp; done) | (simp; omega))).trans (by first | assumption | simp [go_sem] | simp [go_sem, *])
  have g1x2 : w1.cell? ⟨w.heap.size, 2, none⟩ = some (.int .i64 d) := (hc1 _ _ (by first | omega | (simp; done) | (simp; omega))).trans (by first | assumption | simp [go_sem] | simp [go_sem, *])
  go_wp2_with fail
  refine (HF1.out _ (Tab.below hG (by repeat (first | (with_reducible exact Below.refl _ _) | assumption | (with_reducible refine bdrew ?_) | (with_reducible refine baa ?_ _) | (with_reducible refine bs ?_ (by first | exact Nat.le_refl _ | omega | (simp; omega)) _) | (with_reducible refine bt ?_ (by assumption)))))).mono ?_
  rintro e w2 ⟨rfl, hb2⟩
  obtain ⟨hc2, hf2⟩ := bcell hb2
  have hz2 := hb2.size
  try simp at hz2
  have hs2x0 : w.heap.size < w2.heap.size := by omega
  have g2x0 : w2.cell? ⟨w.heap.size, 0, none⟩ = some (.int .i64 y) := (hc2 _ _ (by first | omega | (simp; done) | (simp; omega))).trans (by first | assumption | simp [go_sem] | simp [go_sem, *])
  have g2x1 : w2.cell? ⟨w.heap.size, 1, none⟩ = some (.int .i64 n) := (hc2 _ _ (by first | omega | (simp; done) | (simp; omega))).trans (by first | assumption | simp [go_sem] | simp [go_sem, *])
  have g2x2 : w2.cell? ⟨w.heap.size, 2, none⟩ = some (.int .i64 d) := (hc2 _ _ (by first | omega | (simp; done) | (simp; omega))).trans (by first | assumption | simp [go_sem] | simp [go_sem, *])
  go_wp2_with fail
  refine (HT2.out _ (Tab.below hG (by repeat (first | (with_reducible exact Below.refl _ _) | assumption | (with_reducible refine bdrew ?_) | (with_reducible refine baa ?_ _) | (with_reducible refine bs ?_ (by first | exact Nat.le_refl _ | omega | (simp; omega)) _) | (with_reducible refine bt ?_ (by assumption)))))).mono ?_
  rintro e w3 ⟨rfl, hb3⟩
  obtain ⟨hc3, hf3⟩ := bcell hb3
  have hz3 := hb3.size
  try simp at hz3
  have hl3w2 : w2.heap.size < w3.heap.size := by omega
  have hm3w2 : w2.heap.size ≤ w3.heap.size := by omega
  have g3x0 : w3.cell? ⟨w2.heap.size, 0, none⟩ = some (.int .i64 ry) := (hc3 _ _ (by first | omega | (simp; done) | (simp; omega))).trans (by first | assumption | simp [go_sem] | simp [go_sem, *])
  have g3x1 : w3.cell? ⟨w2.heap.size, 1, none⟩ = some (.int .i64 rm) := (hc3 _ _ (by first | omega | (simp; done) | (simp; omega))).trans (by first | assumption | simp [go_sem] | simp [go_sem, *])
  have g3x2 : w3.cell? ⟨w2.heap.size, 2, none⟩ = some (.int .i64 rd) := (hc3 _ _ (by first | omega | (simp; done) | (simp; omega))).trans (by first | assumption | simp [go_sem] | simp [go_sem, *])
  go_wp2_with fail
  refine (HF2.out _ (Tab.below hG (by repeat (first | (with_reducible exact Below.refl _ _) | assumption | (with_reducible refine bdrew ?_) | (with_reducible refine baa ?_ _) | (with_reducible refine bs ?_ (by first | exact Nat.le_refl _ | omega | (simp; omega)) _) | (with_reducible refine bt ?_ (by assumption)))))).mono ?_
  rintro e w4 ⟨rfl, hb4⟩
  obtain ⟨hc4, hf4⟩ := bcell hb4
  have hz4 := hb4.size
  try simp at hz4
  have hl4w2 : w2.heap.size < w4.heap.size := by omega
  have hm4w2 : w2.heap.size ≤ w4.heap.size := by omega
  have g4x0 : w4.cell? ⟨w2.heap.size, 0, none⟩ = some (.int .i64 ry) := (hc4 _ _ (by first | omega | (simp; done) | (simp; omega))).trans (by first | assumption | simp [go_sem] | simp [go_sem, *])
  have g4x1 : w4.cell? ⟨w2.heap.size, 1, none⟩ = some (.int .i64 rm) := (hc4 _ _ (by first | omega | (simp; done) | (simp; omega))).trans (by first | assumption | simp [go_sem] | simp [go_sem, *])
  have g4x2 : w4.cell? ⟨w2.heap.size, 2, none⟩ = some (.int .i64 rd) := (hc4 _ _ (by first | omega | (simp; done) | (simp; omega))).trans (by first | assumption | simp [go_sem] | simp [go_sem, *])
  go_wp2_with fail
  refine (awake11 _ (Tab.below hG (by repeat (first | (with_reducible exact Below.refl _ _) | assumption | (with_reducible refine bdrew ?_) | (with_reducible refine baa ?_ _) | (with_reducible refine bs ?_ (by first | exact Nat.le_refl _ | omega | (simp; omega)) _) | (with_reducible refine bt ?_ (by assumption)))))).mono ?_
  rintro e w5 ⟨rfl, hb5⟩
  obtain ⟨hc5, hf5⟩ := bcell hb5
  have hz5 := hb5.size
  try simp at hz5
  have hl5w2 : w2.heap.size < w5.heap.size := by omega
  have hm5w2 : w2.heap.size ≤ w5.heap.size := by omega
  have hl5w4 : w4.heap.size < w5.heap.size := by omega
  have hm5w4 : w4.heap.size ≤ w5.heap.size := by omega
  have g5x0 : w5.cell? ⟨w2.heap.size, 0, none⟩ = some (.int .i64 ry) := (hc5 _ _ (by first | omega | (simp; done) | (simp; omega))).trans (by first | assumption | simp [go_sem] | simp [go_sem, *])
  have g5x1 : w5.cell? ⟨w2.heap.size, 1, none⟩ = some (.int .i64 rm) := (hc5 _ _ (by first | omega | (simp; done) | (simp; omega))).trans (by first | assumption | simp [go_sem] | simp [go_sem, *])
  have g5x2 : w5.cell? ⟨w2.heap.size, 2, none⟩ = some (.int .i64 rd) := (hc5 _ _ (by first | omega | (simp; done) | (simp; omega))).trans (by first | assumption | simp [go_sem] | simp [go_sem, *])
  have g5x3 : w5.cell? ⟨w4.heap.size, 0, none⟩ = some (.int .i64 z) := (hc5 _ _ (by first | omega | (simp; done) | (simp; omega))).trans (by first | assumption | simp [go_sem] | simp [go_sem, *])
  have g5x4 : w5.cell? ⟨w4.heap.size, 1, none⟩ = some (.int .i64 k) := (hc5 _ _ (by first | omega | (simp; done) | (simp; omega))).trans (by first | assumption | simp [go_sem] | simp [go_sem, *])
  have g5x5 : w5.cell? ⟨w4.heap.size, 2, none⟩ = some (.int .i64 f) := (hc5 _ _ (by first | omega | (simp; done) | (simp; omega))).trans (by first | assumption | simp [go_sem] | simp [go_sem, *])
  go_wp2_with fail
  refine (HLs.out _).mono ?_
  rintro e w6 ⟨rfl, hb6⟩
  obtain ⟨hc6, hf6⟩ := bcell hb6
  have hz6 := hb6.size
  try simp at hz6
  have hl6w2 : w2.heap.size < w6.heap.size := by omega
  have hm6w2 : w2.heap.size ≤ w6.heap.size := by omega
  have hl6w4 : w4.heap.size < w6.heap.size := by omega
  have hm6w4 : w4.heap.size ≤ w6.heap.size := by omega
  have g6x0 : w6.cell? ⟨w2.heap.size, 0, none⟩ = some (.int .i64 ry) := (hc6 _ _ (by first | omega | (simp; done) | (simp; omega))).trans (by first | assumption | simp [go_sem] | simp [go_sem, *])
  have g6x1 : w6.cell? ⟨w2.heap.size, 1, none⟩ = some (.int .i64 rm) := (hc6 _ _ (by first | omega | (simp; done) | (simp; omega))).trans (by first | assumption | simp [go_sem] | simp [go_sem, *])
  have g6x2 : w6.cell? ⟨w2.heap.size, 2, none⟩ = some (.int .i64 rd) := (hc6 _ _ (by first | omega | (simp; done) | (simp; omega))).trans (by first | assumption | simp [go_sem] | simp [go_sem, *])
  have g6x3 : w6.cell? ⟨w4.heap.size, 0, none⟩ = some (.int .i64 z) := (hc6 _ _ (by first | omega | (simp; done) | (simp; omega))).trans (by first | assumption | simp [go_sem] | simp [go_sem, *])
  have g6x4 : w6.cell? ⟨w4.heap.size, 1, none⟩ = some (.int .i64 k) := (hc6 _ _ (by first | omega | (simp; done) | (simp; omega))).trans (by first | assumption | simp [go_sem] | simp [go_sem, *])
  have g6x5 : w6.cell? ⟨w4.heap.size, 2, none⟩ = some (.int .i64 f) := (hc6 _ _ (by first | omega | (simp; done) | (simp; omega))).trans (by first | assumption | simp [go_sem] | simp [go_sem, *])
  go_wp2_with fail
  go_ret
  refine ⟨rfl, ?_⟩
  repeat (first | (with_reducible exact Below.refl _ _) | assumption | (with_reducible refine bdrew ?_) | (with_reducible refine baa ?_ _) | (with_reducible refine bs ?_ (by first | exact Nat.le_refl _ | omega | (simp; omega)) _) | (with_reducible refine bt ?_ (by assumption)))
set_option maxHeartbeats 2000000 in
theorem GregBack_out_ate (y n d : Int) (D : Int) (w : World) (hG : Tab w 0 Gr.gregCells) (he : ¬ Gr.gtE y n d = 0) (ry rm rd : Int) (hv : Gr.Valid ry rm rd) (hD : D = Gr.dayOf ry rm rd) (b1 : -1373427 ≤ D) (b2 : D ≤ 2278650) (c1 : 2278650 < D + 1) :
    Calls Tryd.prog 4 #[.agg #[.int .i64 y, .int .i64 n, .int .i64 d], .int .i64 D] w fun e w' => e = .returned (.bool true) ∧ Below w.heap.size w w' := by
  have HT1 := Lib.hid (fun w hG => greg_ToDay y n d w hG)
  generalize Gr.gtE y n d = v2 at *
  have he2 : (v2 == 0) = false := by simpa using he
  generalize Gr.gtV y n d = v1 at *
  subst hD
  have HF2 := Lib.hid (fun w => greg_FromDay_no (Gr.dayOf ry rm rd + 1) w (by omega))
  obtain ⟨x1, x2⟩ := Gr.gt_valid hv b1 b2
  have HT2 := Lib.hid (fun w hG => greg_ToDay ry rm rd w hG)
  rw [x1, x2] at HT2
  clear x1 x2
  have HF1 := Lib.hid (fun w hG => greg_FromDay_v ry rm rd w hG hv b1 b2)
  clear hv
  generalize Gr.dayOf ry rm rd = D at *
  go_enter Tryd.func4, Tryd.ntmps4
  go_wp2_with fail
  refine (HT1.out _ (Tab.below hG (by repeat (first | (with_reducible exact Below.refl _ _) | assumption | (with_reducible refine bdrew ?_) | (with_reducible refine baa ?_ _) | (with_reducible refine bs ?_ (by first | exact Nat.le_refl _ | omega | (simp; omega)) _) | (with_reducible refine bt ?_ (by assumption)))))).mono ?_
  rintro e w1 ⟨rfl, hb1⟩
  obtain ⟨hc1, hf1⟩ := bcell hb1
  have hz1 := hb1.size
  try simp at hz1
  have hs1x0 : w.heap.size < w1.heap.size := by omega
  have g1x0 : w1.cell? ⟨w.heap.size, 0, none⟩ = some (.int .i64 y) := (hc1 _ _ (by first | omega | (simp; done) | (simp; omega))).trans (by first | assumption | simp [go_sem] | simp [go_sem, *])
  have g1x1 : w1.cell? ⟨w.heap.size, 1, none⟩ = some (.int .i64 n) := (hc1 _ _ (by first | omega | (simp; done) | (simp; omega))).trans (by first | assumption | simp [go_sem] | simp [go_sem, *])
  have g1x2 : w1.cell? ⟨w.heap.size, 2, none⟩ = some (.int .i64 d) := (hc1 _ _ (by first | omega | (simp; done) | (simp; omega))).trans (by first | assumption | simp [go_sem] | simp [go_sem, *])
  go_wp2_with fail
  refine (HF1.out _ (Tab.below hG (by repeat (first | (with_reducible exact Below.refl _ _) | assumption | (with_reducible refine bdrew ?_) | (with_reducible refine baa ?_ _) | (with_reducible refine bs ?_ (by first | exact Nat.le_refl _ | omega | (simp; omega)) _) | (with_reducible refine bt ?_ (by assumption)))))).mono ?_
  rintro e w2 ⟨rfl, hb2⟩
  obtain ⟨hc2, hf2⟩ := bcell hb2
  have hz2 := hb2.size
  try simp at hz2
  have hs2x0 : w.heap.size < w2.heap.size := by omega
  have g2x0 : w2.cell? ⟨w.heap.size, 0, none⟩ = some (.int .i64 y) := (hc2 _ _ (by first | omega | (simp; done) | (simp; omega))).trans (by first | assumption | simp [go_sem] | simp [go_sem, *])
  have g2x1 : w2.cell? ⟨w.heap.size, 1, none⟩ = some (.int .i64 n) := (hc2 _ _ (by first | omega | (simp; done) | (simp; omega))).trans (by first | assumption | simp [go_sem] | simp [go_sem, *])
  have g2x2 : w2.cell? ⟨w.heap.size, 2, none⟩ = some (.int .i64 d) := (hc2 _ _ (by first | omega | (simp; done) | (simp; omega))).trans (by first | assumption | simp [go_sem] | simp [go_sem, *])
  go_wp2_with fail
  refine (HT2.out _ (Tab.below hG (by repeat (first | (with_reducible exact Below.refl _ _) | assumption | (with_reducible refine bdrew ?_) | (with_reducible refine baa ?_ _) | (with_reducible refine bs ?_ (by first | exact Nat.le_refl _ | omega | (simp; omega)) _) | (with_reducible refine bt ?_ (by assumption)))))).mono ?_
  rintro e w3 ⟨rfl, hb3⟩
  obtain ⟨hc3, hf3⟩ := bcell hb3
  have hz3 := hb3.size
  try simp at hz3
  have hl3w2 : w2.heap.size < w3.heap.size := by omega
  have hm3w2 : w2.heap.size ≤ w3.heap.size := by omega
  have g3x0 : w3.cell? ⟨w2.heap.size, 0, none⟩ = some (.int .i64 ry) := (hc3 _ _ (by first | omega | (simp; done) | (simp; omega))).trans (by first | assumption | simp [go_sem] | simp [go_sem, *])
  have g3x1 : w3.cell? ⟨w2.heap.size, 1, none⟩ = some (.int .i64 rm) := (hc3 _ _ (by first | omega | (simp; done) | (simp; omega))).trans (by first | assumption | simp [go_sem] | simp [go_sem, *])
  have g3x2 : w3.cell? ⟨w2.heap.size, 2, none⟩ = some (.int .i64 rd) := (hc3 _ _ (by first | omega | (simp; done) | (simp; omega))).trans (by first | assumption | simp [go_sem] | simp [go_sem, *])
  go_wp2_with fail
  refine (HF2.out _).mono ?_
  rintro e w4 ⟨rfl, hb4⟩
  obtain ⟨hc4, hf4⟩ := bcell hb4
  have hz4 := hb4.size
  try simp at hz4
  have hl4w2 : w2.heap.size < w4.heap.size := by omega
  have hm4w2 : w2.heap.size ≤ w4.heap.size := by omega
  have g4x0 : w4.cell? ⟨w2.heap.size, 0, none⟩ = some (.int .i64 ry) := (hc4 _ _ (by first | omega | (simp; done) | (simp; omega))).trans (by first | assumption | simp [go_sem] | simp [go_sem, *])
  have g4x1 : w4.cell? ⟨w2.heap.size, 1, none⟩ = some (.int .i64 rm) := (hc4 _ _ (by first | omega | (simp; done) | (simp; omega))).trans (by first | assumption | simp [go_sem] | simp [go_sem, *])
  have g4x2 : w4.cell? ⟨w2.heap.size, 2, none⟩ = some (.int .i64 rd) := (hc4 _ _ (by first | omega | (simp; done) | (simp; omega))).trans (by first | assumption | simp [go_sem] | simp [go_sem, *])
  go_wp2_with fail
  refine (awake11 _ (Tab.below hG (by repeat (first | (with_reducible exact Below.refl _ _) | assumption | (with_reducible refine bdrew ?_) | (with_reducible refine baa ?_ _) | (with_reducible refine bs ?_ (by first | exact Nat.le_refl _ | omega | (simp; omega)) _) | (with_reducible refine bt ?_ (by assumption)))))).mono ?_
  rintro e w5 ⟨rfl, hb5⟩
  obtain ⟨hc5, hf5⟩ := bcell hb5
  have hz5 := hb5.size
  try simp at hz5
  have hl5w2 : w2.heap.size < w5.heap.size := by omega
  have hm5w2 : w2.heap.size ≤ w5.heap.size := by omega
  have hl5w4 : w4.heap.size < w5.heap.size := by omega
  have hm5w4 : w4.heap.size ≤ w5.heap.size := by omega
  have g5x0 : w5.cell? ⟨w2.heap.size, 0, none⟩ = some (.int .i64 ry) := (hc5 _ _ (by first | omega | (simp; done) | (simp; omega))).trans (by first | assumption | simp [go_sem] | simp [go_sem, *])
  have g5x1 : w5.cell? ⟨w2.heap.size, 1, none⟩ = some (.int .i64 rm) := (hc5 _ _ (by first | omega | (simp; done) | (simp; omega))).trans (by first | assumption | simp [go_sem] | simp [go_sem, *])
  have g5x2 : w5.cell? ⟨w2.heap.size, 2, none⟩ = some (.int .i64 rd) := (hc5 _ _ (by first | omega | (simp; done) | (simp; omega))).trans (by first | assumption | simp [go_sem] | simp [go_sem, *])
  have g5x3 : w5.cell? ⟨w4.heap.size, 0, none⟩ = some (.int .i64 0) := (hc5 _ _ (by first | omega | (simp; done) | (simp; omega))).trans (by first | assumption | simp [go_sem] | simp [go_sem, *])
  have g5x4 : w5.cell? ⟨w4.heap.size, 1, none⟩ = some (.int .i64 0) := (hc5 _ _ (by first | omega | (simp; done) | (simp; omega))).trans (by first | assumption | simp [go_sem] | simp [go_sem, *])
  have g5x5 : w5.cell? ⟨w4.heap.size, 2, none⟩ = some (.int .i64 0) := (hc5 _ _ (by first | omega | (simp; done) | (simp; omega))).trans (by first | assumption | simp [go_sem] | simp [go_sem, *])
  go_wp2_with fail
  go_ret
  refine ⟨rfl, ?_⟩
  repeat (first | (with_reducible exact Below.refl _ _) | assumption | (with_reducible refine bdrew ?_) | (with_reducible refine baa ?_ _) | (with_reducible refine bs ?_ (by first | exact Nat.le_refl _ | omega | (simp; omega)) _) | (with_reducible refine bt ?_ (by assumption)))
theorem GregBack_walk (y n d : Int) (D : Int) (hy : I64 y) (hn : I64 n) (hd : I64 d) (hD : I64 D) (w : World) (hG : Tab w 0 Gr.gregCells) :
    Calls Tryd.prog 4 #[.agg #[.int .i64 y, .int .i64 n, .int .i64 d], .int .i64 D] w fun e w' => e = .returned (.bool true) ∧ Below w.heap.size w w' := by
  by_cases c1 : D < -1373427
  · by_cases he : Gr.gtE y n d = 0
    · exact GregBack_in_no1 y n d D w hG he c1
    · exact GregBack_out_no1 y n d D w hG he c1
  by_cases c2 : 2278650 < D
  · by_cases he : Gr.gtE y n d = 0
    · exact GregBack_in_no2 y n d D w hG he (by omega) c2
    · exact GregBack_out_no2 y n d D w hG he (by omega) c2
  obtain ⟨a, b, c', hv, e⟩ := Gr.day_there D
  by_cases c3 : 2278650 < D + 1
  · by_cases he : Gr.gtE y n d = 0
    · exact GregBack_in_ate y n d D w hG he a b c' hv e (by omega) (by omega) c3
    · exact GregBack_out_ate y n d D w hG he a b c' hv e (by omega) (by omega) c3
  · obtain ⟨z, k, f, hw, e2⟩ := Gr.day_there (D + 1)
    by_cases he : Gr.gtE y n d = 0
    · exact GregBack_in_atn y n d D w hG he a b c' hv e (by omega) (by omega) z k f hw e2.symm (by omega)
    · exact GregBack_out_atn y n d D w hG he a b c' hv e (by omega) (by omega) z k f hw e2.symm (by omega)
end Go.Proofs.YtncckpfenjokmaaDoor
