/- Layer 13: its laws. -/
import Derived.Test.YtmiadhiomingmaaDoorText5
import Derived.Test.YtmiadhiomingmaaDoorW10
import Derived.Test.YtmiadhiomingmaaDoorA13
import Derived.Outline
namespace Go.Proofs.YtmiadhiomingmaaDoor
open Go.ChangeShapes Go.WideShapes Go.ChangeAt Go.RowKit
set_option linter.unusedVariables false
set_option maxRecDepth 100000
theorem readHeb_a (w : World) (hT : Tab w 8 kevCells) (hL : Tab w 5 lenCells) (m : Int) (hm : MaxAt w m) :
    Calls Tryd.prog 33 #[.string ⟨#[53, 55, 56, 52, 45, 109, 48, 53, 76, 45, 51, 48]⟩] w fun e w' => e = .returned (.tuple #[.agg #[.int .i64 (5784), .int .i64 (5), .bool (true), .int .i64 (30)], .int .i64 (0)]) ∧ Below w.heap.size w w' := by
  have h := text_ReadHeb ⟨#[53, 55, 56, 52, 45, 109, 48, 53, 76, 45, 51, 48]⟩ 5 true true m (by decide) w hT hL hm (.inl ⟨rfl, by decide +kernel, by decide +kernel⟩)
  rwa [show rhE ⟨#[53, 55, 56, 52, 45, 109, 48, 53, 76, 45, 51, 48]⟩ 5 true true = 0 by decide +kernel, show rhY ⟨#[53, 55, 56, 52, 45, 109, 48, 53, 76, 45, 51, 48]⟩ 5 true true = 5784 by decide +kernel, show rhN ⟨#[53, 55, 56, 52, 45, 109, 48, 53, 76, 45, 51, 48]⟩ 5 true true = 5 by decide +kernel, show rhL ⟨#[53, 55, 56, 52, 45, 109, 48, 53, 76, 45, 51, 48]⟩ 5 true true = true by decide +kernel, show rhD ⟨#[53, 55, 56, 52, 45, 109, 48, 53, 76, 45, 51, 48]⟩ 5 true true = 30 by decide +kernel] at h
theorem readCivil_a (w : World) (hG : Tab w 3 Gr.gregCells) :
    Calls Tryd.prog 34 #[.string ⟨#[45, 51, 55, 54, 48, 45, 48, 57, 45, 48, 55]⟩] w fun e w' => e = .returned (.tuple #[.agg #[.int .i64 (-3760), .int .i64 (9), .int .i64 (7)], .int .i64 (0)]) ∧ Below w.heap.size w w' := by
  have h := text_ReadCivil_kn ⟨#[45, 51, 55, 54, 48, 45, 48, 57, 45, 48, 55]⟩ (by decide) w hG (by decide +kernel) (by decide +kernel) (by decide +kernel) (by decide +kernel) (by decide +kernel) (by decide +kernel)
  rwa [show numVal (bare (cutA (cutA ⟨#[45, 51, 55, 54, 48, 45, 48, 57, 45, 48, 55]⟩))).data.toList 4 = 3760 by decide +kernel, show numVal (cutB (cutA ⟨#[45, 51, 55, 54, 48, 45, 48, 57, 45, 48, 55]⟩)).data.toList 2 = 9 by decide +kernel, show numVal (cutB ⟨#[45, 51, 55, 54, 48, 45, 48, 57, 45, 48, 55]⟩).data.toList 2 = 7 by decide +kernel] at h
theorem heb_a (w : World) (hT : Tab w 8 kevCells) (hL : Tab w 5 lenCells) (hP : Tab w 1 powCells) :
    Calls Tryd.prog 12 #[.agg #[.int .i64 (5784), .int .i64 (5), .bool (true), .int .i64 (30)]] w fun e w' => e = .returned (.tuple #[.string ⟨#[53, 55, 56, 52, 45, 77, 48, 53, 76, 45, 51, 48]⟩, .int .i64 0]) ∧ Below w.heap.size w w' := by
  have h := text_Heb 5784 5 true 30 w ⟨by omega, by omega⟩ hT hL hP
  rwa [show D10.dateE 5784 5 true 30 = 0 by decide +kernel, show hebV 5784 5 true 30 = ⟨#[53, 55, 56, 52, 45, 77, 48, 53, 76, 45, 51, 48]⟩ by decide +kernel] at h
set_option maxHeartbeats 2000000 in
theorem awake13 (w : World) (hT : Tab w 8 kevCells) (hL : Tab w 5 lenCells) (hP : Tab w 1 powCells) (hG : Tab w 3 Gr.gregCells) (m : Int) (hm : MaxAt w m) : Calls Tryd.prog 13 #[] w fun e w' => e = .returned (.bool true) ∧ Below w.heap.size w w' := by
  go_enter Tryd.func13, Tryd.ntmps13
  go_wp2_with fail
  refine (readHeb_a _ (Tab.below hT (by repeat (first | (with_reducible exact Below.refl _ _) | (with_reducible assumption) | (with_reducible refine bdrew ?_) | (with_reducible refine baa ?_ _) | (with_reducible refine bs ?_ (by first | exact Nat.le_refl _ | omega | (simp; done) | (simp; omega)) _) | (with_reducible refine bt ?_ (by with_reducible assumption))))) (Tab.below hL (by repeat (first | (with_reducible exact Below.refl _ _) | (with_reducible assumption) | (with_reducible refine bdrew ?_) | (with_reducible refine baa ?_ _) | (with_reducible refine bs ?_ (by first | exact Nat.le_refl _ | omega | (simp; done) | (simp; omega)) _) | (with_reducible refine bt ?_ (by with_reducible assumption))))) m (MaxAt.below hm (by repeat (first | (with_reducible exact Below.refl _ _) | (with_reducible assumption) | (with_reducible refine bdrew ?_) | (with_reducible refine baa ?_ _) | (with_reducible refine bs ?_ (by first | exact Nat.le_refl _ | omega | (simp; done) | (simp; omega)) _) | (with_reducible refine bt ?_ (by with_reducible assumption)))))).mono ?_
  rintro e w1 ⟨rfl, hb1⟩
  obtain ⟨hc1, hf1⟩ := bcell hb1
  have hz1 := hb1.size
  try simp at hz1
  go_wp2_with fail
  refine (readCivil_a _ (Tab.below hG (by repeat (first | (with_reducible exact Below.refl _ _) | (with_reducible assumption) | (with_reducible refine bdrew ?_) | (with_reducible refine baa ?_ _) | (with_reducible refine bs ?_ (by first | exact Nat.le_refl _ | omega | (simp; done) | (simp; omega)) _) | (with_reducible refine bt ?_ (by with_reducible assumption)))))).mono ?_
  rintro e w2 ⟨rfl, hb2⟩
  obtain ⟨hc2, hf2⟩ := bcell hb2
  have hz2 := hb2.size
  try simp at hz2
  have hl2w1 : w1.heap.size < w2.heap.size := by omega
  have hm2w1 : w1.heap.size ≤ w2.heap.size := by omega
  have g2x0 : w2.cell? ⟨w1.heap.size, 0, none⟩ = some (.int .i64 (5784)) := (hc2 _ _ (by first | omega | (simp; done) | (simp; omega))).trans (by first | (with_reducible assumption) | (simp [go_sem]; done) | (simp [go_sem, *]; done) | assumption)
  have g2x1 : w2.cell? ⟨w1.heap.size, 1, none⟩ = some (.int .i64 (5)) := (hc2 _ _ (by first | omega | (simp; done) | (simp; omega))).trans (by first | (with_reducible assumption) | (simp [go_sem]; done) | (simp [go_sem, *]; done) | assumption)
  have g2x2 : w2.cell? ⟨w1.heap.size, 2, none⟩ = some (.bool (true)) := (hc2 _ _ (by first | omega | (simp; done) | (simp; omega))).trans (by first | (with_reducible assumption) | (simp [go_sem]; done) | (simp [go_sem, *]; done) | assumption)
  have g2x3 : w2.cell? ⟨w1.heap.size, 3, none⟩ = some (.int .i64 (30)) := (hc2 _ _ (by first | omega | (simp; done) | (simp; omega))).trans (by first | (with_reducible assumption) | (simp [go_sem]; done) | (simp [go_sem, *]; done) | assumption)
  go_wp2_with fail
  refine (heb_a _ (Tab.below hT (by repeat (first | (with_reducible exact Below.refl _ _) | (with_reducible assumption) | (with_reducible refine bdrew ?_) | (with_reducible refine baa ?_ _) | (with_reducible refine bs ?_ (by first | exact Nat.le_refl _ | omega | (simp; done) | (simp; omega)) _) | (with_reducible refine bt ?_ (by with_reducible assumption))))) (Tab.below hL (by repeat (first | (with_reducible exact Below.refl _ _) | (with_reducible assumption) | (with_reducible refine bdrew ?_) | (with_reducible refine baa ?_ _) | (with_reducible refine bs ?_ (by first | exact Nat.le_refl _ | omega | (simp; done) | (simp; omega)) _) | (with_reducible refine bt ?_ (by with_reducible assumption))))) (Tab.below hP (by repeat (first | (with_reducible exact Below.refl _ _) | (with_reducible assumption) | (with_reducible refine bdrew ?_) | (with_reducible refine baa ?_ _) | (with_reducible refine bs ?_ (by first | exact Nat.le_refl _ | omega | (simp; done) | (simp; omega)) _) | (with_reducible refine bt ?_ (by with_reducible assumption)))))).mono ?_
  rintro e w3 ⟨rfl, hb3⟩
  obtain ⟨hc3, hf3⟩ := bcell hb3
  have hz3 := hb3.size
  try simp at hz3
  have hl3w1 : w1.heap.size < w3.heap.size := by omega
  have hm3w1 : w1.heap.size ≤ w3.heap.size := by omega
  have hl3w2 : w2.heap.size < w3.heap.size := by omega
  have hm3w2 : w2.heap.size ≤ w3.heap.size := by omega
  have g3x0 : w3.cell? ⟨w1.heap.size, 0, none⟩ = some (.int .i64 (5784)) := (hc3 _ _ (by first | omega | (simp; done) | (simp; omega))).trans (by first | (with_reducible assumption) | (simp [go_sem]; done) | (simp [go_sem, *]; done) | assumption)
  have g3x1 : w3.cell? ⟨w1.heap.size, 1, none⟩ = some (.int .i64 (5)) := (hc3 _ _ (by first | omega | (simp; done) | (simp; omega))).trans (by first | (with_reducible assumption) | (simp [go_sem]; done) | (simp [go_sem, *]; done) | assumption)
  have g3x2 : w3.cell? ⟨w1.heap.size, 2, none⟩ = some (.bool (true)) := (hc3 _ _ (by first | omega | (simp; done) | (simp; omega))).trans (by first | (with_reducible assumption) | (simp [go_sem]; done) | (simp [go_sem, *]; done) | assumption)
  have g3x3 : w3.cell? ⟨w1.heap.size, 3, none⟩ = some (.int .i64 (30)) := (hc3 _ _ (by first | omega | (simp; done) | (simp; omega))).trans (by first | (with_reducible assumption) | (simp [go_sem]; done) | (simp [go_sem, *]; done) | assumption)
  have g3x4 : w3.cell? ⟨w2.heap.size, 0, none⟩ = some (.int .i64 (-3760)) := (hc3 _ _ (by first | omega | (simp; done) | (simp; omega))).trans (by first | (with_reducible assumption) | (simp [go_sem]; done) | (simp [go_sem, *]; done) | assumption)
  have g3x5 : w3.cell? ⟨w2.heap.size, 1, none⟩ = some (.int .i64 (9)) := (hc3 _ _ (by first | omega | (simp; done) | (simp; omega))).trans (by first | (with_reducible assumption) | (simp [go_sem]; done) | (simp [go_sem, *]; done) | assumption)
  have g3x6 : w3.cell? ⟨w2.heap.size, 2, none⟩ = some (.int .i64 (7)) := (hc3 _ _ (by first | omega | (simp; done) | (simp; omega))).trans (by first | (with_reducible assumption) | (simp [go_sem]; done) | (simp [go_sem, *]; done) | assumption)
  go_wp2_with fail
  go_ret
  refine ⟨by first | rfl | (simp [*]; done), ?_⟩
  repeat (first | (with_reducible exact Below.refl _ _) | (with_reducible assumption) | (with_reducible refine bdrew ?_) | (with_reducible refine baa ?_ _) | (with_reducible refine bs ?_ (by first | exact Nat.le_refl _ | omega | (simp; done) | (simp; omega)) _) | (with_reducible refine bt ?_ (by with_reducible assumption)))
set_option maxHeartbeats 4000000 in
theorem TextOrder_ea (y n : Int) (l : Bool) (d z k : Int) (h : Bool) (f : Int) (s t : ByteArray) (ea eb : Int) (w : World) (hT : Tab w 8 kevCells) (hL : Tab w 5 lenCells) (hP : Tab w 1 powCells) (hG : Tab w 3 Gr.gregCells) (m : Int) (hm : MaxAt w m) (HA : Hid (∀ w : World, Tab w 8 kevCells → Tab w 5 lenCells → Tab w 1 powCells → Calls Tryd.prog 12 #[.agg #[.int .i64 (y), .int .i64 (n), .bool (l), .int .i64 (d)]] w fun e w' => e = .returned (.tuple #[.string s, .int .i64 (ea)]) ∧ Below w.heap.size w w')) (HB : Hid (∀ w : World, Tab w 8 kevCells → Tab w 5 lenCells → Tab w 1 powCells → Calls Tryd.prog 12 #[.agg #[.int .i64 (z), .int .i64 (k), .bool (h), .int .i64 (f)]] w fun e w' => e = .returned (.tuple #[.string t, .int .i64 (eb)]) ∧ Below w.heap.size w w')) (h0 : (ea != 0) = true) :
    Calls Tryd.prog 3 #[.agg #[.int .i64 (y), .int .i64 (n), .bool (l), .int .i64 (d)], .agg #[.int .i64 (z), .int .i64 (k), .bool (h), .int .i64 (f)]] w fun e w' => e = .returned (.bool true) ∧ Below w.heap.size w w' := by
  go_enter Tryd.func3, Tryd.ntmps3
  go_wp2_with fail
  refine (HA.out _ (Tab.below hT (by repeat (first | (with_reducible exact Below.refl _ _) | (with_reducible assumption) | (with_reducible refine bdrew ?_) | (with_reducible refine baa ?_ _) | (with_reducible refine bs ?_ (by first | exact Nat.le_refl _ | omega | (simp; done) | (simp; omega)) _) | (with_reducible refine bt ?_ (by with_reducible assumption))))) (Tab.below hL (by repeat (first | (with_reducible exact Below.refl _ _) | (with_reducible assumption) | (with_reducible refine bdrew ?_) | (with_reducible refine baa ?_ _) | (with_reducible refine bs ?_ (by first | exact Nat.le_refl _ | omega | (simp; done) | (simp; omega)) _) | (with_reducible refine bt ?_ (by with_reducible assumption))))) (Tab.below hP (by repeat (first | (with_reducible exact Below.refl _ _) | (with_reducible assumption) | (with_reducible refine bdrew ?_) | (with_reducible refine baa ?_ _) | (with_reducible refine bs ?_ (by first | exact Nat.le_refl _ | omega | (simp; done) | (simp; omega)) _) | (with_reducible refine bt ?_ (by with_reducible assumption)))))).mono ?_
  rintro e w1 ⟨rfl, hb1⟩
  obtain ⟨hc1, hf1⟩ := bcell hb1
  have hz1 := hb1.size
  try simp at hz1
  have hl1w : w.heap.size < w1.heap.size := by omega
  have hm1w : w.heap.size ≤ w1.heap.size := by omega
  have hs1x1 : (w.heap.size + 1) < w1.heap.size := by omega
  have g1x0 : w1.cell? ⟨w.heap.size, 0, none⟩ = some (.int .i64 (y)) := (hc1 _ _ (by first | omega | (simp; done) | (simp; omega))).trans (by first | (with_reducible assumption) | (simp [go_sem]; done) | (simp [go_sem, *]; done) | assumption)
  have g1x1 : w1.cell? ⟨w.heap.size, 1, none⟩ = some (.int .i64 (n)) := (hc1 _ _ (by first | omega | (simp; done) | (simp; omega))).trans (by first | (with_reducible assumption) | (simp [go_sem]; done) | (simp [go_sem, *]; done) | assumption)
  have g1x2 : w1.cell? ⟨w.heap.size, 2, none⟩ = some (.bool (l)) := (hc1 _ _ (by first | omega | (simp; done) | (simp; omega))).trans (by first | (with_reducible assumption) | (simp [go_sem]; done) | (simp [go_sem, *]; done) | assumption)
  have g1x3 : w1.cell? ⟨w.heap.size, 3, none⟩ = some (.int .i64 (d)) := (hc1 _ _ (by first | omega | (simp; done) | (simp; omega))).trans (by first | (with_reducible assumption) | (simp [go_sem]; done) | (simp [go_sem, *]; done) | assumption)
  have g1x4 : w1.cell? ⟨(w.heap.size + 1), 0, none⟩ = some (.int .i64 (z)) := (hc1 _ _ (by first | omega | (simp; done) | (simp; omega))).trans (by first | (with_reducible assumption) | (simp [go_sem]; done) | (simp [go_sem, *]; done) | assumption)
  have g1x5 : w1.cell? ⟨(w.heap.size + 1), 1, none⟩ = some (.int .i64 (k)) := (hc1 _ _ (by first | omega | (simp; done) | (simp; omega))).trans (by first | (with_reducible assumption) | (simp [go_sem]; done) | (simp [go_sem, *]; done) | assumption)
  have g1x6 : w1.cell? ⟨(w.heap.size + 1), 2, none⟩ = some (.bool (h)) := (hc1 _ _ (by first | omega | (simp; done) | (simp; omega))).trans (by first | (with_reducible assumption) | (simp [go_sem]; done) | (simp [go_sem, *]; done) | assumption)
  have g1x7 : w1.cell? ⟨(w.heap.size + 1), 3, none⟩ = some (.int .i64 (f)) := (hc1 _ _ (by first | omega | (simp; done) | (simp; omega))).trans (by first | (with_reducible assumption) | (simp [go_sem]; done) | (simp [go_sem, *]; done) | assumption)
  go_wp2_with fail
  refine (HB.out _ (Tab.below hT (by repeat (first | (with_reducible exact Below.refl _ _) | (with_reducible assumption) | (with_reducible refine bdrew ?_) | (with_reducible refine baa ?_ _) | (with_reducible refine bs ?_ (by first | exact Nat.le_refl _ | omega | (simp; done) | (simp; omega)) _) | (with_reducible refine bt ?_ (by with_reducible assumption))))) (Tab.below hL (by repeat (first | (with_reducible exact Below.refl _ _) | (with_reducible assumption) | (with_reducible refine bdrew ?_) | (with_reducible refine baa ?_ _) | (with_reducible refine bs ?_ (by first | exact Nat.le_refl _ | omega | (simp; done) | (simp; omega)) _) | (with_reducible refine bt ?_ (by with_reducible assumption))))) (Tab.below hP (by repeat (first | (with_reducible exact Below.refl _ _) | (with_reducible assumption) | (with_reducible refine bdrew ?_) | (with_reducible refine baa ?_ _) | (with_reducible refine bs ?_ (by first | exact Nat.le_refl _ | omega | (simp; done) | (simp; omega)) _) | (with_reducible refine bt ?_ (by with_reducible assumption)))))).mono ?_
  rintro e w2 ⟨rfl, hb2⟩
  obtain ⟨hc2, hf2⟩ := bcell hb2
  have hz2 := hb2.size
  try simp at hz2
  have hl2w : w.heap.size < w2.heap.size := by omega
  have hm2w : w.heap.size ≤ w2.heap.size := by omega
  have hs2x1 : (w.heap.size + 1) < w2.heap.size := by omega
  have g2x0 : w2.cell? ⟨w.heap.size, 0, none⟩ = some (.int .i64 (y)) := (hc2 _ _ (by first | omega | (simp; done) | (simp; omega))).trans (by first | (with_reducible assumption) | (simp [go_sem]; done) | (simp [go_sem, *]; done) | assumption)
  have g2x1 : w2.cell? ⟨w.heap.size, 1, none⟩ = some (.int .i64 (n)) := (hc2 _ _ (by first | omega | (simp; done) | (simp; omega))).trans (by first | (with_reducible assumption) | (simp [go_sem]; done) | (simp [go_sem, *]; done) | assumption)
  have g2x2 : w2.cell? ⟨w.heap.size, 2, none⟩ = some (.bool (l)) := (hc2 _ _ (by first | omega | (simp; done) | (simp; omega))).trans (by first | (with_reducible assumption) | (simp [go_sem]; done) | (simp [go_sem, *]; done) | assumption)
  have g2x3 : w2.cell? ⟨w.heap.size, 3, none⟩ = some (.int .i64 (d)) := (hc2 _ _ (by first | omega | (simp; done) | (simp; omega))).trans (by first | (with_reducible assumption) | (simp [go_sem]; done) | (simp [go_sem, *]; done) | assumption)
  have g2x4 : w2.cell? ⟨(w.heap.size + 1), 0, none⟩ = some (.int .i64 (z)) := (hc2 _ _ (by first | omega | (simp; done) | (simp; omega))).trans (by first | (with_reducible assumption) | (simp [go_sem]; done) | (simp [go_sem, *]; done) | assumption)
  have g2x5 : w2.cell? ⟨(w.heap.size + 1), 1, none⟩ = some (.int .i64 (k)) := (hc2 _ _ (by first | omega | (simp; done) | (simp; omega))).trans (by first | (with_reducible assumption) | (simp [go_sem]; done) | (simp [go_sem, *]; done) | assumption)
  have g2x6 : w2.cell? ⟨(w.heap.size + 1), 2, none⟩ = some (.bool (h)) := (hc2 _ _ (by first | omega | (simp; done) | (simp; omega))).trans (by first | (with_reducible assumption) | (simp [go_sem]; done) | (simp [go_sem, *]; done) | assumption)
  have g2x7 : w2.cell? ⟨(w.heap.size + 1), 3, none⟩ = some (.int .i64 (f)) := (hc2 _ _ (by first | omega | (simp; done) | (simp; omega))).trans (by first | (with_reducible assumption) | (simp [go_sem]; done) | (simp [go_sem, *]; done) | assumption)
  go_wp2_with fail
  refine (awake13 _ (Tab.below hT (by repeat (first | (with_reducible exact Below.refl _ _) | (with_reducible assumption) | (with_reducible refine bdrew ?_) | (with_reducible refine baa ?_ _) | (with_reducible refine bs ?_ (by first | exact Nat.le_refl _ | omega | (simp; done) | (simp; omega)) _) | (with_reducible refine bt ?_ (by with_reducible assumption))))) (Tab.below hL (by repeat (first | (with_reducible exact Below.refl _ _) | (with_reducible assumption) | (with_reducible refine bdrew ?_) | (with_reducible refine baa ?_ _) | (with_reducible refine bs ?_ (by first | exact Nat.le_refl _ | omega | (simp; done) | (simp; omega)) _) | (with_reducible refine bt ?_ (by with_reducible assumption))))) (Tab.below hP (by repeat (first | (with_reducible exact Below.refl _ _) | (with_reducible assumption) | (with_reducible refine bdrew ?_) | (with_reducible refine baa ?_ _) | (with_reducible refine bs ?_ (by first | exact Nat.le_refl _ | omega | (simp; done) | (simp; omega)) _) | (with_reducible refine bt ?_ (by with_reducible assumption))))) (Tab.below hG (by repeat (first | (with_reducible exact Below.refl _ _) | (with_reducible assumption) | (with_reducible refine bdrew ?_) | (with_reducible refine baa ?_ _) | (with_reducible refine bs ?_ (by first | exact Nat.le_refl _ | omega | (simp; done) | (simp; omega)) _) | (with_reducible refine bt ?_ (by with_reducible assumption))))) m (MaxAt.below hm (by repeat (first | (with_reducible exact Below.refl _ _) | (with_reducible assumption) | (with_reducible refine bdrew ?_) | (with_reducible refine baa ?_ _) | (with_reducible refine bs ?_ (by first | exact Nat.le_refl _ | omega | (simp; done) | (simp; omega)) _) | (with_reducible refine bt ?_ (by with_reducible assumption)))))).mono ?_
  rintro e w3 ⟨rfl, hb3⟩
  obtain ⟨hc3, hf3⟩ := bcell hb3
  have hz3 := hb3.size
  try simp at hz3
  go_wp2_with fail
  go_ret
  refine ⟨by first | rfl | (simp [*]; done), ?_⟩
  repeat (first | (with_reducible exact Below.refl _ _) | (with_reducible assumption) | (with_reducible refine bdrew ?_) | (with_reducible refine baa ?_ _) | (with_reducible refine bs ?_ (by first | exact Nat.le_refl _ | omega | (simp; done) | (simp; omega)) _) | (with_reducible refine bt ?_ (by with_reducible assumption)))
set_option maxHeartbeats 4000000 in
theorem TextOrder_eb (y n : Int) (l : Bool) (d z k : Int) (h : Bool) (f : Int) (s t : ByteArray) (eb : Int) (w : World) (hT : Tab w 8 kevCells) (hL : Tab w 5 lenCells) (hP : Tab w 1 powCells) (hG : Tab w 3 Gr.gregCells) (m : Int) (hm : MaxAt w m) (HA : Hid (∀ w : World, Tab w 8 kevCells → Tab w 5 lenCells → Tab w 1 powCells → Calls Tryd.prog 12 #[.agg #[.int .i64 (y), .int .i64 (n), .bool (l), .int .i64 (d)]] w fun e w' => e = .returned (.tuple #[.string s, .int .i64 (0)]) ∧ Below w.heap.size w w')) (HB : Hid (∀ w : World, Tab w 8 kevCells → Tab w 5 lenCells → Tab w 1 powCells → Calls Tryd.prog 12 #[.agg #[.int .i64 (z), .int .i64 (k), .bool (h), .int .i64 (f)]] w fun e w' => e = .returned (.tuple #[.string t, .int .i64 (eb)]) ∧ Below w.heap.size w w')) (h0 : (eb != 0) = true) :
    Calls Tryd.prog 3 #[.agg #[.int .i64 (y), .int .i64 (n), .bool (l), .int .i64 (d)], .agg #[.int .i64 (z), .int .i64 (k), .bool (h), .int .i64 (f)]] w fun e w' => e = .returned (.bool true) ∧ Below w.heap.size w w' := by
  go_enter Tryd.func3, Tryd.ntmps3
  go_wp2_with fail
  refine (HA.out _ (Tab.below hT (by repeat (first | (with_reducible exact Below.refl _ _) | (with_reducible assumption) | (with_reducible refine bdrew ?_) | (with_reducible refine baa ?_ _) | (with_reducible refine bs ?_ (by first | exact Nat.le_refl _ | omega | (simp; done) | (simp; omega)) _) | (with_reducible refine bt ?_ (by with_reducible assumption))))) (Tab.below hL (by repeat (first | (with_reducible exact Below.refl _ _) | (with_reducible assumption) | (with_reducible refine bdrew ?_) | (with_reducible refine baa ?_ _) | (with_reducible refine bs ?_ (by first | exact Nat.le_refl _ | omega | (simp; done) | (simp; omega)) _) | (with_reducible refine bt ?_ (by with_reducible assumption))))) (Tab.below hP (by repeat (first | (with_reducible exact Below.refl _ _) | (with_reducible assumption) | (with_reducible refine bdrew ?_) | (with_reducible refine baa ?_ _) | (with_reducible refine bs ?_ (by first | exact Nat.le_refl _ | omega | (simp; done) | (simp; omega)) _) | (with_reducible refine bt ?_ (by with_reducible assumption)))))).mono ?_
  rintro e w1 ⟨rfl, hb1⟩
  obtain ⟨hc1, hf1⟩ := bcell hb1
  have hz1 := hb1.size
  try simp at hz1
  have hl1w : w.heap.size < w1.heap.size := by omega
  have hm1w : w.heap.size ≤ w1.heap.size := by omega
  have hs1x1 : (w.heap.size + 1) < w1.heap.size := by omega
  have g1x0 : w1.cell? ⟨w.heap.size, 0, none⟩ = some (.int .i64 (y)) := (hc1 _ _ (by first | omega | (simp; done) | (simp; omega))).trans (by first | (with_reducible assumption) | (simp [go_sem]; done) | (simp [go_sem, *]; done) | assumption)
  have g1x1 : w1.cell? ⟨w.heap.size, 1, none⟩ = some (.int .i64 (n)) := (hc1 _ _ (by first | omega | (simp; done) | (simp; omega))).trans (by first | (with_reducible assumption) | (simp [go_sem]; done) | (simp [go_sem, *]; done) | assumption)
  have g1x2 : w1.cell? ⟨w.heap.size, 2, none⟩ = some (.bool (l)) := (hc1 _ _ (by first | omega | (simp; done) | (simp; omega))).trans (by first | (with_reducible assumption) | (simp [go_sem]; done) | (simp [go_sem, *]; done) | assumption)
  have g1x3 : w1.cell? ⟨w.heap.size, 3, none⟩ = some (.int .i64 (d)) := (hc1 _ _ (by first | omega | (simp; done) | (simp; omega))).trans (by first | (with_reducible assumption) | (simp [go_sem]; done) | (simp [go_sem, *]; done) | assumption)
  have g1x4 : w1.cell? ⟨(w.heap.size + 1), 0, none⟩ = some (.int .i64 (z)) := (hc1 _ _ (by first | omega | (simp; done) | (simp; omega))).trans (by first | (with_reducible assumption) | (simp [go_sem]; done) | (simp [go_sem, *]; done) | assumption)
  have g1x5 : w1.cell? ⟨(w.heap.size + 1), 1, none⟩ = some (.int .i64 (k)) := (hc1 _ _ (by first | omega | (simp; done) | (simp; omega))).trans (by first | (with_reducible assumption) | (simp [go_sem]; done) | (simp [go_sem, *]; done) | assumption)
  have g1x6 : w1.cell? ⟨(w.heap.size + 1), 2, none⟩ = some (.bool (h)) := (hc1 _ _ (by first | omega | (simp; done) | (simp; omega))).trans (by first | (with_reducible assumption) | (simp [go_sem]; done) | (simp [go_sem, *]; done) | assumption)
  have g1x7 : w1.cell? ⟨(w.heap.size + 1), 3, none⟩ = some (.int .i64 (f)) := (hc1 _ _ (by first | omega | (simp; done) | (simp; omega))).trans (by first | (with_reducible assumption) | (simp [go_sem]; done) | (simp [go_sem, *]; done) | assumption)
  go_wp2_with fail
  refine (HB.out _ (Tab.below hT (by repeat (first | (with_reducible exact Below.refl _ _) | (with_reducible assumption) | (with_reducible refine bdrew ?_) | (with_reducible refine baa ?_ _) | (with_reducible refine bs ?_ (by first | exact Nat.le_refl _ | omega | (simp; done) | (simp; omega)) _) | (with_reducible refine bt ?_ (by with_reducible assumption))))) (Tab.below hL (by repeat (first | (with_reducible exact Below.refl _ _) | (with_reducible assumption) | (with_reducible refine bdrew ?_) | (with_reducible refine baa ?_ _) | (with_reducible refine bs ?_ (by first | exact Nat.le_refl _ | omega | (simp; done) | (simp; omega)) _) | (with_reducible refine bt ?_ (by with_reducible assumption))))) (Tab.below hP (by repeat (first | (with_reducible exact Below.refl _ _) | (with_reducible assumption) | (with_reducible refine bdrew ?_) | (with_reducible refine baa ?_ _) | (with_reducible refine bs ?_ (by first | exact Nat.le_refl _ | omega | (simp; done) | (simp; omega)) _) | (with_reducible refine bt ?_ (by with_reducible assumption)))))).mono ?_
  rintro e w2 ⟨rfl, hb2⟩
  obtain ⟨hc2, hf2⟩ := bcell hb2
  have hz2 := hb2.size
  try simp at hz2
  have hl2w : w.heap.size < w2.heap.size := by omega
  have hm2w : w.heap.size ≤ w2.heap.size := by omega
  have hs2x1 : (w.heap.size + 1) < w2.heap.size := by omega
  have g2x0 : w2.cell? ⟨w.heap.size, 0, none⟩ = some (.int .i64 (y)) := (hc2 _ _ (by first | omega | (simp; done) | (simp; omega))).trans (by first | (with_reducible assumption) | (simp [go_sem]; done) | (simp [go_sem, *]; done) | assumption)
  have g2x1 : w2.cell? ⟨w.heap.size, 1, none⟩ = some (.int .i64 (n)) := (hc2 _ _ (by first | omega | (simp; done) | (simp; omega))).trans (by first | (with_reducible assumption) | (simp [go_sem]; done) | (simp [go_sem, *]; done) | assumption)
  have g2x2 : w2.cell? ⟨w.heap.size, 2, none⟩ = some (.bool (l)) := (hc2 _ _ (by first | omega | (simp; done) | (simp; omega))).trans (by first | (with_reducible assumption) | (simp [go_sem]; done) | (simp [go_sem, *]; done) | assumption)
  have g2x3 : w2.cell? ⟨w.heap.size, 3, none⟩ = some (.int .i64 (d)) := (hc2 _ _ (by first | omega | (simp; done) | (simp; omega))).trans (by first | (with_reducible assumption) | (simp [go_sem]; done) | (simp [go_sem, *]; done) | assumption)
  have g2x4 : w2.cell? ⟨(w.heap.size + 1), 0, none⟩ = some (.int .i64 (z)) := (hc2 _ _ (by first | omega | (simp; done) | (simp; omega))).trans (by first | (with_reducible assumption) | (simp [go_sem]; done) | (simp [go_sem, *]; done) | assumption)
  have g2x5 : w2.cell? ⟨(w.heap.size + 1), 1, none⟩ = some (.int .i64 (k)) := (hc2 _ _ (by first | omega | (simp; done) | (simp; omega))).trans (by first | (with_reducible assumption) | (simp [go_sem]; done) | (simp [go_sem, *]; done) | assumption)
  have g2x6 : w2.cell? ⟨(w.heap.size + 1), 2, none⟩ = some (.bool (h)) := (hc2 _ _ (by first | omega | (simp; done) | (simp; omega))).trans (by first | (with_reducible assumption) | (simp [go_sem]; done) | (simp [go_sem, *]; done) | assumption)
  have g2x7 : w2.cell? ⟨(w.heap.size + 1), 3, none⟩ = some (.int .i64 (f)) := (hc2 _ _ (by first | omega | (simp; done) | (simp; omega))).trans (by first | (with_reducible assumption) | (simp [go_sem]; done) | (simp [go_sem, *]; done) | assumption)
  go_wp2_with fail
  refine (awake13 _ (Tab.below hT (by repeat (first | (with_reducible exact Below.refl _ _) | (with_reducible assumption) | (with_reducible refine bdrew ?_) | (with_reducible refine baa ?_ _) | (with_reducible refine bs ?_ (by first | exact Nat.le_refl _ | omega | (simp; done) | (simp; omega)) _) | (with_reducible refine bt ?_ (by with_reducible assumption))))) (Tab.below hL (by repeat (first | (with_reducible exact Below.refl _ _) | (with_reducible assumption) | (with_reducible refine bdrew ?_) | (with_reducible refine baa ?_ _) | (with_reducible refine bs ?_ (by first | exact Nat.le_refl _ | omega | (simp; done) | (simp; omega)) _) | (with_reducible refine bt ?_ (by with_reducible assumption))))) (Tab.below hP (by repeat (first | (with_reducible exact Below.refl _ _) | (with_reducible assumption) | (with_reducible refine bdrew ?_) | (with_reducible refine baa ?_ _) | (with_reducible refine bs ?_ (by first | exact Nat.le_refl _ | omega | (simp; done) | (simp; omega)) _) | (with_reducible refine bt ?_ (by with_reducible assumption))))) (Tab.below hG (by repeat (first | (with_reducible exact Below.refl _ _) | (with_reducible assumption) | (with_reducible refine bdrew ?_) | (with_reducible refine baa ?_ _) | (with_reducible refine bs ?_ (by first | exact Nat.le_refl _ | omega | (simp; done) | (simp; omega)) _) | (with_reducible refine bt ?_ (by with_reducible assumption))))) m (MaxAt.below hm (by repeat (first | (with_reducible exact Below.refl _ _) | (with_reducible assumption) | (with_reducible refine bdrew ?_) | (with_reducible refine baa ?_ _) | (with_reducible refine bs ?_ (by first | exact Nat.le_refl _ | omega | (simp; done) | (simp; omega)) _) | (with_reducible refine bt ?_ (by with_reducible assumption)))))).mono ?_
  rintro e w3 ⟨rfl, hb3⟩
  obtain ⟨hc3, hf3⟩ := bcell hb3
  have hz3 := hb3.size
  try simp at hz3
  go_wp2_with fail
  go_ret
  refine ⟨by first | rfl | (simp [*]; done), ?_⟩
  repeat (first | (with_reducible exact Below.refl _ _) | (with_reducible assumption) | (with_reducible refine bdrew ?_) | (with_reducible refine baa ?_ _) | (with_reducible refine bs ?_ (by first | exact Nat.le_refl _ | omega | (simp; done) | (simp; omega)) _) | (with_reducible refine bt ?_ (by with_reducible assumption)))
set_option maxHeartbeats 4000000 in
theorem TextOrder_go (y n : Int) (l : Bool) (d z k : Int) (h : Bool) (f : Int) (s t : ByteArray) (b1 : Bool) (w : World) (hT : Tab w 8 kevCells) (hL : Tab w 5 lenCells) (hP : Tab w 1 powCells) (hG : Tab w 3 Gr.gregCells) (m : Int) (hm : MaxAt w m) (HA : Hid (∀ w : World, Tab w 8 kevCells → Tab w 5 lenCells → Tab w 1 powCells → Calls Tryd.prog 12 #[.agg #[.int .i64 (y), .int .i64 (n), .bool (l), .int .i64 (d)]] w fun e w' => e = .returned (.tuple #[.string s, .int .i64 (0)]) ∧ Below w.heap.size w w')) (HB : Hid (∀ w : World, Tab w 8 kevCells → Tab w 5 lenCells → Tab w 1 powCells → Calls Tryd.prog 12 #[.agg #[.int .i64 (z), .int .i64 (k), .bool (h), .int .i64 (f)]] w fun e w' => e = .returned (.tuple #[.string t, .int .i64 (0)]) ∧ Below w.heap.size w w')) (H1 : Hid (∀ w : World, Calls Tryd.prog 14 #[.agg #[.int .i64 (y), .int .i64 (n), .bool (l), .int .i64 (d)], .agg #[.int .i64 (z), .int .i64 (k), .bool (h), .int .i64 (f)]] w fun e w' => e = .returned (.bool b1) ∧ Below w.heap.size w w')) (E1 : Hid (Op.bytesLess s.toList t.toList = b1)) (E2 : Hid ((s.toList == t.toList) = decide (y = z ∧ n = k ∧ l = h ∧ d = f))) :
    Calls Tryd.prog 3 #[.agg #[.int .i64 (y), .int .i64 (n), .bool (l), .int .i64 (d)], .agg #[.int .i64 (z), .int .i64 (k), .bool (h), .int .i64 (f)]] w fun e w' => e = .returned (.bool true) ∧ Below w.heap.size w w' := by
  go_enter Tryd.func3, Tryd.ntmps3
  go_wp2_with fail
  refine (HA.out _ (Tab.below hT (by repeat (first | (with_reducible exact Below.refl _ _) | (with_reducible assumption) | (with_reducible refine bdrew ?_) | (with_reducible refine baa ?_ _) | (with_reducible refine bs ?_ (by first | exact Nat.le_refl _ | omega | (simp; done) | (simp; omega)) _) | (with_reducible refine bt ?_ (by with_reducible assumption))))) (Tab.below hL (by repeat (first | (with_reducible exact Below.refl _ _) | (with_reducible assumption) | (with_reducible refine bdrew ?_) | (with_reducible refine baa ?_ _) | (with_reducible refine bs ?_ (by first | exact Nat.le_refl _ | omega | (simp; done) | (simp; omega)) _) | (with_reducible refine bt ?_ (by with_reducible assumption))))) (Tab.below hP (by repeat (first | (with_reducible exact Below.refl _ _) | (with_reducible assumption) | (with_reducible refine bdrew ?_) | (with_reducible refine baa ?_ _) | (with_reducible refine bs ?_ (by first | exact Nat.le_refl _ | omega | (simp; done) | (simp; omega)) _) | (with_reducible refine bt ?_ (by with_reducible assumption)))))).mono ?_
  rintro e w1 ⟨rfl, hb1⟩
  obtain ⟨hc1, hf1⟩ := bcell hb1
  have hz1 := hb1.size
  try simp at hz1
  have hl1w : w.heap.size < w1.heap.size := by omega
  have hm1w : w.heap.size ≤ w1.heap.size := by omega
  have hs1x1 : (w.heap.size + 1) < w1.heap.size := by omega
  have g1x0 : w1.cell? ⟨w.heap.size, 0, none⟩ = some (.int .i64 (y)) := (hc1 _ _ (by first | omega | (simp; done) | (simp; omega))).trans (by first | (with_reducible assumption) | (simp [go_sem]; done) | (simp [go_sem, *]; done) | assumption)
  have g1x1 : w1.cell? ⟨w.heap.size, 1, none⟩ = some (.int .i64 (n)) := (hc1 _ _ (by first | omega | (simp; done) | (simp; omega))).trans (by first | (with_reducible assumption) | (simp [go_sem]; done) | (simp [go_sem, *]; done) | assumption)
  have g1x2 : w1.cell? ⟨w.heap.size, 2, none⟩ = some (.bool (l)) := (hc1 _ _ (by first | omega | (simp; done) | (simp; omega))).trans (by first | (with_reducible assumption) | (simp [go_sem]; done) | (simp [go_sem, *]; done) | assumption)
  have g1x3 : w1.cell? ⟨w.heap.size, 3, none⟩ = some (.int .i64 (d)) := (hc1 _ _ (by first | omega | (simp; done) | (simp; omega))).trans (by first | (with_reducible assumption) | (simp [go_sem]; done) | (simp [go_sem, *]; done) | assumption)
  have g1x4 : w1.cell? ⟨(w.heap.size + 1), 0, none⟩ = some (.int .i64 (z)) := (hc1 _ _ (by first | omega | (simp; done) | (simp; omega))).trans (by first | (with_reducible assumption) | (simp [go_sem]; done) | (simp [go_sem, *]; done) | assumption)
  have g1x5 : w1.cell? ⟨(w.heap.size + 1), 1, none⟩ = some (.int .i64 (k)) := (hc1 _ _ (by first | omega | (simp; done) | (simp; omega))).trans (by first | (with_reducible assumption) | (simp [go_sem]; done) | (simp [go_sem, *]; done) | assumption)
  have g1x6 : w1.cell? ⟨(w.heap.size + 1), 2, none⟩ = some (.bool (h)) := (hc1 _ _ (by first | omega | (simp; done) | (simp; omega))).trans (by first | (with_reducible assumption) | (simp [go_sem]; done) | (simp [go_sem, *]; done) | assumption)
  have g1x7 : w1.cell? ⟨(w.heap.size + 1), 3, none⟩ = some (.int .i64 (f)) := (hc1 _ _ (by first | omega | (simp; done) | (simp; omega))).trans (by first | (with_reducible assumption) | (simp [go_sem]; done) | (simp [go_sem, *]; done) | assumption)
  go_wp2_with fail
  refine (HB.out _ (Tab.below hT (by repeat (first | (with_reducible exact Below.refl _ _) | (with_reducible assumption) | (with_reducible refine bdrew ?_) | (with_reducible refine baa ?_ _) | (with_reducible refine bs ?_ (by first | exact Nat.le_refl _ | omega | (simp; done) | (simp; omega)) _) | (with_reducible refine bt ?_ (by with_reducible assumption))))) (Tab.below hL (by repeat (first | (with_reducible exact Below.refl _ _) | (with_reducible assumption) | (with_reducible refine bdrew ?_) | (with_reducible refine baa ?_ _) | (with_reducible refine bs ?_ (by first | exact Nat.le_refl _ | omega | (simp; done) | (simp; omega)) _) | (with_reducible refine bt ?_ (by with_reducible assumption))))) (Tab.below hP (by repeat (first | (with_reducible exact Below.refl _ _) | (with_reducible assumption) | (with_reducible refine bdrew ?_) | (with_reducible refine baa ?_ _) | (with_reducible refine bs ?_ (by first | exact Nat.le_refl _ | omega | (simp; done) | (simp; omega)) _) | (with_reducible refine bt ?_ (by with_reducible assumption)))))).mono ?_
  rintro e w2 ⟨rfl, hb2⟩
  obtain ⟨hc2, hf2⟩ := bcell hb2
  have hz2 := hb2.size
  try simp at hz2
  have hl2w : w.heap.size < w2.heap.size := by omega
  have hm2w : w.heap.size ≤ w2.heap.size := by omega
  have hs2x1 : (w.heap.size + 1) < w2.heap.size := by omega
  have g2x0 : w2.cell? ⟨w.heap.size, 0, none⟩ = some (.int .i64 (y)) := (hc2 _ _ (by first | omega | (simp; done) | (simp; omega))).trans (by first | (with_reducible assumption) | (simp [go_sem]; done) | (simp [go_sem, *]; done) | assumption)
  have g2x1 : w2.cell? ⟨w.heap.size, 1, none⟩ = some (.int .i64 (n)) := (hc2 _ _ (by first | omega | (simp; done) | (simp; omega))).trans (by first | (with_reducible assumption) | (simp [go_sem]; done) | (simp [go_sem, *]; done) | assumption)
  have g2x2 : w2.cell? ⟨w.heap.size, 2, none⟩ = some (.bool (l)) := (hc2 _ _ (by first | omega | (simp; done) | (simp; omega))).trans (by first | (with_reducible assumption) | (simp [go_sem]; done) | (simp [go_sem, *]; done) | assumption)
  have g2x3 : w2.cell? ⟨w.heap.size, 3, none⟩ = some (.int .i64 (d)) := (hc2 _ _ (by first | omega | (simp; done) | (simp; omega))).trans (by first | (with_reducible assumption) | (simp [go_sem]; done) | (simp [go_sem, *]; done) | assumption)
  have g2x4 : w2.cell? ⟨(w.heap.size + 1), 0, none⟩ = some (.int .i64 (z)) := (hc2 _ _ (by first | omega | (simp; done) | (simp; omega))).trans (by first | (with_reducible assumption) | (simp [go_sem]; done) | (simp [go_sem, *]; done) | assumption)
  have g2x5 : w2.cell? ⟨(w.heap.size + 1), 1, none⟩ = some (.int .i64 (k)) := (hc2 _ _ (by first | omega | (simp; done) | (simp; omega))).trans (by first | (with_reducible assumption) | (simp [go_sem]; done) | (simp [go_sem, *]; done) | assumption)
  have g2x6 : w2.cell? ⟨(w.heap.size + 1), 2, none⟩ = some (.bool (h)) := (hc2 _ _ (by first | omega | (simp; done) | (simp; omega))).trans (by first | (with_reducible assumption) | (simp [go_sem]; done) | (simp [go_sem, *]; done) | assumption)
  have g2x7 : w2.cell? ⟨(w.heap.size + 1), 3, none⟩ = some (.int .i64 (f)) := (hc2 _ _ (by first | omega | (simp; done) | (simp; omega))).trans (by first | (with_reducible assumption) | (simp [go_sem]; done) | (simp [go_sem, *]; done) | assumption)
  go_wp2_with fail
  refine (awake13 _ (Tab.below hT (by repeat (first | (with_reducible exact Below.refl _ _) | (with_reducible assumption) | (with_reducible refine bdrew ?_) | (with_reducible refine baa ?_ _) | (with_reducible refine bs ?_ (by first | exact Nat.le_refl _ | omega | (simp; done) | (simp; omega)) _) | (with_reducible refine bt ?_ (by with_reducible assumption))))) (Tab.below hL (by repeat (first | (with_reducible exact Below.refl _ _) | (with_reducible assumption) | (with_reducible refine bdrew ?_) | (with_reducible refine baa ?_ _) | (with_reducible refine bs ?_ (by first | exact Nat.le_refl _ | omega | (simp; done) | (simp; omega)) _) | (with_reducible refine bt ?_ (by with_reducible assumption))))) (Tab.below hP (by repeat (first | (with_reducible exact Below.refl _ _) | (with_reducible assumption) | (with_reducible refine bdrew ?_) | (with_reducible refine baa ?_ _) | (with_reducible refine bs ?_ (by first | exact Nat.le_refl _ | omega | (simp; done) | (simp; omega)) _) | (with_reducible refine bt ?_ (by with_reducible assumption))))) (Tab.below hG (by repeat (first | (with_reducible exact Below.refl _ _) | (with_reducible assumption) | (with_reducible refine bdrew ?_) | (with_reducible refine baa ?_ _) | (with_reducible refine bs ?_ (by first | exact Nat.le_refl _ | omega | (simp; done) | (simp; omega)) _) | (with_reducible refine bt ?_ (by with_reducible assumption))))) m (MaxAt.below hm (by repeat (first | (with_reducible exact Below.refl _ _) | (with_reducible assumption) | (with_reducible refine bdrew ?_) | (with_reducible refine baa ?_ _) | (with_reducible refine bs ?_ (by first | exact Nat.le_refl _ | omega | (simp; done) | (simp; omega)) _) | (with_reducible refine bt ?_ (by with_reducible assumption)))))).mono ?_
  rintro e w3 ⟨rfl, hb3⟩
  obtain ⟨hc3, hf3⟩ := bcell hb3
  have hz3 := hb3.size
  try simp at hz3
  have hl3w : w.heap.size < w3.heap.size := by omega
  have hm3w : w.heap.size ≤ w3.heap.size := by omega
  have hs3x1 : (w.heap.size + 1) < w3.heap.size := by omega
  have g3x0 : w3.cell? ⟨w.heap.size, 0, none⟩ = some (.int .i64 (y)) := (hc3 _ _ (by first | omega | (simp; done) | (simp; omega))).trans (by first | (with_reducible assumption) | (simp [go_sem]; done) | (simp [go_sem, *]; done) | assumption)
  have g3x1 : w3.cell? ⟨w.heap.size, 1, none⟩ = some (.int .i64 (n)) := (hc3 _ _ (by first | omega | (simp; done) | (simp; omega))).trans (by first | (with_reducible assumption) | (simp [go_sem]; done) | (simp [go_sem, *]; done) | assumption)
  have g3x2 : w3.cell? ⟨w.heap.size, 2, none⟩ = some (.bool (l)) := (hc3 _ _ (by first | omega | (simp; done) | (simp; omega))).trans (by first | (with_reducible assumption) | (simp [go_sem]; done) | (simp [go_sem, *]; done) | assumption)
  have g3x3 : w3.cell? ⟨w.heap.size, 3, none⟩ = some (.int .i64 (d)) := (hc3 _ _ (by first | omega | (simp; done) | (simp; omega))).trans (by first | (with_reducible assumption) | (simp [go_sem]; done) | (simp [go_sem, *]; done) | assumption)
  have g3x4 : w3.cell? ⟨(w.heap.size + 1), 0, none⟩ = some (.int .i64 (z)) := (hc3 _ _ (by first | omega | (simp; done) | (simp; omega))).trans (by first | (with_reducible assumption) | (simp [go_sem]; done) | (simp [go_sem, *]; done) | assumption)
  have g3x5 : w3.cell? ⟨(w.heap.size + 1), 1, none⟩ = some (.int .i64 (k)) := (hc3 _ _ (by first | omega | (simp; done) | (simp; omega))).trans (by first | (with_reducible assumption) | (simp [go_sem]; done) | (simp [go_sem, *]; done) | assumption)
  have g3x6 : w3.cell? ⟨(w.heap.size + 1), 2, none⟩ = some (.bool (h)) := (hc3 _ _ (by first | omega | (simp; done) | (simp; omega))).trans (by first | (with_reducible assumption) | (simp [go_sem]; done) | (simp [go_sem, *]; done) | assumption)
  have g3x7 : w3.cell? ⟨(w.heap.size + 1), 3, none⟩ = some (.int .i64 (f)) := (hc3 _ _ (by first | omega | (simp; done) | (simp; omega))).trans (by first | (with_reducible assumption) | (simp [go_sem]; done) | (simp [go_sem, *]; done) | assumption)
  go_wp2_with fail
  refine (H1.out _).mono ?_
  rintro e w4 ⟨rfl, hb4⟩
  obtain ⟨hc4, hf4⟩ := bcell hb4
  have hz4 := hb4.size
  try simp at hz4
  have hl4w : w.heap.size < w4.heap.size := by omega
  have hm4w : w.heap.size ≤ w4.heap.size := by omega
  have hs4x1 : (w.heap.size + 1) < w4.heap.size := by omega
  have g4x0 : w4.cell? ⟨w.heap.size, 0, none⟩ = some (.int .i64 (y)) := (hc4 _ _ (by first | omega | (simp; done) | (simp; omega))).trans (by first | (with_reducible assumption) | (simp [go_sem]; done) | (simp [go_sem, *]; done) | assumption)
  have g4x1 : w4.cell? ⟨w.heap.size, 1, none⟩ = some (.int .i64 (n)) := (hc4 _ _ (by first | omega | (simp; done) | (simp; omega))).trans (by first | (with_reducible assumption) | (simp [go_sem]; done) | (simp [go_sem, *]; done) | assumption)
  have g4x2 : w4.cell? ⟨w.heap.size, 2, none⟩ = some (.bool (l)) := (hc4 _ _ (by first | omega | (simp; done) | (simp; omega))).trans (by first | (with_reducible assumption) | (simp [go_sem]; done) | (simp [go_sem, *]; done) | assumption)
  have g4x3 : w4.cell? ⟨w.heap.size, 3, none⟩ = some (.int .i64 (d)) := (hc4 _ _ (by first | omega | (simp; done) | (simp; omega))).trans (by first | (with_reducible assumption) | (simp [go_sem]; done) | (simp [go_sem, *]; done) | assumption)
  have g4x4 : w4.cell? ⟨(w.heap.size + 1), 0, none⟩ = some (.int .i64 (z)) := (hc4 _ _ (by first | omega | (simp; done) | (simp; omega))).trans (by first | (with_reducible assumption) | (simp [go_sem]; done) | (simp [go_sem, *]; done) | assumption)
  have g4x5 : w4.cell? ⟨(w.heap.size + 1), 1, none⟩ = some (.int .i64 (k)) := (hc4 _ _ (by first | omega | (simp; done) | (simp; omega))).trans (by first | (with_reducible assumption) | (simp [go_sem]; done) | (simp [go_sem, *]; done) | assumption)
  have g4x6 : w4.cell? ⟨(w.heap.size + 1), 2, none⟩ = some (.bool (h)) := (hc4 _ _ (by first | omega | (simp; done) | (simp; omega))).trans (by first | (with_reducible assumption) | (simp [go_sem]; done) | (simp [go_sem, *]; done) | assumption)
  have g4x7 : w4.cell? ⟨(w.heap.size + 1), 3, none⟩ = some (.int .i64 (f)) := (hc4 _ _ (by first | omega | (simp; done) | (simp; omega))).trans (by first | (with_reducible assumption) | (simp [go_sem]; done) | (simp [go_sem, *]; done) | assumption)
  go_wp2_with fail
  all_goals try (exfalso; exact absurd E1.out (by assumption))
  all_goals go_ret
  all_goals refine ⟨?_, by repeat (first | (with_reducible exact Below.refl _ _) | (with_reducible assumption) | (with_reducible refine bdrew ?_) | (with_reducible refine baa ?_ _) | (with_reducible refine bs ?_ (by first | exact Nat.le_refl _ | omega | (simp; done) | (simp; omega)) _) | (with_reducible refine bt ?_ (by with_reducible assumption)))⟩
  all_goals clear hc4 hf4 hc3 hf3 hc2 hf2 hc1 hf1
  all_goals (have e2 := E2.out; clear E2 E1; first | (simp_all; done) | (simp at e2 ⊢; simp_all; done))
theorem TextOrder_walk (y n : Int) (l : Bool) (d z k : Int) (h : Bool) (f : Int) (hy : I64 y) (hn : I64 n) (hd : I64 d) (hz : I64 z) (hk : I64 k) (hf : I64 f) (m : Int) (w : World) (hm : MaxAt w m) (hT : Tab w 8 kevCells) (hL : Tab w 5 lenCells) (hG : Tab w 3 Gr.gregCells) (hP : Tab w 1 powCells) :
    Calls Tryd.prog 3 #[.agg #[.int .i64 (y), .int .i64 (n), .bool (l), .int .i64 (d)], .agg #[.int .i64 (z), .int .i64 (k), .bool (h), .int .i64 (f)]] w fun e w' => e = .returned (.bool true) ∧ Below w.heap.size w w' := by
  have HA := Lib.hid (fun w hT hL hP => text_Heb y n l d w hy hT hL hP)
  have HB := Lib.hid (fun w hT hL hP => text_Heb z k h f w hz hT hL hP)
  by_cases h1 : D10.dateE y n l d = 0
  · rw [h1] at HA
    by_cases h2 : D10.dateE z k h f = 0
    · rw [h2] at HB
      refine TextOrder_go y n l d z k h f _ _ _ w hT hL hP hG m hm HA HB (Lib.hid (fun w => ref10_Less y n l d z k h f w)) (Lib.hid ?_) (Lib.hid ?_)
      · rw [show hebV y n l d = hebTxt y n l d from if_pos h1, show hebV z k h f = hebTxt z k h f from if_pos h2]
        exact D13.order h1 h2
      · rw [show hebV y n l d = hebTxt y n l d from if_pos h1, show hebV z k h f = hebTxt z k h f from if_pos h2]
        exact D13.alike h1 h2
    · exact TextOrder_eb y n l d z k h f _ _ _ w hT hL hP hG m hm HA HB (by simpa using h2)
  · exact TextOrder_ea y n l d z k h f _ _ _ _ w hT hL hP hG m hm HA HB (by simpa using h1)
end Go.Proofs.YtmiadhiomingmaaDoor
