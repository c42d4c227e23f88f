/- Layer 18: its laws. -/
import Derived.Test.YtmiadhiomingmaaDoorW18
namespace Go.Proofs.YtmiadhiomingmaaDoor
open Go.ChangeShapes Go.WideShapes Go.ChangeAt Go.RowKit
set_option linter.unusedVariables false
set_option maxRecDepth 100000
set_option maxHeartbeats 4000000 in
theorem AnnivLater_e (y n : Int) (l : Bool) (d q m : Int) (hq : 0 ≤ q ∧ q ≤ 65535) (hm : 0 ≤ m ∧ m ≤ 255) (K : Int) (hK : q % 9999 = K) (a1 a2 : Int) (a3 : Bool) (a4 : Int) (b1 b2 : Int) (b3 : Bool) (b4 : Int) (c2 : Int) (c3 : Bool) (c4 : Int) (d2 : Int) (d3 : Bool) (d4 : Int) (ce cf : Int) (w : World) (hT : Tab w 8 kevCells) (hL : Tab w 5 lenCells) (HA : Hid (∀ w : World, Tab w 8 kevCells → Tab w 5 lenCells → Calls Tryd.prog 25 #[.agg #[.int .i64 (y), .int .i64 (n), .bool (l), .int .i64 (d)], .int .i64 (1 + K)] w fun e w' => e = .returned (.tuple #[.agg #[.int .i64 (a1), .int .i64 (a2), .bool (a3), .int .i64 (a4)], .int .i64 (ce)]) ∧ Below w.heap.size w w')) (HB : Hid (∀ w : World, Tab w 8 kevCells → Tab w 5 lenCells → Calls Tryd.prog 25 #[.agg #[.int .i64 (y), .int .i64 (n), .bool (l), .int .i64 (d)], .int .i64 (1 + K + 1 + m)] w fun e w' => e = .returned (.tuple #[.agg #[.int .i64 (b1), .int .i64 (b2), .bool (b3), .int .i64 (b4)], .int .i64 (cf)]) ∧ Below w.heap.size w w')) (HC : Hid (∀ w : World, Tab w 8 kevCells → Tab w 5 lenCells → Calls Tryd.prog 27 #[.agg #[.int .i64 (y), .int .i64 (n), .bool (l), .int .i64 (d)], .int .i64 (1 + K)] w fun e w' => e = .returned (.tuple #[.agg #[.int .i64 (a1), .int .i64 (c2), .bool (c3), .int .i64 (c4)], .int .i64 (ce)]) ∧ Below w.heap.size w w')) (HD : Hid (∀ w : World, Tab w 8 kevCells → Tab w 5 lenCells → Calls Tryd.prog 27 #[.agg #[.int .i64 (y), .int .i64 (n), .bool (l), .int .i64 (d)], .int .i64 (1 + K + 1 + m)] w fun e w' => e = .returned (.tuple #[.agg #[.int .i64 (b1), .int .i64 (d2), .bool (d3), .int .i64 (d4)], .int .i64 (cf)]) ∧ Below w.heap.size w w')) (h0 : (ce != 0) = true) :
    Calls Tryd.prog 11 #[.agg #[.int .i64 (y), .int .i64 (n), .bool (l), .int .i64 (d)], .int .u16 q, .int .u8 m] w fun e w' => e = .returned (.bool true) ∧ Below w.heap.size w w' := by
  obtain ⟨q1, q2⟩ := hq
  obtain ⟨m1, m2⟩ := hm
  have K1 : 0 ≤ K ∧ K < 9999 := by omega
  obtain ⟨K1, K2⟩ := K1
  go_enter Tryd.func11, Tryd.ntmps11
  go_wp2_with fail
  refine (HA.out _ (Tab.below hT (by repeat (first | (with_reducible exact Below.refl _ _) | (with_reducible assumption) | (with_reducible refine bdrew ?_) | (with_reducible refine baa ?_ _) | (with_reducible refine bs ?_ (by first | exact Nat.le_refl _ | omega | (simp; done) | (simp; omega)) _) | (with_reducible refine bt ?_ (by with_reducible assumption))))) (Tab.below hL (by repeat (first | (with_reducible exact Below.refl _ _) | (with_reducible assumption) | (with_reducible refine bdrew ?_) | (with_reducible refine baa ?_ _) | (with_reducible refine bs ?_ (by first | exact Nat.le_refl _ | omega | (simp; done) | (simp; omega)) _) | (with_reducible refine bt ?_ (by with_reducible assumption)))))).mono ?_
  rintro e w1 ⟨rfl, hb1⟩
  obtain ⟨hc1, hf1⟩ := bcell hb1
  have hz1 := hb1.size
  try simp at hz1
  have hl1w : w.heap.size < w1.heap.size := by omega
  have hm1w : w.heap.size ≤ w1.heap.size := by omega
  have g1x0 : w1.cell? ⟨w.heap.size, 0, none⟩ = some (.int .i64 (y)) := (hc1 _ _ (by first | omega | (simp; done) | (simp; omega))).trans (by first | (with_reducible assumption) | (simp [go_sem]; done) | (simp [go_sem, *]; done) | assumption)
  have g1x1 : w1.cell? ⟨w.heap.size, 1, none⟩ = some (.int .i64 (n)) := (hc1 _ _ (by first | omega | (simp; done) | (simp; omega))).trans (by first | (with_reducible assumption) | (simp [go_sem]; done) | (simp [go_sem, *]; done) | assumption)
  have g1x2 : w1.cell? ⟨w.heap.size, 2, none⟩ = some (.bool (l)) := (hc1 _ _ (by first | omega | (simp; done) | (simp; omega))).trans (by first | (with_reducible assumption) | (simp [go_sem]; done) | (simp [go_sem, *]; done) | assumption)
  have g1x3 : w1.cell? ⟨w.heap.size, 3, none⟩ = some (.int .i64 (d)) := (hc1 _ _ (by first | omega | (simp; done) | (simp; omega))).trans (by first | (with_reducible assumption) | (simp [go_sem]; done) | (simp [go_sem, *]; done) | assumption)
  go_wp2_with fail
  refine (HB.out _ (Tab.below hT (by repeat (first | (with_reducible exact Below.refl _ _) | (with_reducible assumption) | (with_reducible refine bdrew ?_) | (with_reducible refine baa ?_ _) | (with_reducible refine bs ?_ (by first | exact Nat.le_refl _ | omega | (simp; done) | (simp; omega)) _) | (with_reducible refine bt ?_ (by with_reducible assumption))))) (Tab.below hL (by repeat (first | (with_reducible exact Below.refl _ _) | (with_reducible assumption) | (with_reducible refine bdrew ?_) | (with_reducible refine baa ?_ _) | (with_reducible refine bs ?_ (by first | exact Nat.le_refl _ | omega | (simp; done) | (simp; omega)) _) | (with_reducible refine bt ?_ (by with_reducible assumption)))))).mono ?_
  rintro e w2 ⟨rfl, hb2⟩
  obtain ⟨hc2, hf2⟩ := bcell hb2
  have hz2 := hb2.size
  try simp at hz2
  have hl2w : w.heap.size < w2.heap.size := by omega
  have hm2w : w.heap.size ≤ w2.heap.size := by omega
  have hl2w1 : w1.heap.size < w2.heap.size := by omega
  have hm2w1 : w1.heap.size ≤ w2.heap.size := by omega
  have g2x0 : w2.cell? ⟨w.heap.size, 0, none⟩ = some (.int .i64 (y)) := (hc2 _ _ (by first | omega | (simp; done) | (simp; omega))).trans (by first | (with_reducible assumption) | (simp [go_sem]; done) | (simp [go_sem, *]; done) | assumption)
  have g2x1 : w2.cell? ⟨w.heap.size, 1, none⟩ = some (.int .i64 (n)) := (hc2 _ _ (by first | omega | (simp; done) | (simp; omega))).trans (by first | (with_reducible assumption) | (simp [go_sem]; done) | (simp [go_sem, *]; done) | assumption)
  have g2x2 : w2.cell? ⟨w.heap.size, 2, none⟩ = some (.bool (l)) := (hc2 _ _ (by first | omega | (simp; done) | (simp; omega))).trans (by first | (with_reducible assumption) | (simp [go_sem]; done) | (simp [go_sem, *]; done) | assumption)
  have g2x3 : w2.cell? ⟨w.heap.size, 3, none⟩ = some (.int .i64 (d)) := (hc2 _ _ (by first | omega | (simp; done) | (simp; omega))).trans (by first | (with_reducible assumption) | (simp [go_sem]; done) | (simp [go_sem, *]; done) | assumption)
  have g2x4 : w2.cell? ⟨w1.heap.size, 0, none⟩ = some (.int .i64 (a1)) := (hc2 _ _ (by first | omega | (simp; done) | (simp; omega))).trans (by first | (with_reducible assumption) | (simp [go_sem]; done) | (simp [go_sem, *]; done) | assumption)
  have g2x5 : w2.cell? ⟨w1.heap.size, 1, none⟩ = some (.int .i64 (a2)) := (hc2 _ _ (by first | omega | (simp; done) | (simp; omega))).trans (by first | (with_reducible assumption) | (simp [go_sem]; done) | (simp [go_sem, *]; done) | assumption)
  have g2x6 : w2.cell? ⟨w1.heap.size, 2, none⟩ = some (.bool (a3)) := (hc2 _ _ (by first | omega | (simp; done) | (simp; omega))).trans (by first | (with_reducible assumption) | (simp [go_sem]; done) | (simp [go_sem, *]; done) | assumption)
  have g2x7 : w2.cell? ⟨w1.heap.size, 3, none⟩ = some (.int .i64 (a4)) := (hc2 _ _ (by first | omega | (simp; done) | (simp; omega))).trans (by first | (with_reducible assumption) | (simp [go_sem]; done) | (simp [go_sem, *]; done) | assumption)
  go_wp2_with fail
  refine (HC.out _ (Tab.below hT (by repeat (first | (with_reducible exact Below.refl _ _) | (with_reducible assumption) | (with_reducible refine bdrew ?_) | (with_reducible refine baa ?_ _) | (with_reducible refine bs ?_ (by first | exact Nat.le_refl _ | omega | (simp; done) | (simp; omega)) _) | (with_reducible refine bt ?_ (by with_reducible assumption))))) (Tab.below hL (by repeat (first | (with_reducible exact Below.refl _ _) | (with_reducible assumption) | (with_reducible refine bdrew ?_) | (with_reducible refine baa ?_ _) | (with_reducible refine bs ?_ (by first | exact Nat.le_refl _ | omega | (simp; done) | (simp; omega)) _) | (with_reducible refine bt ?_ (by with_reducible assumption)))))).mono ?_
  rintro e w3 ⟨rfl, hb3⟩
  obtain ⟨hc3, hf3⟩ := bcell hb3
  have hz3 := hb3.size
  try simp at hz3
  have hl3w : w.heap.size < w3.heap.size := by omega
  have hm3w : w.heap.size ≤ w3.heap.size := by omega
  have hl3w1 : w1.heap.size < w3.heap.size := by omega
  have hm3w1 : w1.heap.size ≤ w3.heap.size := by omega
  have hl3w2 : w2.heap.size < w3.heap.size := by omega
  have hm3w2 : w2.heap.size ≤ w3.heap.size := by omega
  have g3x0 : w3.cell? ⟨w.heap.size, 0, none⟩ = some (.int .i64 (y)) := (hc3 _ _ (by first | omega | (simp; done) | (simp; omega))).trans (by first | (with_reducible assumption) | (simp [go_sem]; done) | (simp [go_sem, *]; done) | assumption)
  have g3x1 : w3.cell? ⟨w.heap.size, 1, none⟩ = some (.int .i64 (n)) := (hc3 _ _ (by first | omega | (simp; done) | (simp; omega))).trans (by first | (with_reducible assumption) | (simp [go_sem]; done) | (simp [go_sem, *]; done) | assumption)
  have g3x2 : w3.cell? ⟨w.heap.size, 2, none⟩ = some (.bool (l)) := (hc3 _ _ (by first | omega | (simp; done) | (simp; omega))).trans (by first | (with_reducible assumption) | (simp [go_sem]; done) | (simp [go_sem, *]; done) | assumption)
  have g3x3 : w3.cell? ⟨w.heap.size, 3, none⟩ = some (.int .i64 (d)) := (hc3 _ _ (by first | omega | (simp; done) | (simp; omega))).trans (by first | (with_reducible assumption) | (simp [go_sem]; done) | (simp [go_sem, *]; done) | assumption)
  have g3x4 : w3.cell? ⟨w1.heap.size, 0, none⟩ = some (.int .i64 (a1)) := (hc3 _ _ (by first | omega | (simp; done) | (simp; omega))).trans (by first | (with_reducible assumption) | (simp [go_sem]; done) | (simp [go_sem, *]; done) | assumption)
  have g3x5 : w3.cell? ⟨w1.heap.size, 1, none⟩ = some (.int .i64 (a2)) := (hc3 _ _ (by first | omega | (simp; done) | (simp; omega))).trans (by first | (with_reducible assumption) | (simp [go_sem]; done) | (simp [go_sem, *]; done) | assumption)
  have g3x6 : w3.cell? ⟨w1.heap.size, 2, none⟩ = some (.bool (a3)) := (hc3 _ _ (by first | omega | (simp; done) | (simp; omega))).trans (by first | (with_reducible assumption) | (simp [go_sem]; done) | (simp [go_sem, *]; done) | assumption)
  have g3x7 : w3.cell? ⟨w1.heap.size, 3, none⟩ = some (.int .i64 (a4)) := (hc3 _ _ (by first | omega | (simp; done) | (simp; omega))).trans (by first | (with_reducible assumption) | (simp [go_sem]; done) | (simp [go_sem, *]; done) | assumption)
  have g3x8 : w3.cell? ⟨w2.heap.size, 0, none⟩ = some (.int .i64 (b1)) := (hc3 _ _ (by first | omega | (simp; done) | (simp; omega))).trans (by first | (with_reducible assumption) | (simp [go_sem]; done) | (simp [go_sem, *]; done) | assumption)
  have g3x9 : w3.cell? ⟨w2.heap.size, 1, none⟩ = some (.int .i64 (b2)) := (hc3 _ _ (by first | omega | (simp; done) | (simp; omega))).trans (by first | (with_reducible assumption) | (simp [go_sem]; done) | (simp [go_sem, *]; done) | assumption)
  have g3x10 : w3.cell? ⟨w2.heap.size, 2, none⟩ = some (.bool (b3)) := (hc3 _ _ (by first | omega | (simp; done) | (simp; omega))).trans (by first | (with_reducible assumption) | (simp [go_sem]; done) | (simp [go_sem, *]; done) | assumption)
  have g3x11 : w3.cell? ⟨w2.heap.size, 3, none⟩ = some (.int .i64 (b4)) := (hc3 _ _ (by first | omega | (simp; done) | (simp; omega))).trans (by first | (with_reducible assumption) | (simp [go_sem]; done) | (simp [go_sem, *]; done) | assumption)
  go_wp2_with fail
  refine (HD.out _ (Tab.below hT (by repeat (first | (with_reducible exact Below.refl _ _) | (with_reducible assumption) | (with_reducible refine bdrew ?_) | (with_reducible refine baa ?_ _) | (with_reducible refine bs ?_ (by first | exact Nat.le_refl _ | omega | (simp; done) | (simp; omega)) _) | (with_reducible refine bt ?_ (by with_reducible assumption))))) (Tab.below hL (by repeat (first | (with_reducible exact Below.refl _ _) | (with_reducible assumption) | (with_reducible refine bdrew ?_) | (with_reducible refine baa ?_ _) | (with_reducible refine bs ?_ (by first | exact Nat.le_refl _ | omega | (simp; done) | (simp; omega)) _) | (with_reducible refine bt ?_ (by with_reducible assumption)))))).mono ?_
  rintro e w4 ⟨rfl, hb4⟩
  obtain ⟨hc4, hf4⟩ := bcell hb4
  have hz4 := hb4.size
  try simp at hz4
  have hl4w1 : w1.heap.size < w4.heap.size := by omega
  have hm4w1 : w1.heap.size ≤ w4.heap.size := by omega
  have hl4w2 : w2.heap.size < w4.heap.size := by omega
  have hm4w2 : w2.heap.size ≤ w4.heap.size := by omega
  have hl4w3 : w3.heap.size < w4.heap.size := by omega
  have hm4w3 : w3.heap.size ≤ w4.heap.size := by omega
  have g4x0 : w4.cell? ⟨w1.heap.size, 0, none⟩ = some (.int .i64 (a1)) := (hc4 _ _ (by first | omega | (simp; done) | (simp; omega))).trans (by first | (with_reducible assumption) | (simp [go_sem]; done) | (simp [go_sem, *]; done) | assumption)
  have g4x1 : w4.cell? ⟨w1.heap.size, 1, none⟩ = some (.int .i64 (a2)) := (hc4 _ _ (by first | omega | (simp; done) | (simp; omega))).trans (by first | (with_reducible assumption) | (simp [go_sem]; done) | (simp [go_sem, *]; done) | assumption)
  have g4x2 : w4.cell? ⟨w1.heap.size, 2, none⟩ = some (.bool (a3)) := (hc4 _ _ (by first | omega | (simp; done) | (simp; omega))).trans (by first | (with_reducible assumption) | (simp [go_sem]; done) | (simp [go_sem, *]; done) | assumption)
  have g4x3 : w4.cell? ⟨w1.heap.size, 3, none⟩ = some (.int .i64 (a4)) := (hc4 _ _ (by first | omega | (simp; done) | (simp; omega))).trans (by first | (with_reducible assumption) | (simp [go_sem]; done) | (simp [go_sem, *]; done) | assumption)
  have g4x4 : w4.cell? ⟨w2.heap.size, 0, none⟩ = some (.int .i64 (b1)) := (hc4 _ _ (by first | omega | (simp; done) | (simp; omega))).trans (by first | (with_reducible assumption) | (simp [go_sem]; done) | (simp [go_sem, *]; done) | assumption)
  have g4x5 : w4.cell? ⟨w2.heap.size, 1, none⟩ = some (.int .i64 (b2)) := (hc4 _ _ (by first | omega | (simp; done) | (simp; omega))).trans (by first | (with_reducible assumption) | (simp [go_sem]; done) | (simp [go_sem, *]; done) | assumption)
  have g4x6 : w4.cell? ⟨w2.heap.size, 2, none⟩ = some (.bool (b3)) := (hc4 _ _ (by first | omega | (simp; done) | (simp; omega))).trans (by first | (with_reducible assumption) | (simp [go_sem]; done) | (simp [go_sem, *]; done) | assumption)
  have g4x7 : w4.cell? ⟨w2.heap.size, 3, none⟩ = some (.int .i64 (b4)) := (hc4 _ _ (by first | omega | (simp; done) | (simp; omega))).trans (by first | (with_reducible assumption) | (simp [go_sem]; done) | (simp [go_sem, *]; done) | assumption)
  have g4x8 : w4.cell? ⟨w3.heap.size, 0, none⟩ = some (.int .i64 (a1)) := (hc4 _ _ (by first | omega | (simp; done) | (simp; omega))).trans (by first | (with_reducible assumption) | (simp [go_sem]; done) | (simp [go_sem, *]; done) | assumption)
  have g4x9 : w4.cell? ⟨w3.heap.size, 1, none⟩ = some (.int .i64 (c2)) := (hc4 _ _ (by first | omega | (simp; done) | (simp; omega))).trans (by first | (with_reducible assumption) | (simp [go_sem]; done) | (simp [go_sem, *]; done) | assumption)
  have g4x10 : w4.cell? ⟨w3.heap.size, 2, none⟩ = some (.bool (c3)) := (hc4 _ _ (by first | omega | (simp; done) | (simp; omega))).trans (by first | (with_reducible assumption) | (simp [go_sem]; done) | (simp [go_sem, *]; done) | assumption)
  have g4x11 : w4.cell? ⟨w3.heap.size, 3, none⟩ = some (.int .i64 (c4)) := (hc4 _ _ (by first | omega | (simp; done) | (simp; omega))).trans (by first | (with_reducible assumption) | (simp [go_sem]; done) | (simp [go_sem, *]; done) | assumption)
  go_wp2_with fail
  refine (awake18 _ (Tab.below hT (by repeat (first | (with_reducible exact Below.refl _ _) | (with_reducible assumption) | (with_reducible refine bdrew ?_) | (with_reducible refine baa ?_ _) | (with_reducible refine bs ?_ (by first | exact Nat.le_refl _ | omega | (simp; done) | (simp; omega)) _) | (with_reducible refine bt ?_ (by with_reducible assumption))))) (Tab.below hL (by repeat (first | (with_reducible exact Below.refl _ _) | (with_reducible assumption) | (with_reducible refine bdrew ?_) | (with_reducible refine baa ?_ _) | (with_reducible refine bs ?_ (by first | exact Nat.le_refl _ | omega | (simp; done) | (simp; omega)) _) | (with_reducible refine bt ?_ (by with_reducible assumption)))))).mono ?_
  rintro e w5 ⟨rfl, hb5⟩
  obtain ⟨hc5, hf5⟩ := bcell hb5
  have hz5 := hb5.size
  try simp at hz5
  go_wp2_with fail
  go_ret
  refine ⟨by first | rfl | (simp [*]; done), ?_⟩
  repeat (first | (with_reducible exact Below.refl _ _) | (with_reducible assumption) | (with_reducible refine bdrew ?_) | (with_reducible refine baa ?_ _) | (with_reducible refine bs ?_ (by first | exact Nat.le_refl _ | omega | (simp; done) | (simp; omega)) _) | (with_reducible refine bt ?_ (by with_reducible assumption)))
set_option maxHeartbeats 4000000 in
theorem AnnivLater_f (y n : Int) (l : Bool) (d q m : Int) (hq : 0 ≤ q ∧ q ≤ 65535) (hm : 0 ≤ m ∧ m ≤ 255) (K : Int) (hK : q % 9999 = K) (a1 a2 : Int) (a3 : Bool) (a4 : Int) (b1 b2 : Int) (b3 : Bool) (b4 : Int) (c2 : Int) (c3 : Bool) (c4 : Int) (d2 : Int) (d3 : Bool) (d4 : Int) (cf : Int) (w : World) (hT : Tab w 8 kevCells) (hL : Tab w 5 lenCells) (HA : Hid (∀ w : World, Tab w 8 kevCells → Tab w 5 lenCells → Calls Tryd.prog 25 #[.agg #[.int .i64 (y), .int .i64 (n), .bool (l), .int .i64 (d)], .int .i64 (1 + K)] w fun e w' => e = .returned (.tuple #[.agg #[.int .i64 (a1), .int .i64 (a2), .bool (a3), .int .i64 (a4)], .int .i64 (0)]) ∧ Below w.heap.size w w')) (HB : Hid (∀ w : World, Tab w 8 kevCells → Tab w 5 lenCells → Calls Tryd.prog 25 #[.agg #[.int .i64 (y), .int .i64 (n), .bool (l), .int .i64 (d)], .int .i64 (1 + K + 1 + m)] w fun e w' => e = .returned (.tuple #[.agg #[.int .i64 (b1), .int .i64 (b2), .bool (b3), .int .i64 (b4)], .int .i64 (cf)]) ∧ Below w.heap.size w w')) (HC : Hid (∀ w : World, Tab w 8 kevCells → Tab w 5 lenCells → Calls Tryd.prog 27 #[.agg #[.int .i64 (y), .int .i64 (n), .bool (l), .int .i64 (d)], .int .i64 (1 + K)] w fun e w' => e = .returned (.tuple #[.agg #[.int .i64 (a1), .int .i64 (c2), .bool (c3), .int .i64 (c4)], .int .i64 (0)]) ∧ Below w.heap.size w w')) (HD : Hid (∀ w : World, Tab w 8 kevCells → Tab w 5 lenCells → Calls Tryd.prog 27 #[.agg #[.int .i64 (y), .int .i64 (n), .bool (l), .int .i64 (d)], .int .i64 (1 + K + 1 + m)] w fun e w' => e = .returned (.tuple #[.agg #[.int .i64 (b1), .int .i64 (d2), .bool (d3), .int .i64 (d4)], .int .i64 (cf)]) ∧ Below w.heap.size w w')) (h0 : (cf != 0) = true) :
    Calls Tryd.prog 11 #[.agg #[.int .i64 (y), .int .i64 (n), .bool (l), .int .i64 (d)], .int .u16 q, .int .u8 m] w fun e w' => e = .returned (.bool true) ∧ Below w.heap.size w w' := by
  obtain ⟨q1, q2⟩ := hq
  obtain ⟨m1, m2⟩ := hm
  have K1 : 0 ≤ K ∧ K < 9999 := by omega
  obtain ⟨K1, K2⟩ := K1
  go_enter Tryd.func11, Tryd.ntmps11
  go_wp2_with fail
  refine (HA.out _ (Tab.below hT (by repeat (first | (with_reducible exact Below.refl _ _) | (with_reducible assumption) | (with_reducible refine bdrew ?_) | (with_reducible refine baa ?_ _) | (with_reducible refine bs ?_ (by first | exact Nat.le_refl _ | omega | (simp; done) | (simp; omega)) _) | (with_reducible refine bt ?_ (by with_reducible assumption))))) (Tab.below hL (by repeat (first | (with_reducible exact Below.refl _ _) | (with_reducible assumption) | (with_reducible refine bdrew ?_) | (with_reducible refine baa ?_ _) | (with_reducible refine bs ?_ (by first | exact Nat.le_refl _ | omega | (simp; done) | (simp; omega)) _) | (with_reducible refine bt ?_ (by with_reducible assumption)))))).mono ?_
  rintro e w1 ⟨rfl, hb1⟩
  obtain ⟨hc1, hf1⟩ := bcell hb1
  have hz1 := hb1.size
  try simp at hz1
  have hl1w : w.heap.size < w1.heap.size := by omega
  have hm1w : w.heap.size ≤ w1.heap.size := by omega
  have g1x0 : w1.cell? ⟨w.heap.size, 0, none⟩ = some (.int .i64 (y)) := (hc1 _ _ (by first | omega | (simp; done) | (simp; omega))).trans (by first | (with_reducible assumption) | (simp [go_sem]; done) | (simp [go_sem, *]; done) | assumption)
  have g1x1 : w1.cell? ⟨w.heap.size, 1, none⟩ = some (.int .i64 (n)) := (hc1 _ _ (by first | omega | (simp; done) | (simp; omega))).trans (by first | (with_reducible assumption) | (simp [go_sem]; done) | (simp [go_sem, *]; done) | assumption)
  have g1x2 : w1.cell? ⟨w.heap.size, 2, none⟩ = some (.bool (l)) := (hc1 _ _ (by first | omega | (simp; done) | (simp; omega))).trans (by first | (with_reducible assumption) | (simp [go_sem]; done) | (simp [go_sem, *]; done) | assumption)
  have g1x3 : w1.cell? ⟨w.heap.size, 3, none⟩ = some (.int .i64 (d)) := (hc1 _ _ (by first | omega | (simp; done) | (simp; omega))).trans (by first | (with_reducible assumption) | (simp [go_sem]; done) | (simp [go_sem, *]; done) | assumption)
  go_wp2_with fail
  refine (HB.out _ (Tab.below hT (by repeat (first | (with_reducible exact Below.refl _ _) | (with_reducible assumption) | (with_reducible refine bdrew ?_) | (with_reducible refine baa ?_ _) | (with_reducible refine bs ?_ (by first | exact Nat.le_refl _ | omega | (simp; done) | (simp; omega)) _) | (with_reducible refine bt ?_ (by with_reducible assumption))))) (Tab.below hL (by repeat (first | (with_reducible exact Below.refl _ _) | (with_reducible assumption) | (with_reducible refine bdrew ?_) | (with_reducible refine baa ?_ _) | (with_reducible refine bs ?_ (by first | exact Nat.le_refl _ | omega | (simp; done) | (simp; omega)) _) | (with_reducible refine bt ?_ (by with_reducible assumption)))))).mono ?_
  rintro e w2 ⟨rfl, hb2⟩
  obtain ⟨hc2, hf2⟩ := bcell hb2
  have hz2 := hb2.size
  try simp at hz2
  have hl2w : w.heap.size < w2.heap.size := by omega
  have hm2w : w.heap.size ≤ w2.heap.size := by omega
  have hl2w1 : w1.heap.size < w2.heap.size := by omega
  have hm2w1 : w1.heap.size ≤ w2.heap.size := by omega
  have g2x0 : w2.cell? ⟨w.heap.size, 0, none⟩ = some (.int .i64 (y)) := (hc2 _ _ (by first | omega | (simp; done) | (simp; omega))).trans (by first | (with_reducible assumption) | (simp [go_sem]; done) | (simp [go_sem, *]; done) | assumption)
  have g2x1 : w2.cell? ⟨w.heap.size, 1, none⟩ = some (.int .i64 (n)) := (hc2 _ _ (by first | omega | (simp; done) | (simp; omega))).trans (by first | (with_reducible assumption) | (simp [go_sem]; done) | (simp [go_sem, *]; done) | assumption)
  have g2x2 : w2.cell? ⟨w.heap.size, 2, none⟩ = some (.bool (l)) := (hc2 _ _ (by first | omega | (simp; done) | (simp; omega))).trans (by first | (with_reducible assumption) | (simp [go_sem]; done) | (simp [go_sem, *]; done) | assumption)
  have g2x3 : w2.cell? ⟨w.heap.size, 3, none⟩ = some (.int .i64 (d)) := (hc2 _ _ (by first | omega | (simp; done) | (simp; omega))).trans (by first | (with_reducible assumption) | (simp [go_sem]; done) | (simp [go_sem, *]; done) | assumption)
  have g2x4 : w2.cell? ⟨w1.heap.size, 0, none⟩ = some (.int .i64 (a1)) := (hc2 _ _ (by first | omega | (simp; done) | (simp; omega))).trans (by first | (with_reducible assumption) | (simp [go_sem]; done) | (simp [go_sem, *]; done) | assumption)
  have g2x5 : w2.cell? ⟨w1.heap.size, 1, none⟩ = some (.int .i64 (a2)) := (hc2 _ _ (by first | omega | (simp; done) | (simp; omega))).trans (by first | (with_reducible assumption) | (simp [go_sem]; done) | (simp [go_sem, *]; done) | assumption)
  have g2x6 : w2.cell? ⟨w1.heap.size, 2, none⟩ = some (.bool (a3)) := (hc2 _ _ (by first | omega | (simp; done) | (simp; omega))).trans (by first | (with_reducible assumption) | (simp [go_sem]; done) | (simp [go_sem, *]; done) | assumption)
  have g2x7 : w2.cell? ⟨w1.heap.size, 3, none⟩ = some (.int .i64 (a4)) := (hc2 _ _ (by first | omega | (simp; done) | (simp; omega))).trans (by first | (with_reducible assumption) | (simp [go_sem]; done) | (simp [go_sem, *]; done) | assumption)
  go_wp2_with fail
  refine (HC.out _ (Tab.below hT (by repeat (first | (with_reducible exact Below.refl _ _) | (with_reducible assumption) | (with_reducible refine bdrew ?_) | (with_reducible refine baa ?_ _) | (with_reducible refine bs ?_ (by first | exact Nat.le_refl _ | omega | (simp; done) | (simp; omega)) _) | (with_reducible refine bt ?_ (by with_reducible assumption))))) (Tab.below hL (by repeat (first | (with_reducible exact Below.refl _ _) | (with_reducible assumption) | (with_reducible refine bdrew ?_) | (with_reducible refine baa ?_ _) | (with_reducible refine bs ?_ (by first | exact Nat.le_refl _ | omega | (simp; done) | (simp; omega)) _) | (with_reducible refine bt ?_ (by with_reducible assumption)))))).mono ?_
  rintro e w3 ⟨rfl, hb3⟩
  obtain ⟨hc3, hf3⟩ := bcell hb3
  have hz3 := hb3.size
  try simp at hz3
  have hl3w : w.heap.size < w3.heap.size := by omega
  have hm3w : w.heap.size ≤ w3.heap.size := by omega
  have hl3w1 : w1.heap.size < w3.heap.size := by omega
  have hm3w1 : w1.heap.size ≤ w3.heap.size := by omega
  have hl3w2 : w2.heap.size < w3.heap.size := by omega
  have hm3w2 : w2.heap.size ≤ w3.heap.size := by omega
  have g3x0 : w3.cell? ⟨w.heap.size, 0, none⟩ = some (.int .i64 (y)) := (hc3 _ _ (by first | omega | (simp; done) | (simp; omega))).trans (by first | (with_reducible assumption) | (simp [go_sem]; done) | (simp [go_sem, *]; done) | assumption)
  have g3x1 : w3.cell? ⟨w.heap.size, 1, none⟩ = some (.int .i64 (n)) := (hc3 _ _ (by first | omega | (simp; done) | (simp; omega))).trans (by first | (with_reducible assumption) | (simp [go_sem]; done) | (simp [go_sem, *]; done) | assumption)
  have g3x2 : w3.cell? ⟨w.heap.size, 2, none⟩ = some (.bool (l)) := (hc3 _ _ (by first | omega | (simp; done) | (simp; omega))).trans (by first | (with_reducible assumption) | (simp [go_sem]; done) | (simp [go_sem, *]; done) | assumption)
  have g3x3 : w3.cell? ⟨w.heap.size, 3, none⟩ = some (.int .i64 (d)) := (hc3 _ _ (by first | omega | (simp; done) | (simp; omega))).trans (by first | (with_reducible assumption) | (simp [go_sem]; done) | (simp [go_sem, *]; done) | assumption)
  have g3x4 : w3.cell? ⟨w1.heap.size, 0, none⟩ = some (.int .i64 (a1)) := (hc3 _ _ (by first | omega | (simp; done) | (simp; omega))).trans (by first | (with_reducible assumption) | (simp [go_sem]; done) | (simp [go_sem, *]; done) | assumption)
  have g3x5 : w3.cell? ⟨w1.heap.size, 1, none⟩ = some (.int .i64 (a2)) := (hc3 _ _ (by first | omega | (simp; done) | (simp; omega))).trans (by first | (with_reducible assumption) | (simp [go_sem]; done) | (simp [go_sem, *]; done) | assumption)
  have g3x6 : w3.cell? ⟨w1.heap.size, 2, none⟩ = some (.bool (a3)) := (hc3 _ _ (by first | omega | (simp; done) | (simp; omega))).trans (by first | (with_reducible assumption) | (simp [go_sem]; done) | (simp [go_sem, *]; done) | assumption)
  have g3x7 : w3.cell? ⟨w1.heap.size, 3, none⟩ = some (.int .i64 (a4)) := (hc3 _ _ (by first | omega | (simp; done) | (simp; omega))).trans (by first | (with_reducible assumption) | (simp [go_sem]; done) | (simp [go_sem, *]; done) | assumption)
  have g3x8 : w3.cell? ⟨w2.heap.size, 0, none⟩ = some (.int .i64 (b1)) := (hc3 _ _ (by first | omega | (simp; done) | (simp; omega))).trans (by first | (with_reducible assumption) | (simp [go_sem]; done) | (simp [go_sem, *]; done) | assumption)
  have g3x9 : w3.cell? ⟨w2.heap.size, 1, none⟩ = some (.int .i64 (b2)) := (hc3 _ _ (by first | omega | (simp; done) | (simp; omega))).trans (by first | (with_reducible assumption) | (simp [go_sem]; done) | (simp [go_sem, *]; done) | assumption)
  have g3x10 : w3.cell? ⟨w2.heap.size, 2, none⟩ = some (.bool (b3)) := (hc3 _ _ (by first | omega | (simp; done) | (simp; omega))).trans (by first | (with_reducible assumption) | (simp [go_sem]; done) | (simp [go_sem, *]; done) | assumption)
  have g3x11 : w3.cell? ⟨w2.heap.size, 3, none⟩ = some (.int .i64 (b4)) := (hc3 _ _ (by first | omega | (simp; done) | (simp; omega))).trans (by first | (with_reducible assumption) | (simp [go_sem]; done) | (simp [go_sem, *]; done) | assumption)
  go_wp2_with fail
  refine (HD.out _ (Tab.below hT (by repeat (first | (with_reducible exact Below.refl _ _) | (with_reducible assumption) | (with_reducible refine bdrew ?_) | (with_reducible refine baa ?_ _) | (with_reducible refine bs ?_ (by first | exact Nat.le_refl _ | omega | (simp; done) | (simp; omega)) _) | (with_reducible refine bt ?_ (by with_reducible assumption))))) (Tab.below hL (by repeat (first | (with_reducible exact Below.refl _ _) | (with_reducible assumption) | (with_reducible refine bdrew ?_) | (with_reducible refine baa ?_ _) | (with_reducible refine bs ?_ (by first | exact Nat.le_refl _ | omega | (simp; done) | (simp; omega)) _) | (with_reducible refine bt ?_ (by with_reducible assumption)))))).mono ?_
  rintro e w4 ⟨rfl, hb4⟩
  obtain ⟨hc4, hf4⟩ := bcell hb4
  have hz4 := hb4.size
  try simp at hz4
  have hl4w1 : w1.heap.size < w4.heap.size := by omega
  have hm4w1 : w1.heap.size ≤ w4.heap.size := by omega
  have hl4w2 : w2.heap.size < w4.heap.size := by omega
  have hm4w2 : w2.heap.size ≤ w4.heap.size := by omega
  have hl4w3 : w3.heap.size < w4.heap.size := by omega
  have hm4w3 : w3.heap.size ≤ w4.heap.size := by omega
  have g4x0 : w4.cell? ⟨w1.heap.size, 0, none⟩ = some (.int .i64 (a1)) := (hc4 _ _ (by first | omega | (simp; done) | (simp; omega))).trans (by first | (with_reducible assumption) | (simp [go_sem]; done) | (simp [go_sem, *]; done) | assumption)
  have g4x1 : w4.cell? ⟨w1.heap.size, 1, none⟩ = some (.int .i64 (a2)) := (hc4 _ _ (by first | omega | (simp; done) | (simp; omega))).trans (by first | (with_reducible assumption) | (simp [go_sem]; done) | (simp [go_sem, *]; done) | assumption)
  have g4x2 : w4.cell? ⟨w1.heap.size, 2, none⟩ = some (.bool (a3)) := (hc4 _ _ (by first | omega | (simp; done) | (simp; omega))).trans (by first | (with_reducible assumption) | (simp [go_sem]; done) | (simp [go_sem, *]; done) | assumption)
  have g4x3 : w4.cell? ⟨w1.heap.size, 3, none⟩ = some (.int .i64 (a4)) := (hc4 _ _ (by first | omega | (simp; done) | (simp; omega))).trans (by first | (with_reducible assumption) | (simp [go_sem]; done) | (simp [go_sem, *]; done) | assumption)
  have g4x4 : w4.cell? ⟨w2.heap.size, 0, none⟩ = some (.int .i64 (b1)) := (hc4 _ _ (by first | omega | (simp; done) | (simp; omega))).trans (by first | (with_reducible assumption) | (simp [go_sem]; done) | (simp [go_sem, *]; done) | assumption)
  have g4x5 : w4.cell? ⟨w2.heap.size, 1, none⟩ = some (.int .i64 (b2)) := (hc4 _ _ (by first | omega | (simp; done) | (simp; omega))).trans (by first | (with_reducible assumption) | (simp [go_sem]; done) | (simp [go_sem, *]; done) | assumption)
  have g4x6 : w4.cell? ⟨w2.heap.size, 2, none⟩ = some (.bool (b3)) := (hc4 _ _ (by first | omega | (simp; done) | (simp; omega))).trans (by first | (with_reducible assumption) | (simp [go_sem]; done) | (simp [go_sem, *]; done) | assumption)
  have g4x7 : w4.cell? ⟨w2.heap.size, 3, none⟩ = some (.int .i64 (b4)) := (hc4 _ _ (by first | omega | (simp; done) | (simp; omega))).trans (by first | (with_reducible assumption) | (simp [go_sem]; done) | (simp [go_sem, *]; done) | assumption)
  have g4x8 : w4.cell? ⟨w3.heap.size, 0, none⟩ = some (.int .i64 (a1)) := (hc4 _ _ (by first | omega | (simp; done) | (simp; omega))).trans (by first | (with_reducible assumption) | (simp [go_sem]; done) | (simp [go_sem, *]; done) | assumption)
  have g4x9 : w4.cell? ⟨w3.heap.size, 1, none⟩ = some (.int .i64 (c2)) := (hc4 _ _ (by first | omega | (simp; done) | (simp; omega))).trans (by first | (with_reducible assumption) | (simp [go_sem]; done) | (simp [go_sem, *]; done) | assumption)
  have g4x10 : w4.cell? ⟨w3.heap.size, 2, none⟩ = some (.bool (c3)) := (hc4 _ _ (by first | omega | (simp; done) | (simp; omega))).trans (by first | (with_reducible assumption) | (simp [go_sem]; done) | (simp [go_sem, *]; done) | assumption)
  have g4x11 : w4.cell? ⟨w3.heap.size, 3, none⟩ = some (.int .i64 (c4)) := (hc4 _ _ (by first | omega | (simp; done) | (simp; omega))).trans (by first | (with_reducible assumption) | (simp [go_sem]; done) | (simp [go_sem, *]; done) | assumption)
  go_wp2_with fail
  refine (awake18 _ (Tab.below hT (by repeat (first | (with_reducible exact Below.refl _ _) | (with_reducible assumption) | (with_reducible refine bdrew ?_) | (with_reducible refine baa ?_ _) | (with_reducible refine bs ?_ (by first | exact Nat.le_refl _ | omega | (simp; done) | (simp; omega)) _) | (with_reducible refine bt ?_ (by with_reducible assumption))))) (Tab.below hL (by repeat (first | (with_reducible exact Below.refl _ _) | (with_reducible assumption) | (with_reducible refine bdrew ?_) | (with_reducible refine baa ?_ _) | (with_reducible refine bs ?_ (by first | exact Nat.le_refl _ | omega | (simp; done) | (simp; omega)) _) | (with_reducible refine bt ?_ (by with_reducible assumption)))))).mono ?_
  rintro e w5 ⟨rfl, hb5⟩
  obtain ⟨hc5, hf5⟩ := bcell hb5
  have hz5 := hb5.size
  try simp at hz5
  go_wp2_with fail
  go_ret
  refine ⟨by first | rfl | (simp [*]; done), ?_⟩
  repeat (first | (with_reducible exact Below.refl _ _) | (with_reducible assumption) | (with_reducible refine bdrew ?_) | (with_reducible refine baa ?_ _) | (with_reducible refine bs ?_ (by first | exact Nat.le_refl _ | omega | (simp; done) | (simp; omega)) _) | (with_reducible refine bt ?_ (by with_reducible assumption)))
set_option maxHeartbeats 4000000 in
theorem AnnivLater_go (y n : Int) (l : Bool) (d q m : Int) (hq : 0 ≤ q ∧ q ≤ 65535) (hm : 0 ≤ m ∧ m ≤ 255) (K : Int) (hK : q % 9999 = K) (a1 a2 : Int) (a3 : Bool) (a4 : Int) (b1 b2 : Int) (b3 : Bool) (b4 : Int) (c2 : Int) (c3 : Bool) (c4 : Int) (d2 : Int) (d3 : Bool) (d4 : Int) (i j k o : Int) (w : World) (hT : Tab w 8 kevCells) (hL : Tab w 5 lenCells) (HA : Hid (∀ w : World, Tab w 8 kevCells → Tab w 5 lenCells → Calls Tryd.prog 25 #[.agg #[.int .i64 (y), .int .i64 (n), .bool (l), .int .i64 (d)], .int .i64 (1 + K)] w fun e w' => e = .returned (.tuple #[.agg #[.int .i64 (a1), .int .i64 (a2), .bool (a3), .int .i64 (a4)], .int .i64 (0)]) ∧ Below w.heap.size w w')) (HB : Hid (∀ w : World, Tab w 8 kevCells → Tab w 5 lenCells → Calls Tryd.prog 25 #[.agg #[.int .i64 (y), .int .i64 (n), .bool (l), .int .i64 (d)], .int .i64 (1 + K + 1 + m)] w fun e w' => e = .returned (.tuple #[.agg #[.int .i64 (b1), .int .i64 (b2), .bool (b3), .int .i64 (b4)], .int .i64 (0)]) ∧ Below w.heap.size w w')) (HC : Hid (∀ w : World, Tab w 8 kevCells → Tab w 5 lenCells → Calls Tryd.prog 27 #[.agg #[.int .i64 (y), .int .i64 (n), .bool (l), .int .i64 (d)], .int .i64 (1 + K)] w fun e w' => e = .returned (.tuple #[.agg #[.int .i64 (a1), .int .i64 (c2), .bool (c3), .int .i64 (c4)], .int .i64 (0)]) ∧ Below w.heap.size w w')) (HD : Hid (∀ w : World, Tab w 8 kevCells → Tab w 5 lenCells → Calls Tryd.prog 27 #[.agg #[.int .i64 (y), .int .i64 (n), .bool (l), .int .i64 (d)], .int .i64 (1 + K + 1 + m)] w fun e w' => e = .returned (.tuple #[.agg #[.int .i64 (b1), .int .i64 (d2), .bool (d3), .int .i64 (d4)], .int .i64 (0)]) ∧ Below w.heap.size w w')) (HI : Hid (∀ w : World, Calls Tryd.prog 24 #[.agg #[.int .i64 (a1), .int .i64 (a2), .bool (a3), .int .i64 (a4)]] w fun e w' => e = .returned (.tuple #[.int .i64 (i), .int .i64 0]) ∧ Below w.heap.size w w')) (HJ : Hid (∀ w : World, Calls Tryd.prog 24 #[.agg #[.int .i64 (b1), .int .i64 (b2), .bool (b3), .int .i64 (b4)]] w fun e w' => e = .returned (.tuple #[.int .i64 (j), .int .i64 0]) ∧ Below w.heap.size w w')) (HM : Hid (∀ w : World, Calls Tryd.prog 24 #[.agg #[.int .i64 (a1), .int .i64 (c2), .bool (c3), .int .i64 (c4)]] w fun e w' => e = .returned (.tuple #[.int .i64 (k), .int .i64 0]) ∧ Below w.heap.size w w')) (HN : Hid (∀ w : World, Calls Tryd.prog 24 #[.agg #[.int .i64 (b1), .int .i64 (d2), .bool (d3), .int .i64 (d4)]] w fun e w' => e = .returned (.tuple #[.int .i64 (o), .int .i64 0]) ∧ Below w.heap.size w w')) (hb : (-9000000 ≤ i ∧ i ≤ 9000000) ∧ (-9000000 ≤ j ∧ j ≤ 9000000) ∧ (-9000000 ≤ k ∧ k ≤ 9000000) ∧ (-9000000 ≤ o ∧ o ≤ 9000000)) (h1 : decide (320 ≤ j - i) = true) (h2 : decide (320 ≤ o - k) = true) :
    Calls Tryd.prog 11 #[.agg #[.int .i64 (y), .int .i64 (n), .bool (l), .int .i64 (d)], .int .u16 q, .int .u8 m] w fun e w' => e = .returned (.bool true) ∧ Below w.heap.size w w' := by
  obtain ⟨q1, q2⟩ := hq
  obtain ⟨m1, m2⟩ := hm
  have K1 : 0 ≤ K ∧ K < 9999 := by omega
  obtain ⟨K1, K2⟩ := K1
  obtain ⟨⟨i1, i2⟩, ⟨j1, j2⟩, ⟨k1, k2⟩, ⟨o1, o2⟩⟩ := hb
  go_enter Tryd.func11, Tryd.ntmps11
  go_wp2_with fail
  refine (HA.out _ (Tab.below hT (by repeat (first | (with_reducible exact Below.refl _ _) | (with_reducible assumption) | (with_reducible refine bdrew ?_) | (with_reducible refine baa ?_ _) | (with_reducible refine bs ?_ (by first | exact Nat.le_refl _ | omega | (simp; done) | (simp; omega)) _) | (with_reducible refine bt ?_ (by with_reducible assumption))))) (Tab.below hL (by repeat (first | (with_reducible exact Below.refl _ _) | (with_reducible assumption) | (with_reducible refine bdrew ?_) | (with_reducible refine baa ?_ _) | (with_reducible refine bs ?_ (by first | exact Nat.le_refl _ | omega | (simp; done) | (simp; omega)) _) | (with_reducible refine bt ?_ (by with_reducible assumption)))))).mono ?_
  rintro e w1 ⟨rfl, hb1⟩
  obtain ⟨hc1, hf1⟩ := bcell hb1
  have hz1 := hb1.size
  try simp at hz1
  have hl1w : w.heap.size < w1.heap.size := by omega
  have hm1w : w.heap.size ≤ w1.heap.size := by omega
  have g1x0 : w1.cell? ⟨w.heap.size, 0, none⟩ = some (.int .i64 (y)) := (hc1 _ _ (by first | omega | (simp; done) | (simp; omega))).trans (by first | (with_reducible assumption) | (simp [go_sem]; done) | (simp [go_sem, *]; done) | assumption)
  have g1x1 : w1.cell? ⟨w.heap.size, 1, none⟩ = some (.int .i64 (n)) := (hc1 _ _ (by first | omega | (simp; done) | (simp; omega))).trans (by first | (with_reducible assumption) | (simp [go_sem]; done) | (simp [go_sem, *]; done) | assumption)
  have g1x2 : w1.cell? ⟨w.heap.size, 2, none⟩ = some (.bool (l)) := (hc1 _ _ (by first | omega | (simp; done) | (simp; omega))).trans (by first | (with_reducible assumption) | (simp [go_sem]; done) | (simp [go_sem, *]; done) | assumption)
  have g1x3 : w1.cell? ⟨w.heap.size, 3, none⟩ = some (.int .i64 (d)) := (hc1 _ _ (by first | omega | (simp; done) | (simp; omega))).trans (by first | (with_reducible assumption) | (simp [go_sem]; done) | (simp [go_sem, *]; done) | assumption)
  go_wp2_with fail
  refine (HB.out _ (Tab.below hT (by repeat (first | (with_reducible exact Below.refl _ _) | (with_reducible assumption) | (with_reducible refine bdrew ?_) | (with_reducible refine baa ?_ _) | (with_reducible refine bs ?_ (by first | exact Nat.le_refl _ | omega | (simp; done) | (simp; omega)) _) | (with_reducible refine bt ?_ (by with_reducible assumption))))) (Tab.below hL (by repeat (first | (with_reducible exact Below.refl _ _) | (with_reducible assumption) | (with_reducible refine bdrew ?_) | (with_reducible refine baa ?_ _) | (with_reducible refine bs ?_ (by first | exact Nat.le_refl _ | omega | (simp; done) | (simp; omega)) _) | (with_reducible refine bt ?_ (by with_reducible assumption)))))).mono ?_
  rintro e w2 ⟨rfl, hb2⟩
  obtain ⟨hc2, hf2⟩ := bcell hb2
  have hz2 := hb2.size
  try simp at hz2
  have hl2w : w.heap.size < w2.heap.size := by omega
  have hm2w : w.heap.size ≤ w2.heap.size := by omega
  have hl2w1 : w1.heap.size < w2.heap.size := by omega
  have hm2w1 : w1.heap.size ≤ w2.heap.size := by omega
  have g2x0 : w2.cell? ⟨w.heap.size, 0, none⟩ = some (.int .i64 (y)) := (hc2 _ _ (by first | omega | (simp; done) | (simp; omega))).trans (by first | (with_reducible assumption) | (simp [go_sem]; done) | (simp [go_sem, *]; done) | assumption)
  have g2x1 : w2.cell? ⟨w.heap.size, 1, none⟩ = some (.int .i64 (n)) := (hc2 _ _ (by first | omega | (simp; done) | (simp; omega))).trans (by first | (with_reducible assumption) | (simp [go_sem]; done) | (simp [go_sem, *]; done) | assumption)
  have g2x2 : w2.cell? ⟨w.heap.size, 2, none⟩ = some (.bool (l)) := (hc2 _ _ (by first | omega | (simp; done) | (simp; omega))).trans (by first | (with_reducible assumption) | (simp [go_sem]; done) | (simp [go_sem, *]; done) | assumption)
  have g2x3 : w2.cell? ⟨w.heap.size, 3, none⟩ = some (.int .i64 (d)) := (hc2 _ _ (by first | omega | (simp; done) | (simp; omega))).trans (by first | (with_reducible assumption) | (simp [go_sem]; done) | (simp [go_sem, *]; done) | assumption)
  have g2x4 : w2.cell? ⟨w1.heap.size, 0, none⟩ = some (.int .i64 (a1)) := (hc2 _ _ (by first | omega | (simp; done) | (simp; omega))).trans (by first | (with_reducible assumption) | (simp [go_sem]; done) | (simp [go_sem, *]; done) | assumption)
  have g2x5 : w2.cell? ⟨w1.heap.size, 1, none⟩ = some (.int .i64 (a2)) := (hc2 _ _ (by first | omega | (simp; done) | (simp; omega))).trans (by first | (with_reducible assumption) | (simp [go_sem]; done) | (simp [go_sem, *]; done) | assumption)
  have g2x6 : w2.cell? ⟨w1.heap.size, 2, none⟩ = some (.bool (a3)) := (hc2 _ _ (by first | omega | (simp; done) | (simp; omega))).trans (by first | (with_reducible assumption) | (simp [go_sem]; done) | (simp [go_sem, *]; done) | assumption)
  have g2x7 : w2.cell? ⟨w1.heap.size, 3, none⟩ = some (.int .i64 (a4)) := (hc2 _ _ (by first | omega | (simp; done) | (simp; omega))).trans (by first | (with_reducible assumption) | (simp [go_sem]; done) | (simp [go_sem, *]; done) | assumption)
  go_wp2_with fail
  refine (HC.out _ (Tab.below hT (by repeat (first | (with_reducible exact Below.refl _ _) | (with_reducible assumption) | (with_reducible refine bdrew ?_) | (with_reducible refine baa ?_ _) | (with_reducible refine bs ?_ (by first | exact Nat.le_refl _ | omega | (simp; done) | (simp; omega)) _) | (with_reducible refine bt ?_ (by with_reducible assumption))))) (Tab.below hL (by repeat (first | (with_reducible exact Below.refl _ _) | (with_reducible assumption) | (with_reducible refine bdrew ?_) | (with_reducible refine baa ?_ _) | (with_reducible refine bs ?_ (by first | exact Nat.le_refl _ | omega | (simp; done) | (simp; omega)) _) | (with_reducible refine bt ?_ (by with_reducible assumption)))))).mono ?_
  rintro e w3 ⟨rfl, hb3⟩
  obtain ⟨hc3, hf3⟩ := bcell hb3
  have hz3 := hb3.size
  try simp at hz3
  have hl3w : w.heap.size < w3.heap.size := by omega
  have hm3w : w.heap.size ≤ w3.heap.size := by omega
  have hl3w1 : w1.heap.size < w3.heap.size := by omega
  have hm3w1 : w1.heap.size ≤ w3.heap.size := by omega
  have hl3w2 : w2.heap.size < w3.heap.size := by omega
  have hm3w2 : w2.heap.size ≤ w3.heap.size := by omega
  have g3x0 : w3.cell? ⟨w.heap.size, 0, none⟩ = some (.int .i64 (y)) := (hc3 _ _ (by first | omega | (simp; done) | (simp; omega))).trans (by first | (with_reducible assumption) | (simp [go_sem]; done) | (simp [go_sem, *]; done) | assumption)
  have g3x1 : w3.cell? ⟨w.heap.size, 1, none⟩ = some (.int .i64 (n)) := (hc3 _ _ (by first | omega | (simp; done) | (simp; omega))).trans (by first | (with_reducible assumption) | (simp [go_sem]; done) | (simp [go_sem, *]; done) | assumption)
  have g3x2 : w3.cell? ⟨w.heap.size, 2, none⟩ = some (.bool (l)) := (hc3 _ _ (by first | omega | (simp; done) | (simp; omega))).trans (by first | (with_reducible assumption) | (simp [go_sem]; done) | (simp [go_sem, *]; done) | assumption)
  have g3x3 : w3.cell? ⟨w.heap.size, 3, none⟩ = some (.int .i64 (d)) := (hc3 _ _ (by first | omega | (simp; done) | (simp; omega))).trans (by first | (with_reducible assumption) | (simp [go_sem]; done) | (simp [go_sem, *]; done) | assumption)
  have g3x4 : w3.cell? ⟨w1.heap.size, 0, none⟩ = some (.int .i64 (a1)) := (hc3 _ _ (by first | omega | (simp; done) | (simp; omega))).trans (by first | (with_reducible assumption) | (simp [go_sem]; done) | (simp [go_sem, *]; done) | assumption)
  have g3x5 : w3.cell? ⟨w1.heap.size, 1, none⟩ = some (.int .i64 (a2)) := (hc3 _ _ (by first | omega | (simp; done) | (simp; omega))).trans (by first | (with_reducible assumption) | (simp [go_sem]; done) | (simp [go_sem, *]; done) | assumption)
  have g3x6 : w3.cell? ⟨w1.heap.size, 2, none⟩ = some (.bool (a3)) := (hc3 _ _ (by first | omega | (simp; done) | (simp; omega))).trans (by first | (with_reducible assumption) | (simp [go_sem]; done) | (simp [go_sem, *]; done) | assumption)
  have g3x7 : w3.cell? ⟨w1.heap.size, 3, none⟩ = some (.int .i64 (a4)) := (hc3 _ _ (by first | omega | (simp; done) | (simp; omega))).trans (by first | (with_reducible assumption) | (simp [go_sem]; done) | (simp [go_sem, *]; done) | assumption)
  have g3x8 : w3.cell? ⟨w2.heap.size, 0, none⟩ = some (.int .i64 (b1)) := (hc3 _ _ (by first | omega | (simp; done) | (simp; omega))).trans (by first | (with_reducible assumption) | (simp [go_sem]; done) | (simp [go_sem, *]; done) | assumption)
  have g3x9 : w3.cell? ⟨w2.heap.size, 1, none⟩ = some (.int .i64 (b2)) := (hc3 _ _ (by first | omega | (simp; done) | (simp; omega))).trans (by first | (with_reducible assumption) | (simp [go_sem]; done) | (simp [go_sem, *]; done) | assumption)
  have g3x10 : w3.cell? ⟨w2.heap.size, 2, none⟩ = some (.bool (b3)) := (hc3 _ _ (by first | omega | (simp; done) | (simp; omega))).trans (by first | (with_reducible assumption) | (simp [go_sem]; done) | (simp [go_sem, *]; done) | assumption)
  have g3x11 : w3.cell? ⟨w2.heap.size, 3, none⟩ = some (.int .i64 (b4)) := (hc3 _ _ (by first | omega | (simp; done) | (simp; omega))).trans (by first | (with_reducible assumption) | (simp [go_sem]; done) | (simp [go_sem, *]; done) | assumption)
  go_wp2_with fail
  refine (HD.out _ (Tab.below hT (by repeat (first | (with_reducible exact Below.refl _ _) | (with_reducible assumption) | (with_reducible refine bdrew ?_) | (with_reducible refine baa ?_ _) | (with_reducible refine bs ?_ (by first | exact Nat.le_refl _ | omega | (simp; done) | (simp; omega)) _) | (with_reducible refine bt ?_ (by with_reducible assumption))))) (Tab.below hL (by repeat (first | (with_reducible exact Below.refl _ _) | (with_reducible assumption) | (with_reducible refine bdrew ?_) | (with_reducible refine baa ?_ _) | (with_reducible refine bs ?_ (by first | exact Nat.le_refl _ | omega | (simp; done) | (simp; omega)) _) | (with_reducible refine bt ?_ (by with_reducible assumption)))))).mono ?_
  rintro e w4 ⟨rfl, hb4⟩
  obtain ⟨hc4, hf4⟩ := bcell hb4
  have hz4 := hb4.size
  try simp at hz4
  have hl4w1 : w1.heap.size < w4.heap.size := by omega
  have hm4w1 : w1.heap.size ≤ w4.heap.size := by omega
  have hl4w2 : w2.heap.size < w4.heap.size := by omega
  have hm4w2 : w2.heap.size ≤ w4.heap.size := by omega
  have hl4w3 : w3.heap.size < w4.heap.size := by omega
  have hm4w3 : w3.heap.size ≤ w4.heap.size := by omega
  have g4x0 : w4.cell? ⟨w1.heap.size, 0, none⟩ = some (.int .i64 (a1)) := (hc4 _ _ (by first | omega | (simp; done) | (simp; omega))).trans (by first | (with_reducible assumption) | (simp [go_sem]; done) | (simp [go_sem, *]; done) | assumption)
  have g4x1 : w4.cell? ⟨w1.heap.size, 1, none⟩ = some (.int .i64 (a2)) := (hc4 _ _ (by first | omega | (simp; done) | (simp; omega))).trans (by first | (with_reducible assumption) | (simp [go_sem]; done) | (simp [go_sem, *]; done) | assumption)
  have g4x2 : w4.cell? ⟨w1.heap.size, 2, none⟩ = some (.bool (a3)) := (hc4 _ _ (by first | omega | (simp; done) | (simp; omega))).trans (by first | (with_reducible assumption) | (simp [go_sem]; done) | (simp [go_sem, *]; done) | assumption)
  have g4x3 : w4.cell? ⟨w1.heap.size, 3, none⟩ = some (.int .i64 (a4)) := (hc4 _ _ (by first | omega | (simp; done) | (simp; omega))).trans (by first | (with_reducible assumption) | (simp [go_sem]; done) | (simp [go_sem, *]; done) | assumption)
  have g4x4 : w4.cell? ⟨w2.heap.size, 0, none⟩ = some (.int .i64 (b1)) := (hc4 _ _ (by first | omega | (simp; done) | (simp; omega))).trans (by first | (with_reducible assumption) | (simp [go_sem]; done) | (simp [go_sem, *]; done) | assumption)
  have g4x5 : w4.cell? ⟨w2.heap.size, 1, none⟩ = some (.int .i64 (b2)) := (hc4 _ _ (by first | omega | (simp; done) | (simp; omega))).trans (by first | (with_reducible assumption) | (simp [go_sem]; done) | (simp [go_sem, *]; done) | assumption)
  have g4x6 : w4.cell? ⟨w2.heap.size, 2, none⟩ = some (.bool (b3)) := (hc4 _ _ (by first | omega | (simp; done) | (simp; omega))).trans (by first | (with_reducible assumption) | (simp [go_sem]; done) | (simp [go_sem, *]; done) | assumption)
  have g4x7 : w4.cell? ⟨w2.heap.size, 3, none⟩ = some (.int .i64 (b4)) := (hc4 _ _ (by first | omega | (simp; done) | (simp; omega))).trans (by first | (with_reducible assumption) | (simp [go_sem]; done) | (simp [go_sem, *]; done) | assumption)
  have g4x8 : w4.cell? ⟨w3.heap.size, 0, none⟩ = some (.int .i64 (a1)) := (hc4 _ _ (by first | omega | (simp; done) | (simp; omega))).trans (by first | (with_reducible assumption) | (simp [go_sem]; done) | (simp [go_sem, *]; done) | assumption)
  have g4x9 : w4.cell? ⟨w3.heap.size, 1, none⟩ = some (.int .i64 (c2)) := (hc4 _ _ (by first | omega | (simp; done) | (simp; omega))).trans (by first | (with_reducible assumption) | (simp [go_sem]; done) | (simp [go_sem, *]; done) | assumption)
  have g4x10 : w4.cell? ⟨w3.heap.size, 2, none⟩ = some (.bool (c3)) := (hc4 _ _ (by first | omega | (simp; done) | (simp; omega))).trans (by first | (with_reducible assumption) | (simp [go_sem]; done) | (simp [go_sem, *]; done) | assumption)
  have g4x11 : w4.cell? ⟨w3.heap.size, 3, none⟩ = some (.int .i64 (c4)) := (hc4 _ _ (by first | omega | (simp; done) | (simp; omega))).trans (by first | (with_reducible assumption) | (simp [go_sem]; done) | (simp [go_sem, *]; done) | assumption)
  go_wp2_with fail
  refine (HI.out _).mono ?_
  rintro e w5 ⟨rfl, hb5⟩
  obtain ⟨hc5, hf5⟩ := bcell hb5
  have hz5 := hb5.size
  try simp at hz5
  have hl5w1 : w1.heap.size < w5.heap.size := by omega
  have hm5w1 : w1.heap.size ≤ w5.heap.size := by omega
  have hl5w2 : w2.heap.size < w5.heap.size := by omega
  have hm5w2 : w2.heap.size ≤ w5.heap.size := by omega
  have hl5w3 : w3.heap.size < w5.heap.size := by omega
  have hm5w3 : w3.heap.size ≤ w5.heap.size := by omega
  have hl5w4 : w4.heap.size < w5.heap.size := by omega
  have hm5w4 : w4.heap.size ≤ w5.heap.size := by omega
  have g5x0 : w5.cell? ⟨w1.heap.size, 0, none⟩ = some (.int .i64 (a1)) := (hc5 _ _ (by first | omega | (simp; done) | (simp; omega))).trans (by first | (with_reducible assumption) | (simp [go_sem]; done) | (simp [go_sem, *]; done) | assumption)
  have g5x1 : w5.cell? ⟨w1.heap.size, 1, none⟩ = some (.int .i64 (a2)) := (hc5 _ _ (by first | omega | (simp; done) | (simp; omega))).trans (by first | (with_reducible assumption) | (simp [go_sem]; done) | (simp [go_sem, *]; done) | assumption)
  have g5x2 : w5.cell? ⟨w1.heap.size, 2, none⟩ = some (.bool (a3)) := (hc5 _ _ (by first | omega | (simp; done) | (simp; omega))).trans (by first | (with_reducible assumption) | (simp [go_sem]; done) | (simp [go_sem, *]; done) | assumption)
  have g5x3 : w5.cell? ⟨w1.heap.size, 3, none⟩ = some (.int .i64 (a4)) := (hc5 _ _ (by first | omega | (simp; done) | (simp; omega))).trans (by first | (with_reducible assumption) | (simp [go_sem]; done) | (simp [go_sem, *]; done) | assumption)
  have g5x4 : w5.cell? ⟨w2.heap.size, 0, none⟩ = some (.int .i64 (b1)) := (hc5 _ _ (by first | omega | (simp; done) | (simp; omega))).trans (by first | (with_reducible assumption) | (simp [go_sem]; done) | (simp [go_sem, *]; done) | assumption)
  have g5x5 : w5.cell? ⟨w2.heap.size, 1, none⟩ = some (.int .i64 (b2)) := (hc5 _ _ (by first | omega | (simp; done) | (simp; omega))).trans (by first | (with_reducible assumption) | (simp [go_sem]; done) | (simp [go_sem, *]; done) | assumption)
  have g5x6 : w5.cell? ⟨w2.heap.size, 2, none⟩ = some (.bool (b3)) := (hc5 _ _ (by first | omega | (simp; done) | (simp; omega))).trans (by first | (with_reducible assumption) | (simp [go_sem]; done) | (simp [go_sem, *]; done) | assumption)
  have g5x7 : w5.cell? ⟨w2.heap.size, 3, none⟩ = some (.int .i64 (b4)) := (hc5 _ _ (by first | omega | (simp; done) | (simp; omega))).trans (by first | (with_reducible assumption) | (simp [go_sem]; done) | (simp [go_sem, *]; done) | assumption)
  have g5x8 : w5.cell? ⟨w3.heap.size, 0, none⟩ = some (.int .i64 (a1)) := (hc5 _ _ (by first | omega | (simp; done) | (simp; omega))).trans (by first | (with_reducible assumption) | (simp [go_sem]; done) | (simp [go_sem, *]; done) | assumption)
  have g5x9 : w5.cell? ⟨w3.heap.size, 1, none⟩ = some (.int .i64 (c2)) := (hc5 _ _ (by first | omega | (simp; done) | (simp; omega))).trans (by first | (with_reducible assumption) | (simp [go_sem]; done) | (simp [go_sem, *]; done) | assumption)
  have g5x10 : w5.cell? ⟨w3.heap.size, 2, none⟩ = some (.bool (c3)) := (hc5 _ _ (by first | omega | (simp; done) | (simp; omega))).trans (by first | (with_reducible assumption) | (simp [go_sem]; done) | (simp [go_sem, *]; done) | assumption)
  have g5x11 : w5.cell? ⟨w3.heap.size, 3, none⟩ = some (.int .i64 (c4)) := (hc5 _ _ (by first | omega | (simp; done) | (simp; omega))).trans (by first | (with_reducible assumption) | (simp [go_sem]; done) | (simp [go_sem, *]; done) | assumption)
  have g5x12 : w5.cell? ⟨w4.heap.size, 0, none⟩ = some (.int .i64 (b1)) := (hc5 _ _ (by first | omega | (simp; done) | (simp; omega))).trans (by first | (with_reducible assumption) | (simp [go_sem]; done) | (simp [go_sem, *]; done) | assumption)
  have g5x13 : w5.cell? ⟨w4.heap.size, 1, none⟩ = some (.int .i64 (d2)) := (hc5 _ _ (by first | omega | (simp; done) | (simp; omega))).trans (by first | (with_reducible assumption) | (simp [go_sem]; done) | (simp [go_sem, *]; done) | assumption)
  have g5x14 : w5.cell? ⟨w4.heap.size, 2, none⟩ = some (.bool (d3)) := (hc5 _ _ (by first | omega | (simp; done) | (simp; omega))).trans (by first | (with_reducible assumption) | (simp [go_sem]; done) | (simp [go_sem, *]; done) | assumption)
  have g5x15 : w5.cell? ⟨w4.heap.size, 3, none⟩ = some (.int .i64 (d4)) := (hc5 _ _ (by first | omega | (simp; done) | (simp; omega))).trans (by first | (with_reducible assumption) | (simp [go_sem]; done) | (simp [go_sem, *]; done) | assumption)
  go_wp2_with fail
  refine (HJ.out _).mono ?_
  rintro e w6 ⟨rfl, hb6⟩
  obtain ⟨hc6, hf6⟩ := bcell hb6
  have hz6 := hb6.size
  try simp at hz6
  have hl6w2 : w2.heap.size < w6.heap.size := by omega
  have hm6w2 : w2.heap.size ≤ w6.heap.size := by omega
  have hl6w3 : w3.heap.size < w6.heap.size := by omega
  have hm6w3 : w3.heap.size ≤ w6.heap.size := by omega
  have hl6w4 : w4.heap.size < w6.heap.size := by omega
  have hm6w4 : w4.heap.size ≤ w6.heap.size := by omega
  have g6x0 : w6.cell? ⟨w2.heap.size, 0, none⟩ = some (.int .i64 (b1)) := (hc6 _ _ (by first | omega | (simp; done) | (simp; omega))).trans (by first | (with_reducible assumption) | (simp [go_sem]; done) | (simp [go_sem, *]; done) | assumption)
  have g6x1 : w6.cell? ⟨w2.heap.size, 1, none⟩ = some (.int .i64 (b2)) := (hc6 _ _ (by first | omega | (simp; done) | (simp; omega))).trans (by first | (with_reducible assumption) | (simp [go_sem]; done) | (simp [go_sem, *]; done) | assumption)
  have g6x2 : w6.cell? ⟨w2.heap.size, 2, none⟩ = some (.bool (b3)) := (hc6 _ _ (by first | omega | (simp; done) | (simp; omega))).trans (by first | (with_reducible assumption) | (simp [go_sem]; done) | (simp [go_sem, *]; done) | assumption)
  have g6x3 : w6.cell? ⟨w2.heap.size, 3, none⟩ = some (.int .i64 (b4)) := (hc6 _ _ (by first | omega | (simp; done) | (simp; omega))).trans (by first | (with_reducible assumption) | (simp [go_sem]; done) | (simp [go_sem, *]; done) | assumption)
  have g6x4 : w6.cell? ⟨w3.heap.size, 0, none⟩ = some (.int .i64 (a1)) := (hc6 _ _ (by first | omega | (simp; done) | (simp; omega))).trans (by first | (with_reducible assumption) | (simp [go_sem]; done) | (simp [go_sem, *]; done) | assumption)
  have g6x5 : w6.cell? ⟨w3.heap.size, 1, none⟩ = some (.int .i64 (c2)) := (hc6 _ _ (by first | omega | (simp; done) | (simp; omega))).trans (by first | (with_reducible assumption) | (simp [go_sem]; done) | (simp [go_sem, *]; done) | assumption)
  have g6x6 : w6.cell? ⟨w3.heap.size, 2, none⟩ = some (.bool (c3)) := (hc6 _ _ (by first | omega | (simp; done) | (simp; omega))).trans (by first | (with_reducible assumption) | (simp [go_sem]; done) | (simp [go_sem, *]; done) | assumption)
  have g6x7 : w6.cell? ⟨w3.heap.size, 3, none⟩ = some (.int .i64 (c4)) := (hc6 _ _ (by first | omega | (simp; done) | (simp; omega))).trans (by first | (with_reducible assumption) | (simp [go_sem]; done) | (simp [go_sem, *]; done) | assumption)
  have g6x8 : w6.cell? ⟨w4.heap.size, 0, none⟩ = some (.int .i64 (b1)) := (hc6 _ _ (by first | omega | (simp; done) | (simp; omega))).trans (by first | (with_reducible assumption) | (simp [go_sem]; done) | (simp [go_sem, *]; done) | assumption)
  have g6x9 : w6.cell? ⟨w4.heap.size, 1, none⟩ = some (.int .i64 (d2)) := (hc6 _ _ (by first | omega | (simp; done) | (simp; omega))).trans (by first | (with_reducible assumption) | (simp [go_sem]; done) | (simp [go_sem, *]; done) | assumption)
  have g6x10 : w6.cell? ⟨w4.heap.size, 2, none⟩ = some (.bool (d3)) := (hc6 _ _ (by first | omega | (simp; done) | (simp; omega))).trans (by first | (with_reducible assumption) | (simp [go_sem]; done) | (simp [go_sem, *]; done) | assumption)
  have g6x11 : w6.cell? ⟨w4.heap.size, 3, none⟩ = some (.int .i64 (d4)) := (hc6 _ _ (by first | omega | (simp; done) | (simp; omega))).trans (by first | (with_reducible assumption) | (simp [go_sem]; done) | (simp [go_sem, *]; done) | assumption)
  go_wp2_with fail
  refine (HM.out _).mono ?_
  rintro e w7 ⟨rfl, hb7⟩
  obtain ⟨hc7, hf7⟩ := bcell hb7
  have hz7 := hb7.size
  try simp at hz7
  have hl7w3 : w3.heap.size < w7.heap.size := by omega
  have hm7w3 : w3.heap.size ≤ w7.heap.size := by omega
  have hl7w4 : w4.heap.size < w7.heap.size := by omega
  have hm7w4 : w4.heap.size ≤ w7.heap.size := by omega
  have g7x0 : w7.cell? ⟨w3.heap.size, 0, none⟩ = some (.int .i64 (a1)) := (hc7 _ _ (by first | omega | (simp; done) | (simp; omega))).trans (by first | (with_reducible assumption) | (simp [go_sem]; done) | (simp [go_sem, *]; done) | assumption)
  have g7x1 : w7.cell? ⟨w3.heap.size, 1, none⟩ = some (.int .i64 (c2)) := (hc7 _ _ (by first | omega | (simp; done) | (simp; omega))).trans (by first | (with_reducible assumption) | (simp [go_sem]; done) | (simp [go_sem, *]; done) | assumption)
  have g7x2 : w7.cell? ⟨w3.heap.size, 2, none⟩ = some (.bool (c3)) := (hc7 _ _ (by first | omega | (simp; done) | (simp; omega))).trans (by first | (with_reducible assumption) | (simp [go_sem]; done) | (simp [go_sem, *]; done) | assumption)
  have g7x3 : w7.cell? ⟨w3.heap.size, 3, none⟩ = some (.int .i64 (c4)) := (hc7 _ _ (by first | omega | (simp; done) | (simp; omega))).trans (by first | (with_reducible assumption) | (simp [go_sem]; done) | (simp [go_sem, *]; done) | assumption)
  have g7x4 : w7.cell? ⟨w4.heap.size, 0, none⟩ = some (.int .i64 (b1)) := (hc7 _ _ (by first | omega | (simp; done) | (simp; omega))).trans (by first | (with_reducible assumption) | (simp [go_sem]; done) | (simp [go_sem, *]; done) | assumption)
  have g7x5 : w7.cell? ⟨w4.heap.size, 1, none⟩ = some (.int .i64 (d2)) := (hc7 _ _ (by first | omega | (simp; done) | (simp; omega))).trans (by first | (with_reducible assumption) | (simp [go_sem]; done) | (simp [go_sem, *]; done) | assumption)
  have g7x6 : w7.cell? ⟨w4.heap.size, 2, none⟩ = some (.bool (d3)) := (hc7 _ _ (by first | omega | (simp; done) | (simp; omega))).trans (by first | (with_reducible assumption) | (simp [go_sem]; done) | (simp [go_sem, *]; done) | assumption)
  have g7x7 : w7.cell? ⟨w4.heap.size, 3, none⟩ = some (.int .i64 (d4)) := (hc7 _ _ (by first | omega | (simp; done) | (simp; omega))).trans (by first | (with_reducible assumption) | (simp [go_sem]; done) | (simp [go_sem, *]; done) | assumption)
  go_wp2_with fail
  refine (HN.out _).mono ?_
  rintro e w8 ⟨rfl, hb8⟩
  obtain ⟨hc8, hf8⟩ := bcell hb8
  have hz8 := hb8.size
  try simp at hz8
  have hl8w4 : w4.heap.size < w8.heap.size := by omega
  have hm8w4 : w4.heap.size ≤ w8.heap.size := by omega
  have g8x0 : w8.cell? ⟨w4.heap.size, 0, none⟩ = some (.int .i64 (b1)) := (hc8 _ _ (by first | omega | (simp; done) | (simp; omega))).trans (by first | (with_reducible assumption) | (simp [go_sem]; done) | (simp [go_sem, *]; done) | assumption)
  have g8x1 : w8.cell? ⟨w4.heap.size, 1, none⟩ = some (.int .i64 (d2)) := (hc8 _ _ (by first | omega | (simp; done) | (simp; omega))).trans (by first | (with_reducible assumption) | (simp [go_sem]; done) | (simp [go_sem, *]; done) | assumption)
  have g8x2 : w8.cell? ⟨w4.heap.size, 2, none⟩ = some (.bool (d3)) := (hc8 _ _ (by first | omega | (simp; done) | (simp; omega))).trans (by first | (with_reducible assumption) | (simp [go_sem]; done) | (simp [go_sem, *]; done) | assumption)
  have g8x3 : w8.cell? ⟨w4.heap.size, 3, none⟩ = some (.int .i64 (d4)) := (hc8 _ _ (by first | omega | (simp; done) | (simp; omega))).trans (by first | (with_reducible assumption) | (simp [go_sem]; done) | (simp [go_sem, *]; done) | assumption)
  go_wp2_with fail
  refine (awake18 _ (Tab.below hT (by repeat (first | (with_reducible exact Below.refl _ _) | (with_reducible assumption) | (with_reducible refine bdrew ?_) | (with_reducible refine baa ?_ _) | (with_reducible refine bs ?_ (by first | exact Nat.le_refl _ | omega | (simp; done) | (simp; omega)) _) | (with_reducible refine bt ?_ (by with_reducible assumption))))) (Tab.below hL (by repeat (first | (with_reducible exact Below.refl _ _) | (with_reducible assumption) | (with_reducible refine bdrew ?_) | (with_reducible refine baa ?_ _) | (with_reducible refine bs ?_ (by first | exact Nat.le_refl _ | omega | (simp; done) | (simp; omega)) _) | (with_reducible refine bt ?_ (by with_reducible assumption)))))).mono ?_
  rintro e w9 ⟨rfl, hb9⟩
  obtain ⟨hc9, hf9⟩ := bcell hb9
  have hz9 := hb9.size
  try simp at hz9
  go_wp2_with fail
  go_ret
  refine ⟨by first | rfl | (simp [*]; done), ?_⟩
  repeat (first | (with_reducible exact Below.refl _ _) | (with_reducible assumption) | (with_reducible refine bdrew ?_) | (with_reducible refine baa ?_ _) | (with_reducible refine bs ?_ (by first | exact Nat.le_refl _ | omega | (simp; done) | (simp; omega)) _) | (with_reducible refine bt ?_ (by with_reducible assumption)))
theorem AnnivLater_walk (y n : Int) (l : Bool) (d q m : Int) (hy : I64 y) (hn : I64 n) (hd : I64 d) (hq : 0 ≤ q ∧ q ≤ 65535) (hm : 0 ≤ m ∧ m ≤ 255) (w : World) (hT : Tab w 8 kevCells) (hL : Tab w 5 lenCells) :
    Calls Tryd.prog 11 #[.agg #[.int .i64 (y), .int .i64 (n), .bool (l), .int .i64 (d)], .int .u16 q, .int .u8 m] w fun e w' => e = .returned (.bool true) ∧ Below w.heap.size w w' := by
  have hKb : 0 ≤ q % 9999 ∧ q % 9999 < 9999 := by omega
  generalize hK : q % 9999 = K at hKb
  have HA := fun w hT hL => anniv_Birth y n l d (1 + K) hy hd ⟨by omega, by omega⟩ w hT hL
  have HB := fun w hT hL => anniv_Birth y n l d (1 + K + 1 + m) hy hd ⟨by omega, by omega⟩ w hT hL
  have HC := fun w hT hL => anniv_Death y n l d (1 + K) hy hd ⟨by omega, by omega⟩ w hT hL
  have HD := fun w hT hL => anniv_Death y n l d (1 + K + 1 + m) hy hd ⟨by omega, by omega⟩ w hT hL
  by_cases h0 : A18.chkE y n l d (1 + K) = 0
  · rw [h0] at HA HC
    by_cases h1 : A18.chkE y n l d (1 + K + 1 + m) = 0
    · rw [h1] at HB HD
      have x1 := (A18.bir_date h0).1
      have x2 := (A18.bir_date h1).1
      have x3 := A18.dth_date h0
      have x4 := A18.dth_date h1
      have z1 := A18.bir_later h0 h1 (by omega)
      have z2 := A18.dth_later h0 h1 (by omega)
      have Y1 : A18.bY y n l d (1 + K) = 1 + K := (A18.bir_date h0).2
      have Y2 : A18.bY y n l d (1 + K + 1 + m) = 1 + K + 1 + m := (A18.bir_date h1).2
      have I1 : I64 (A18.bY y n l d (1 + K)) := by rw [Y1]; exact ⟨by omega, by omega⟩
      have I2 : I64 (A18.bY y n l d (1 + K + 1 + m)) := by rw [Y2]; exact ⟨by omega, by omega⟩
      have HI := fun w => ref10_ToDay (A18.bY y n l d (1 + K)) (A18.bN y n l d (1 + K)) (A18.bL y n l d (1 + K)) (A18.bD y n l d (1 + K)) w I1
      have HJ := fun w => ref10_ToDay (A18.bY y n l d (1 + K + 1 + m)) (A18.bN y n l d (1 + K + 1 + m)) (A18.bL y n l d (1 + K + 1 + m)) (A18.bD y n l d (1 + K + 1 + m)) w I2
      have HM := fun w => ref10_ToDay (A18.bY y n l d (1 + K)) (A18.tN y n l d (1 + K)) (A18.tL y n l d (1 + K)) (A18.tD y n l d (1 + K)) w I1
      have HN := fun w => ref10_ToDay (A18.bY y n l d (1 + K + 1 + m)) (A18.tN y n l d (1 + K + 1 + m)) (A18.tL y n l d (1 + K + 1 + m)) (A18.tD y n l d (1 + K + 1 + m)) w I2
      have g1 := (D10.dayV_ok _ _ _ _ x1).2
      have g2 := (D10.dayV_ok _ _ _ _ x2).2
      have g3 := (D10.dayV_ok _ _ _ _ x3).2
      have g4 := (D10.dayV_ok _ _ _ _ x4).2
      rw [x1] at HI
      rw [x2] at HJ
      rw [x3] at HM
      rw [x4] at HN
      exact AnnivLater_go y n l d q m hq hm K hK _ _ _ _ _ _ _ _ _ _ _ _ _ _ _ _ _ _ w hT hL (Lib.hid HA) (Lib.hid HB) (Lib.hid HC) (Lib.hid HD) (Lib.hid HI) (Lib.hid HJ) (Lib.hid HM) (Lib.hid HN) ⟨by omega, by omega, by omega, by omega⟩ (by simpa using z1) (by simpa using z2)
    · exact AnnivLater_f y n l d q m hq hm K hK _ _ _ _ _ _ _ _ _ _ _ _ _ _ _ w hT hL (Lib.hid HA) (Lib.hid HB) (Lib.hid HC) (Lib.hid HD) (by simpa using h1)
  · exact AnnivLater_e y n l d q m hq hm K hK _ _ _ _ _ _ _ _ _ _ _ _ _ _ _ _ w hT hL (Lib.hid HA) (Lib.hid HB) (Lib.hid HC) (Lib.hid HD) (by simpa using h0)
end Go.Proofs.YtmiadhiomingmaaDoor
