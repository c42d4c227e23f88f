/- Layer 17: UntilBack. -/
import Derived.Test.YtafenpgafmdenaaGreatDoorGC
namespace Go.Proofs.YtafenpgafmdenaaGreatDoor
open Go.ChangeShapes Go.WideShapes Go.ChangeAt Go.RowKit
set_option linter.unusedVariables false
set_option maxRecDepth 100000
set_option maxHeartbeats 4000000 in
theorem UntilBack_ea (y n : Int) (l : Bool) (d z k : Int) (h : Bool) (f : Int) (unit : Int) (hu : 0 ≤ unit ∧ unit ≤ 255) (er D1 D2 eb : Int) (w : World) (hT : Tab w 8 kevCells) (hL : Tab w 6 lenCells) (HA : Hid (∀ w : World, Tab w 8 kevCells → Tab w 6 lenCells → Calls Tryz.prog 34 #[.agg #[.int .i64 (y), .int .i64 (n), .bool (l), .int .i64 (d)], .agg #[.int .i64 (z), .int .i64 (k), .bool (h), .int .i64 (f)], .int .i64 (unit % 4)] w fun e w' => e = .returned (.tuple #[.agg #[.int .i64 (0), .int .i64 (0), .int .i64 (0), .int .i64 (0)], .int .i64 (er)]) ∧ Below w.heap.size w w')) (HTa : Hid (∀ w : World, Calls Tryz.prog 37 #[.agg #[.int .i64 (y), .int .i64 (n), .bool (l), .int .i64 (d)]] w fun e w' => e = .returned (.tuple #[.int .i64 (D1), .int .i64 (er)]) ∧ Below w.heap.size w w')) (HTb : Hid (∀ w : World, Calls Tryz.prog 37 #[.agg #[.int .i64 (z), .int .i64 (k), .bool (h), .int .i64 (f)]] w fun e w' => e = .returned (.tuple #[.int .i64 (D2), .int .i64 (eb)]) ∧ Below w.heap.size w w')) (hne : (er != 0) = true) (hnz : (er == 0) = false) :
    Calls Tryz.prog 8 #[.agg #[.int .i64 (y), .int .i64 (n), .bool (l), .int .i64 (d)], .agg #[.int .i64 (z), .int .i64 (k), .bool (h), .int .i64 (f)], .int .u8 unit] w fun e w' => e = .returned (.bool true) ∧ Below w.heap.size w w' := by
  obtain ⟨hu0, hu1⟩ := hu
  go_enter Tryz.func8, Tryz.ntmps8
  go_wp2_with fail
  refine (HA.out _ (Tab.below hT (by repeat (first | (with_reducible exact Below.refl _ _) | (with_reducible assumption) | (with_reducible refine bdrew ?_) | (with_reducible refine baa ?_ _) | (with_reducible refine bs ?_ (by first | exact Nat.le_refl _ | omega | (simp; done) | (simp; omega)) _) | (with_reducible refine bt ?_ (by with_reducible assumption))))) (Tab.below hL (by repeat (first | (with_reducible exact Below.refl _ _) | (with_reducible assumption) | (with_reducible refine bdrew ?_) | (with_reducible refine baa ?_ _) | (with_reducible refine bs ?_ (by first | exact Nat.le_refl _ | omega | (simp; done) | (simp; omega)) _) | (with_reducible refine bt ?_ (by with_reducible assumption)))))).mono ?_
  rintro e w1 ⟨rfl, hb1⟩
  obtain ⟨hc1, hf1⟩ := bcell hb1
  have hz1 := hb1.size
  try simp at hz1
  have hs1x0 : w.heap.size < w1.heap.size := by omega
  have hs1x1 : (w.heap.size + 1) < w1.heap.size := by omega
  have g1x0 : w1.cell? ⟨w.heap.size, 0, none⟩ = some (.int .i64 (y)) := (hc1 _ _ (by first | omega | (simp; done) | (simp; omega))).trans (by first | (with_reducible assumption) | (simp [go_sem]; done) | (simp [go_sem, *]; done) | assumption)
  have g1x1 : w1.cell? ⟨w.heap.size, 1, none⟩ = some (.int .i64 (n)) := (hc1 _ _ (by first | omega | (simp; done) | (simp; omega))).trans (by first | (with_reducible assumption) | (simp [go_sem]; done) | (simp [go_sem, *]; done) | assumption)
  have g1x2 : w1.cell? ⟨w.heap.size, 2, none⟩ = some (.bool (l)) := (hc1 _ _ (by first | omega | (simp; done) | (simp; omega))).trans (by first | (with_reducible assumption) | (simp [go_sem]; done) | (simp [go_sem, *]; done) | assumption)
  have g1x3 : w1.cell? ⟨w.heap.size, 3, none⟩ = some (.int .i64 (d)) := (hc1 _ _ (by first | omega | (simp; done) | (simp; omega))).trans (by first | (with_reducible assumption) | (simp [go_sem]; done) | (simp [go_sem, *]; done) | assumption)
  have g1x4 : w1.cell? ⟨(w.heap.size + 1), 0, none⟩ = some (.int .i64 (z)) := (hc1 _ _ (by first | omega | (simp; done) | (simp; omega))).trans (by first | (with_reducible assumption) | (simp [go_sem]; done) | (simp [go_sem, *]; done) | assumption)
  have g1x5 : w1.cell? ⟨(w.heap.size + 1), 1, none⟩ = some (.int .i64 (k)) := (hc1 _ _ (by first | omega | (simp; done) | (simp; omega))).trans (by first | (with_reducible assumption) | (simp [go_sem]; done) | (simp [go_sem, *]; done) | assumption)
  have g1x6 : w1.cell? ⟨(w.heap.size + 1), 2, none⟩ = some (.bool (h)) := (hc1 _ _ (by first | omega | (simp; done) | (simp; omega))).trans (by first | (with_reducible assumption) | (simp [go_sem]; done) | (simp [go_sem, *]; done) | assumption)
  have g1x7 : w1.cell? ⟨(w.heap.size + 1), 3, none⟩ = some (.int .i64 (f)) := (hc1 _ _ (by first | omega | (simp; done) | (simp; omega))).trans (by first | (with_reducible assumption) | (simp [go_sem]; done) | (simp [go_sem, *]; done) | assumption)
  go_wp2_with fail
  refine (HTa.out _).mono ?_
  rintro e w2 ⟨rfl, hb2⟩
  obtain ⟨hc2, hf2⟩ := bcell hb2
  have hz2 := hb2.size
  try simp at hz2
  have hl2w1 : w1.heap.size < w2.heap.size := by omega
  have hm2w1 : w1.heap.size ≤ w2.heap.size := by omega
  have hs2x0 : w.heap.size < w2.heap.size := by omega
  have hs2x1 : (w.heap.size + 1) < w2.heap.size := by omega
  have g2x0 : w2.cell? ⟨w.heap.size, 0, none⟩ = some (.int .i64 (y)) := (hc2 _ _ (by first | omega | (simp; done) | (simp; omega))).trans (by first | (with_reducible assumption) | (simp [go_sem]; done) | (simp [go_sem, *]; done) | assumption)
  have g2x1 : w2.cell? ⟨w.heap.size, 1, none⟩ = some (.int .i64 (n)) := (hc2 _ _ (by first | omega | (simp; done) | (simp; omega))).trans (by first | (with_reducible assumption) | (simp [go_sem]; done) | (simp [go_sem, *]; done) | assumption)
  have g2x2 : w2.cell? ⟨w.heap.size, 2, none⟩ = some (.bool (l)) := (hc2 _ _ (by first | omega | (simp; done) | (simp; omega))).trans (by first | (with_reducible assumption) | (simp [go_sem]; done) | (simp [go_sem, *]; done) | assumption)
  have g2x3 : w2.cell? ⟨w.heap.size, 3, none⟩ = some (.int .i64 (d)) := (hc2 _ _ (by first | omega | (simp; done) | (simp; omega))).trans (by first | (with_reducible assumption) | (simp [go_sem]; done) | (simp [go_sem, *]; done) | assumption)
  have g2x4 : w2.cell? ⟨(w.heap.size + 1), 0, none⟩ = some (.int .i64 (z)) := (hc2 _ _ (by first | omega | (simp; done) | (simp; omega))).trans (by first | (with_reducible assumption) | (simp [go_sem]; done) | (simp [go_sem, *]; done) | assumption)
  have g2x5 : w2.cell? ⟨(w.heap.size + 1), 1, none⟩ = some (.int .i64 (k)) := (hc2 _ _ (by first | omega | (simp; done) | (simp; omega))).trans (by first | (with_reducible assumption) | (simp [go_sem]; done) | (simp [go_sem, *]; done) | assumption)
  have g2x6 : w2.cell? ⟨(w.heap.size + 1), 2, none⟩ = some (.bool (h)) := (hc2 _ _ (by first | omega | (simp; done) | (simp; omega))).trans (by first | (with_reducible assumption) | (simp [go_sem]; done) | (simp [go_sem, *]; done) | assumption)
  have g2x7 : w2.cell? ⟨(w.heap.size + 1), 3, none⟩ = some (.int .i64 (f)) := (hc2 _ _ (by first | omega | (simp; done) | (simp; omega))).trans (by first | (with_reducible assumption) | (simp [go_sem]; done) | (simp [go_sem, *]; done) | assumption)
  have g2x8 : w2.cell? ⟨w1.heap.size, 0, none⟩ = some (.int .i64 (0)) := (hc2 _ _ (by first | omega | (simp; done) | (simp; omega))).trans (by first | (with_reducible assumption) | (simp [go_sem]; done) | (simp [go_sem, *]; done) | assumption)
  have g2x9 : w2.cell? ⟨w1.heap.size, 1, none⟩ = some (.int .i64 (0)) := (hc2 _ _ (by first | omega | (simp; done) | (simp; omega))).trans (by first | (with_reducible assumption) | (simp [go_sem]; done) | (simp [go_sem, *]; done) | assumption)
  have g2x10 : w2.cell? ⟨w1.heap.size, 2, none⟩ = some (.int .i64 (0)) := (hc2 _ _ (by first | omega | (simp; done) | (simp; omega))).trans (by first | (with_reducible assumption) | (simp [go_sem]; done) | (simp [go_sem, *]; done) | assumption)
  have g2x11 : w2.cell? ⟨w1.heap.size, 3, none⟩ = some (.int .i64 (0)) := (hc2 _ _ (by first | omega | (simp; done) | (simp; omega))).trans (by first | (with_reducible assumption) | (simp [go_sem]; done) | (simp [go_sem, *]; done) | assumption)
  go_wp2_with fail
  refine (HTb.out _).mono ?_
  rintro e w3 ⟨rfl, hb3⟩
  obtain ⟨hc3, hf3⟩ := bcell hb3
  have hz3 := hb3.size
  try simp at hz3
  have hl3w1 : w1.heap.size < w3.heap.size := by omega
  have hm3w1 : w1.heap.size ≤ w3.heap.size := by omega
  have hs3x0 : w.heap.size < w3.heap.size := by omega
  have hs3x1 : (w.heap.size + 1) < w3.heap.size := by omega
  have g3x0 : w3.cell? ⟨w.heap.size, 0, none⟩ = some (.int .i64 (y)) := (hc3 _ _ (by first | omega | (simp; done) | (simp; omega))).trans (by first | (with_reducible assumption) | (simp [go_sem]; done) | (simp [go_sem, *]; done) | assumption)
  have g3x1 : w3.cell? ⟨w.heap.size, 1, none⟩ = some (.int .i64 (n)) := (hc3 _ _ (by first | omega | (simp; done) | (simp; omega))).trans (by first | (with_reducible assumption) | (simp [go_sem]; done) | (simp [go_sem, *]; done) | assumption)
  have g3x2 : w3.cell? ⟨w.heap.size, 2, none⟩ = some (.bool (l)) := (hc3 _ _ (by first | omega | (simp; done) | (simp; omega))).trans (by first | (with_reducible assumption) | (simp [go_sem]; done) | (simp [go_sem, *]; done) | assumption)
  have g3x3 : w3.cell? ⟨w.heap.size, 3, none⟩ = some (.int .i64 (d)) := (hc3 _ _ (by first | omega | (simp; done) | (simp; omega))).trans (by first | (with_reducible assumption) | (simp [go_sem]; done) | (simp [go_sem, *]; done) | assumption)
  have g3x4 : w3.cell? ⟨(w.heap.size + 1), 0, none⟩ = some (.int .i64 (z)) := (hc3 _ _ (by first | omega | (simp; done) | (simp; omega))).trans (by first | (with_reducible assumption) | (simp [go_sem]; done) | (simp [go_sem, *]; done) | assumption)
  have g3x5 : w3.cell? ⟨(w.heap.size + 1), 1, none⟩ = some (.int .i64 (k)) := (hc3 _ _ (by first | omega | (simp; done) | (simp; omega))).trans (by first | (with_reducible assumption) | (simp [go_sem]; done) | (simp [go_sem, *]; done) | assumption)
  have g3x6 : w3.cell? ⟨(w.heap.size + 1), 2, none⟩ = some (.bool (h)) := (hc3 _ _ (by first | omega | (simp; done) | (simp; omega))).trans (by first | (with_reducible assumption) | (simp [go_sem]; done) | (simp [go_sem, *]; done) | assumption)
  have g3x7 : w3.cell? ⟨(w.heap.size + 1), 3, none⟩ = some (.int .i64 (f)) := (hc3 _ _ (by first | omega | (simp; done) | (simp; omega))).trans (by first | (with_reducible assumption) | (simp [go_sem]; done) | (simp [go_sem, *]; done) | assumption)
  have g3x8 : w3.cell? ⟨w1.heap.size, 0, none⟩ = some (.int .i64 (0)) := (hc3 _ _ (by first | omega | (simp; done) | (simp; omega))).trans (by first | (with_reducible assumption) | (simp [go_sem]; done) | (simp [go_sem, *]; done) | assumption)
  have g3x9 : w3.cell? ⟨w1.heap.size, 1, none⟩ = some (.int .i64 (0)) := (hc3 _ _ (by first | omega | (simp; done) | (simp; omega))).trans (by first | (with_reducible assumption) | (simp [go_sem]; done) | (simp [go_sem, *]; done) | assumption)
  have g3x10 : w3.cell? ⟨w1.heap.size, 2, none⟩ = some (.int .i64 (0)) := (hc3 _ _ (by first | omega | (simp; done) | (simp; omega))).trans (by first | (with_reducible assumption) | (simp [go_sem]; done) | (simp [go_sem, *]; done) | assumption)
  have g3x11 : w3.cell? ⟨w1.heap.size, 3, none⟩ = some (.int .i64 (0)) := (hc3 _ _ (by first | omega | (simp; done) | (simp; omega))).trans (by first | (with_reducible assumption) | (simp [go_sem]; done) | (simp [go_sem, *]; done) | assumption)
  go_wp2_with fail
  refine (awake17 _ (Tab.below hT (by repeat (first | (with_reducible exact Below.refl _ _) | (with_reducible assumption) | (with_reducible refine bdrew ?_) | (with_reducible refine baa ?_ _) | (with_reducible refine bs ?_ (by first | exact Nat.le_refl _ | omega | (simp; done) | (simp; omega)) _) | (with_reducible refine bt ?_ (by with_reducible assumption))))) (Tab.below hL (by repeat (first | (with_reducible exact Below.refl _ _) | (with_reducible assumption) | (with_reducible refine bdrew ?_) | (with_reducible refine baa ?_ _) | (with_reducible refine bs ?_ (by first | exact Nat.le_refl _ | omega | (simp; done) | (simp; omega)) _) | (with_reducible refine bt ?_ (by with_reducible assumption)))))).mono ?_
  rintro e w4 ⟨rfl, hb4⟩
  obtain ⟨hc4, hf4⟩ := bcell hb4
  have hz4 := hb4.size
  try simp at hz4
  go_wp2_with fail
  go_ret
  refine ⟨by first | rfl | (simp [*]; done), ?_⟩
  repeat (first | (with_reducible exact Below.refl _ _) | (with_reducible assumption) | (with_reducible refine bdrew ?_) | (with_reducible refine baa ?_ _) | (with_reducible refine bs ?_ (by first | exact Nat.le_refl _ | omega | (simp; done) | (simp; omega)) _) | (with_reducible refine bt ?_ (by with_reducible assumption)))
set_option maxHeartbeats 4000000 in
theorem UntilBack_eb (y n : Int) (l : Bool) (d z k : Int) (h : Bool) (f : Int) (unit : Int) (hu : 0 ≤ unit ∧ unit ≤ 255) (er D1 D2 : Int) (w : World) (hT : Tab w 8 kevCells) (hL : Tab w 6 lenCells) (HA : Hid (∀ w : World, Tab w 8 kevCells → Tab w 6 lenCells → Calls Tryz.prog 34 #[.agg #[.int .i64 (y), .int .i64 (n), .bool (l), .int .i64 (d)], .agg #[.int .i64 (z), .int .i64 (k), .bool (h), .int .i64 (f)], .int .i64 (unit % 4)] w fun e w' => e = .returned (.tuple #[.agg #[.int .i64 (0), .int .i64 (0), .int .i64 (0), .int .i64 (0)], .int .i64 (er)]) ∧ Below w.heap.size w w')) (HTa : Hid (∀ w : World, Calls Tryz.prog 37 #[.agg #[.int .i64 (y), .int .i64 (n), .bool (l), .int .i64 (d)]] w fun e w' => e = .returned (.tuple #[.int .i64 (D1), .int .i64 (0)]) ∧ Below w.heap.size w w')) (HTb : Hid (∀ w : World, Calls Tryz.prog 37 #[.agg #[.int .i64 (z), .int .i64 (k), .bool (h), .int .i64 (f)]] w fun e w' => e = .returned (.tuple #[.int .i64 (D2), .int .i64 (er)]) ∧ Below w.heap.size w w')) (hne : (er != 0) = true) (hnz : (er == 0) = false) :
    Calls Tryz.prog 8 #[.agg #[.int .i64 (y), .int .i64 (n), .bool (l), .int .i64 (d)], .agg #[.int .i64 (z), .int .i64 (k), .bool (h), .int .i64 (f)], .int .u8 unit] w fun e w' => e = .returned (.bool true) ∧ Below w.heap.size w w' := by
  obtain ⟨hu0, hu1⟩ := hu
  go_enter Tryz.func8, Tryz.ntmps8
  go_wp2_with fail
  refine (HA.out _ (Tab.below hT (by repeat (first | (with_reducible exact Below.refl _ _) | (with_reducible assumption) | (with_reducible refine bdrew ?_) | (with_reducible refine baa ?_ _) | (with_reducible refine bs ?_ (by first | exact Nat.le_refl _ | omega | (simp; done) | (simp; omega)) _) | (with_reducible refine bt ?_ (by with_reducible assumption))))) (Tab.below hL (by repeat (first | (with_reducible exact Below.refl _ _) | (with_reducible assumption) | (with_reducible refine bdrew ?_) | (with_reducible refine baa ?_ _) | (with_reducible refine bs ?_ (by first | exact Nat.le_refl _ | omega | (simp; done) | (simp; omega)) _) | (with_reducible refine bt ?_ (by with_reducible assumption)))))).mono ?_
  rintro e w1 ⟨rfl, hb1⟩
  obtain ⟨hc1, hf1⟩ := bcell hb1
  have hz1 := hb1.size
  try simp at hz1
  have hs1x0 : w.heap.size < w1.heap.size := by omega
  have hs1x1 : (w.heap.size + 1) < w1.heap.size := by omega
  have g1x0 : w1.cell? ⟨w.heap.size, 0, none⟩ = some (.int .i64 (y)) := (hc1 _ _ (by first | omega | (simp; done) | (simp; omega))).trans (by first | (with_reducible assumption) | (simp [go_sem]; done) | (simp [go_sem, *]; done) | assumption)
  have g1x1 : w1.cell? ⟨w.heap.size, 1, none⟩ = some (.int .i64 (n)) := (hc1 _ _ (by first | omega | (simp; done) | (simp; omega))).trans (by first | (with_reducible assumption) | (simp [go_sem]; done) | (simp [go_sem, *]; done) | assumption)
  have g1x2 : w1.cell? ⟨w.heap.size, 2, none⟩ = some (.bool (l)) := (hc1 _ _ (by first | omega | (simp; done) | (simp; omega))).trans (by first | (with_reducible assumption) | (simp [go_sem]; done) | (simp [go_sem, *]; done) | assumption)
  have g1x3 : w1.cell? ⟨w.heap.size, 3, none⟩ = some (.int .i64 (d)) := (hc1 _ _ (by first | omega | (simp; done) | (simp; omega))).trans (by first | (with_reducible assumption) | (simp [go_sem]; done) | (simp [go_sem, *]; done) | assumption)
  have g1x4 : w1.cell? ⟨(w.heap.size + 1), 0, none⟩ = some (.int .i64 (z)) := (hc1 _ _ (by first | omega | (simp; done) | (simp; omega))).trans (by first | (with_reducible assumption) | (simp [go_sem]; done) | (simp [go_sem, *]; done) | assumption)
  have g1x5 : w1.cell? ⟨(w.heap.size + 1), 1, none⟩ = some (.int .i64 (k)) := (hc1 _ _ (by first | omega | (simp; done) | (simp; omega))).trans (by first | (with_reducible assumption) | (simp [go_sem]; done) | (simp [go_sem, *]; done) | assumption)
  have g1x6 : w1.cell? ⟨(w.heap.size + 1), 2, none⟩ = some (.bool (h)) := (hc1 _ _ (by first | omega | (simp; done) | (simp; omega))).trans (by first | (with_reducible assumption) | (simp [go_sem]; done) | (simp [go_sem, *]; done) | assumption)
  have g1x7 : w1.cell? ⟨(w.heap.size + 1), 3, none⟩ = some (.int .i64 (f)) := (hc1 _ _ (by first | omega | (simp; done) | (simp; omega))).trans (by first | (with_reducible assumption) | (simp [go_sem]; done) | (simp [go_sem, *]; done) | assumption)
  go_wp2_with fail
  refine (HTa.out _).mono ?_
  rintro e w2 ⟨rfl, hb2⟩
  obtain ⟨hc2, hf2⟩ := bcell hb2
  have hz2 := hb2.size
  try simp at hz2
  have hl2w1 : w1.heap.size < w2.heap.size := by omega
  have hm2w1 : w1.heap.size ≤ w2.heap.size := by omega
  have hs2x0 : w.heap.size < w2.heap.size := by omega
  have hs2x1 : (w.heap.size + 1) < w2.heap.size := by omega
  have g2x0 : w2.cell? ⟨w.heap.size, 0, none⟩ = some (.int .i64 (y)) := (hc2 _ _ (by first | omega | (simp; done) | (simp; omega))).trans (by first | (with_reducible assumption) | (simp [go_sem]; done) | (simp [go_sem, *]; done) | assumption)
  have g2x1 : w2.cell? ⟨w.heap.size, 1, none⟩ = some (.int .i64 (n)) := (hc2 _ _ (by first | omega | (simp; done) | (simp; omega))).trans (by first | (with_reducible assumption) | (simp [go_sem]; done) | (simp [go_sem, *]; done) | assumption)
  have g2x2 : w2.cell? ⟨w.heap.size, 2, none⟩ = some (.bool (l)) := (hc2 _ _ (by first | omega | (simp; done) | (simp; omega))).trans (by first | (with_reducible assumption) | (simp [go_sem]; done) | (simp [go_sem, *]; done) | assumption)
  have g2x3 : w2.cell? ⟨w.heap.size, 3, none⟩ = some (.int .i64 (d)) := (hc2 _ _ (by first | omega | (simp; done) | (simp; omega))).trans (by first | (with_reducible assumption) | (simp [go_sem]; done) | (simp [go_sem, *]; done) | assumption)
  have g2x4 : w2.cell? ⟨(w.heap.size + 1), 0, none⟩ = some (.int .i64 (z)) := (hc2 _ _ (by first | omega | (simp; done) | (simp; omega))).trans (by first | (with_reducible assumption) | (simp [go_sem]; done) | (simp [go_sem, *]; done) | assumption)
  have g2x5 : w2.cell? ⟨(w.heap.size + 1), 1, none⟩ = some (.int .i64 (k)) := (hc2 _ _ (by first | omega | (simp; done) | (simp; omega))).trans (by first | (with_reducible assumption) | (simp [go_sem]; done) | (simp [go_sem, *]; done) | assumption)
  have g2x6 : w2.cell? ⟨(w.heap.size + 1), 2, none⟩ = some (.bool (h)) := (hc2 _ _ (by first | omega | (simp; done) | (simp; omega))).trans (by first | (with_reducible assumption) | (simp [go_sem]; done) | (simp [go_sem, *]; done) | assumption)
  have g2x7 : w2.cell? ⟨(w.heap.size + 1), 3, none⟩ = some (.int .i64 (f)) := (hc2 _ _ (by first | omega | (simp; done) | (simp; omega))).trans (by first | (with_reducible assumption) | (simp [go_sem]; done) | (simp [go_sem, *]; done) | assumption)
  have g2x8 : w2.cell? ⟨w1.heap.size, 0, none⟩ = some (.int .i64 (0)) := (hc2 _ _ (by first | omega | (simp; done) | (simp; omega))).trans (by first | (with_reducible assumption) | (simp [go_sem]; done) | (simp [go_sem, *]; done) | assumption)
  have g2x9 : w2.cell? ⟨w1.heap.size, 1, none⟩ = some (.int .i64 (0)) := (hc2 _ _ (by first | omega | (simp; done) | (simp; omega))).trans (by first | (with_reducible assumption) | (simp [go_sem]; done) | (simp [go_sem, *]; done) | assumption)
  have g2x10 : w2.cell? ⟨w1.heap.size, 2, none⟩ = some (.int .i64 (0)) := (hc2 _ _ (by first | omega | (simp; done) | (simp; omega))).trans (by first | (with_reducible assumption) | (simp [go_sem]; done) | (simp [go_sem, *]; done) | assumption)
  have g2x11 : w2.cell? ⟨w1.heap.size, 3, none⟩ = some (.int .i64 (0)) := (hc2 _ _ (by first | omega | (simp; done) | (simp; omega))).trans (by first | (with_reducible assumption) | (simp [go_sem]; done) | (simp [go_sem, *]; done) | assumption)
  go_wp2_with fail
  refine (HTb.out _).mono ?_
  rintro e w3 ⟨rfl, hb3⟩
  obtain ⟨hc3, hf3⟩ := bcell hb3
  have hz3 := hb3.size
  try simp at hz3
  have hl3w1 : w1.heap.size < w3.heap.size := by omega
  have hm3w1 : w1.heap.size ≤ w3.heap.size := by omega
  have hs3x0 : w.heap.size < w3.heap.size := by omega
  have hs3x1 : (w.heap.size + 1) < w3.heap.size := by omega
  have g3x0 : w3.cell? ⟨w.heap.size, 0, none⟩ = some (.int .i64 (y)) := (hc3 _ _ (by first | omega | (simp; done) | (simp; omega))).trans (by first | (with_reducible assumption) | (simp [go_sem]; done) | (simp [go_sem, *]; done) | assumption)
  have g3x1 : w3.cell? ⟨w.heap.size, 1, none⟩ = some (.int .i64 (n)) := (hc3 _ _ (by first | omega | (simp; done) | (simp; omega))).trans (by first | (with_reducible assumption) | (simp [go_sem]; done) | (simp [go_sem, *]; done) | assumption)
  have g3x2 : w3.cell? ⟨w.heap.size, 2, none⟩ = some (.bool (l)) := (hc3 _ _ (by first | omega | (simp; done) | (simp; omega))).trans (by first | (with_reducible assumption) | (simp [go_sem]; done) | (simp [go_sem, *]; done) | assumption)
  have g3x3 : w3.cell? ⟨w.heap.size, 3, none⟩ = some (.int .i64 (d)) := (hc3 _ _ (by first | omega | (simp; done) | (simp; omega))).trans (by first | (with_reducible assumption) | (simp [go_sem]; done) | (simp [go_sem, *]; done) | assumption)
  have g3x4 : w3.cell? ⟨(w.heap.size + 1), 0, none⟩ = some (.int .i64 (z)) := (hc3 _ _ (by first | omega | (simp; done) | (simp; omega))).trans (by first | (with_reducible assumption) | (simp [go_sem]; done) | (simp [go_sem, *]; done) | assumption)
  have g3x5 : w3.cell? ⟨(w.heap.size + 1), 1, none⟩ = some (.int .i64 (k)) := (hc3 _ _ (by first | omega | (simp; done) | (simp; omega))).trans (by first | (with_reducible assumption) | (simp [go_sem]; done) | (simp [go_sem, *]; done) | assumption)
  have g3x6 : w3.cell? ⟨(w.heap.size + 1), 2, none⟩ = some (.bool (h)) := (hc3 _ _ (by first | omega | (simp; done) | (simp; omega))).trans (by first | (with_reducible assumption) | (simp [go_sem]; done) | (simp [go_sem, *]; done) | assumption)
  have g3x7 : w3.cell? ⟨(w.heap.size + 1), 3, none⟩ = some (.int .i64 (f)) := (hc3 _ _ (by first | omega | (simp; done) | (simp; omega))).trans (by first | (with_reducible assumption) | (simp [go_sem]; done) | (simp [go_sem, *]; done) | assumption)
  have g3x8 : w3.cell? ⟨w1.heap.size, 0, none⟩ = some (.int .i64 (0)) := (hc3 _ _ (by first | omega | (simp; done) | (simp; omega))).trans (by first | (with_reducible assumption) | (simp [go_sem]; done) | (simp [go_sem, *]; done) | assumption)
  have g3x9 : w3.cell? ⟨w1.heap.size, 1, none⟩ = some (.int .i64 (0)) := (hc3 _ _ (by first | omega | (simp; done) | (simp; omega))).trans (by first | (with_reducible assumption) | (simp [go_sem]; done) | (simp [go_sem, *]; done) | assumption)
  have g3x10 : w3.cell? ⟨w1.heap.size, 2, none⟩ = some (.int .i64 (0)) := (hc3 _ _ (by first | omega | (simp; done) | (simp; omega))).trans (by first | (with_reducible assumption) | (simp [go_sem]; done) | (simp [go_sem, *]; done) | assumption)
  have g3x11 : w3.cell? ⟨w1.heap.size, 3, none⟩ = some (.int .i64 (0)) := (hc3 _ _ (by first | omega | (simp; done) | (simp; omega))).trans (by first | (with_reducible assumption) | (simp [go_sem]; done) | (simp [go_sem, *]; done) | assumption)
  go_wp2_with fail
  refine (awake17 _ (Tab.below hT (by repeat (first | (with_reducible exact Below.refl _ _) | (with_reducible assumption) | (with_reducible refine bdrew ?_) | (with_reducible refine baa ?_ _) | (with_reducible refine bs ?_ (by first | exact Nat.le_refl _ | omega | (simp; done) | (simp; omega)) _) | (with_reducible refine bt ?_ (by with_reducible assumption))))) (Tab.below hL (by repeat (first | (with_reducible exact Below.refl _ _) | (with_reducible assumption) | (with_reducible refine bdrew ?_) | (with_reducible refine baa ?_ _) | (with_reducible refine bs ?_ (by first | exact Nat.le_refl _ | omega | (simp; done) | (simp; omega)) _) | (with_reducible refine bt ?_ (by with_reducible assumption)))))).mono ?_
  rintro e w4 ⟨rfl, hb4⟩
  obtain ⟨hc4, hf4⟩ := bcell hb4
  have hz4 := hb4.size
  try simp at hz4
  go_wp2_with fail
  go_ret
  refine ⟨by first | rfl | (simp [*]; done), ?_⟩
  repeat (first | (with_reducible exact Below.refl _ _) | (with_reducible assumption) | (with_reducible refine bdrew ?_) | (with_reducible refine baa ?_ _) | (with_reducible refine bs ?_ (by first | exact Nat.le_refl _ | omega | (simp; done) | (simp; omega)) _) | (with_reducible refine bt ?_ (by with_reducible assumption)))
set_option maxHeartbeats 4000000 in
theorem UntilBack_up (y n : Int) (l : Bool) (d z k : Int) (h : Bool) (f : Int) (unit : Int) (hu : 0 ≤ unit ∧ unit ≤ 255) (va vb vc vq D1 D2 : Int) (w : World) (hT : Tab w 8 kevCells) (hL : Tab w 6 lenCells) (HA : Hid (∀ w : World, Tab w 8 kevCells → Tab w 6 lenCells → Calls Tryz.prog 34 #[.agg #[.int .i64 (y), .int .i64 (n), .bool (l), .int .i64 (d)], .agg #[.int .i64 (z), .int .i64 (k), .bool (h), .int .i64 (f)], .int .i64 (unit % 4)] w fun e w' => e = .returned (.tuple #[.agg #[.int .i64 (va), .int .i64 (vb), .int .i64 (vc), .int .i64 (vq)], .int .i64 (0)]) ∧ Below w.heap.size w w')) (HTa : Hid (∀ w : World, Calls Tryz.prog 37 #[.agg #[.int .i64 (y), .int .i64 (n), .bool (l), .int .i64 (d)]] w fun e w' => e = .returned (.tuple #[.int .i64 (D1), .int .i64 (0)]) ∧ Below w.heap.size w w')) (HTb : Hid (∀ w : World, Calls Tryz.prog 37 #[.agg #[.int .i64 (z), .int .i64 (k), .bool (h), .int .i64 (f)]] w fun e w' => e = .returned (.tuple #[.int .i64 (D2), .int .i64 (0)]) ∧ Below w.heap.size w w')) (HTo : Hid (∀ w : World, Calls Tryz.prog 28 #[.agg #[.int .i64 (y), .int .i64 (n), .bool (l), .int .i64 (d)], .agg #[.int .i64 (va), .int .i64 (vb), .int .i64 (vc), .int .i64 (vq)], .int .i64 0] w fun e w' => e = .returned (.tuple #[.agg #[.int .i64 (z), .int .i64 (k), .bool (h), .int .i64 (f)], .int .i64 (0)]) ∧ Below w.heap.size w w')) (hd : D1 ≤ D2) (p0 : 0 ≤ va) (p1 : 0 ≤ vb) (p2 : 0 ≤ vc) (p3 : 0 ≤ vq) :
    Calls Tryz.prog 8 #[.agg #[.int .i64 (y), .int .i64 (n), .bool (l), .int .i64 (d)], .agg #[.int .i64 (z), .int .i64 (k), .bool (h), .int .i64 (f)], .int .u8 unit] w fun e w' => e = .returned (.bool true) ∧ Below w.heap.size w w' := by
  obtain ⟨hu0, hu1⟩ := hu
  go_enter Tryz.func8, Tryz.ntmps8
  go_wp2_with fail
  refine (HA.out _ (Tab.below hT (by repeat (first | (with_reducible exact Below.refl _ _) | (with_reducible assumption) | (with_reducible refine bdrew ?_) | (with_reducible refine baa ?_ _) | (with_reducible refine bs ?_ (by first | exact Nat.le_refl _ | omega | (simp; done) | (simp; omega)) _) | (with_reducible refine bt ?_ (by with_reducible assumption))))) (Tab.below hL (by repeat (first | (with_reducible exact Below.refl _ _) | (with_reducible assumption) | (with_reducible refine bdrew ?_) | (with_reducible refine baa ?_ _) | (with_reducible refine bs ?_ (by first | exact Nat.le_refl _ | omega | (simp; done) | (simp; omega)) _) | (with_reducible refine bt ?_ (by with_reducible assumption)))))).mono ?_
  rintro e w1 ⟨rfl, hb1⟩
  obtain ⟨hc1, hf1⟩ := bcell hb1
  have hz1 := hb1.size
  try simp at hz1
  have hs1x0 : w.heap.size < w1.heap.size := by omega
  have hs1x1 : (w.heap.size + 1) < w1.heap.size := by omega
  have g1x0 : w1.cell? ⟨w.heap.size, 0, none⟩ = some (.int .i64 (y)) := (hc1 _ _ (by first | omega | (simp; done) | (simp; omega))).trans (by first | (with_reducible assumption) | (simp [go_sem]; done) | (simp [go_sem, *]; done) | assumption)
  have g1x1 : w1.cell? ⟨w.heap.size, 1, none⟩ = some (.int .i64 (n)) := (hc1 _ _ (by first | omega | (simp; done) | (simp; omega))).trans (by first | (with_reducible assumption) | (simp [go_sem]; done) | (simp [go_sem, *]; done) | assumption)
  have g1x2 : w1.cell? ⟨w.heap.size, 2, none⟩ = some (.bool (l)) := (hc1 _ _ (by first | omega | (simp; done) | (simp; omega))).trans (by first | (with_reducible assumption) | (simp [go_sem]; done) | (simp [go_sem, *]; done) | assumption)
  have g1x3 : w1.cell? ⟨w.heap.size, 3, none⟩ = some (.int .i64 (d)) := (hc1 _ _ (by first | omega | (simp; done) | (simp; omega))).trans (by first | (with_reducible assumption) | (simp [go_sem]; done) | (simp [go_sem, *]; done) | assumption)
  have g1x4 : w1.cell? ⟨(w.heap.size + 1), 0, none⟩ = some (.int .i64 (z)) := (hc1 _ _ (by first | omega | (simp; done) | (simp; omega))).trans (by first | (with_reducible assumption) | (simp [go_sem]; done) | (simp [go_sem, *]; done) | assumption)
  have g1x5 : w1.cell? ⟨(w.heap.size + 1), 1, none⟩ = some (.int .i64 (k)) := (hc1 _ _ (by first | omega | (simp; done) | (simp; omega))).trans (by first | (with_reducible assumption) | (simp [go_sem]; done) | (simp [go_sem, *]; done) | assumption)
  have g1x6 : w1.cell? ⟨(w.heap.size + 1), 2, none⟩ = some (.bool (h)) := (hc1 _ _ (by first | omega | (simp; done) | (simp; omega))).trans (by first | (with_reducible assumption) | (simp [go_sem]; done) | (simp [go_sem, *]; done) | assumption)
  have g1x7 : w1.cell? ⟨(w.heap.size + 1), 3, none⟩ = some (.int .i64 (f)) := (hc1 _ _ (by first | omega | (simp; done) | (simp; omega))).trans (by first | (with_reducible assumption) | (simp [go_sem]; done) | (simp [go_sem, *]; done) | assumption)
  go_wp2_with fail
  refine (HTa.out _).mono ?_
  rintro e w2 ⟨rfl, hb2⟩
  obtain ⟨hc2, hf2⟩ := bcell hb2
  have hz2 := hb2.size
  try simp at hz2
  have hl2w1 : w1.heap.size < w2.heap.size := by omega
  have hm2w1 : w1.heap.size ≤ w2.heap.size := by omega
  have hs2x0 : w.heap.size < w2.heap.size := by omega
  have hs2x1 : (w.heap.size + 1) < w2.heap.size := by omega
  have g2x0 : w2.cell? ⟨w.heap.size, 0, none⟩ = some (.int .i64 (y)) := (hc2 _ _ (by first | omega | (simp; done) | (simp; omega))).trans (by first | (with_reducible assumption) | (simp [go_sem]; done) | (simp [go_sem, *]; done) | assumption)
  have g2x1 : w2.cell? ⟨w.heap.size, 1, none⟩ = some (.int .i64 (n)) := (hc2 _ _ (by first | omega | (simp; done) | (simp; omega))).trans (by first | (with_reducible assumption) | (simp [go_sem]; done) | (simp [go_sem, *]; done) | assumption)
  have g2x2 : w2.cell? ⟨w.heap.size, 2, none⟩ = some (.bool (l)) := (hc2 _ _ (by first | omega | (simp; done) | (simp; omega))).trans (by first | (with_reducible assumption) | (simp [go_sem]; done) | (simp [go_sem, *]; done) | assumption)
  have g2x3 : w2.cell? ⟨w.heap.size, 3, none⟩ = some (.int .i64 (d)) := (hc2 _ _ (by first | omega | (simp; done) | (simp; omega))).trans (by first | (with_reducible assumption) | (simp [go_sem]; done) | (simp [go_sem, *]; done) | assumption)
  have g2x4 : w2.cell? ⟨(w.heap.size + 1), 0, none⟩ = some (.int .i64 (z)) := (hc2 _ _ (by first | omega | (simp; done) | (simp; omega))).trans (by first | (with_reducible assumption) | (simp [go_sem]; done) | (simp [go_sem, *]; done) | assumption)
  have g2x5 : w2.cell? ⟨(w.heap.size + 1), 1, none⟩ = some (.int .i64 (k)) := (hc2 _ _ (by first | omega | (simp; done) | (simp; omega))).trans (by first | (with_reducible assumption) | (simp [go_sem]; done) | (simp [go_sem, *]; done) | assumption)
  have g2x6 : w2.cell? ⟨(w.heap.size + 1), 2, none⟩ = some (.bool (h)) := (hc2 _ _ (by first | omega | (simp; done) | (simp; omega))).trans (by first | (with_reducible assumption) | (simp [go_sem]; done) | (simp [go_sem, *]; done) | assumption)
  have g2x7 : w2.cell? ⟨(w.heap.size + 1), 3, none⟩ = some (.int .i64 (f)) := (hc2 _ _ (by first | omega | (simp; done) | (simp; omega))).trans (by first | (with_reducible assumption) | (simp [go_sem]; done) | (simp [go_sem, *]; done) | assumption)
  have g2x8 : w2.cell? ⟨w1.heap.size, 0, none⟩ = some (.int .i64 (va)) := (hc2 _ _ (by first | omega | (simp; done) | (simp; omega))).trans (by first | (with_reducible assumption) | (simp [go_sem]; done) | (simp [go_sem, *]; done) | assumption)
  have g2x9 : w2.cell? ⟨w1.heap.size, 1, none⟩ = some (.int .i64 (vb)) := (hc2 _ _ (by first | omega | (simp; done) | (simp; omega))).trans (by first | (with_reducible assumption) | (simp [go_sem]; done) | (simp [go_sem, *]; done) | assumption)
  have g2x10 : w2.cell? ⟨w1.heap.size, 2, none⟩ = some (.int .i64 (vc)) := (hc2 _ _ (by first | omega | (simp; done) | (simp; omega))).trans (by first | (with_reducible assumption) | (simp [go_sem]; done) | (simp [go_sem, *]; done) | assumption)
  have g2x11 : w2.cell? ⟨w1.heap.size, 3, none⟩ = some (.int .i64 (vq)) := (hc2 _ _ (by first | omega | (simp; done) | (simp; omega))).trans (by first | (with_reducible assumption) | (simp [go_sem]; done) | (simp [go_sem, *]; done) | assumption)
  go_wp2_with fail
  refine (HTb.out _).mono ?_
  rintro e w3 ⟨rfl, hb3⟩
  obtain ⟨hc3, hf3⟩ := bcell hb3
  have hz3 := hb3.size
  try simp at hz3
  have hl3w1 : w1.heap.size < w3.heap.size := by omega
  have hm3w1 : w1.heap.size ≤ w3.heap.size := by omega
  have hs3x0 : w.heap.size < w3.heap.size := by omega
  have hs3x1 : (w.heap.size + 1) < w3.heap.size := by omega
  have g3x0 : w3.cell? ⟨w.heap.size, 0, none⟩ = some (.int .i64 (y)) := (hc3 _ _ (by first | omega | (simp; done) | (simp; omega))).trans (by first | (with_reducible assumption) | (simp [go_sem]; done) | (simp [go_sem, *]; done) | assumption)
  have g3x1 : w3.cell? ⟨w.heap.size, 1, none⟩ = some (.int .i64 (n)) := (hc3 _ _ (by first | omega | (simp; done) | (simp; omega))).trans (by first | (with_reducible assumption) | (simp [go_sem]; done) | (simp [go_sem, *]; done) | assumption)
  have g3x2 : w3.cell? ⟨w.heap.size, 2, none⟩ = some (.bool (l)) := (hc3 _ _ (by first | omega | (simp; done) | (simp; omega))).trans (by first | (with_reducible assumption) | (simp [go_sem]; done) | (simp [go_sem, *]; done) | assumption)
  have g3x3 : w3.cell? ⟨w.heap.size, 3, none⟩ = some (.int .i64 (d)) := (hc3 _ _ (by first | omega | (simp; done) | (simp; omega))).trans (by first | (with_reducible assumption) | (simp [go_sem]; done) | (simp [go_sem, *]; done) | assumption)
  have g3x4 : w3.cell? ⟨(w.heap.size + 1), 0, none⟩ = some (.int .i64 (z)) := (hc3 _ _ (by first | omega | (simp; done) | (simp; omega))).trans (by first | (with_reducible assumption) | (simp [go_sem]; done) | (simp [go_sem, *]; done) | assumption)
  have g3x5 : w3.cell? ⟨(w.heap.size + 1), 1, none⟩ = some (.int .i64 (k)) := (hc3 _ _ (by first | omega | (simp; done) | (simp; omega))).trans (by first | (with_reducible assumption) | (simp [go_sem]; done) | (simp [go_sem, *]; done) | assumption)
  have g3x6 : w3.cell? ⟨(w.heap.size + 1), 2, none⟩ = some (.bool (h)) := (hc3 _ _ (by first | omega | (simp; done) | (simp; omega))).trans (by first | (with_reducible assumption) | (simp [go_sem]; done) | (simp [go_sem, *]; done) | assumption)
  have g3x7 : w3.cell? ⟨(w.heap.size + 1), 3, none⟩ = some (.int .i64 (f)) := (hc3 _ _ (by first | omega | (simp; done) | (simp; omega))).trans (by first | (with_reducible assumption) | (simp [go_sem]; done) | (simp [go_sem, *]; done) | assumption)
  have g3x8 : w3.cell? ⟨w1.heap.size, 0, none⟩ = some (.int .i64 (va)) := (hc3 _ _ (by first | omega | (simp; done) | (simp; omega))).trans (by first | (with_reducible assumption) | (simp [go_sem]; done) | (simp [go_sem, *]; done) | assumption)
  have g3x9 : w3.cell? ⟨w1.heap.size, 1, none⟩ = some (.int .i64 (vb)) := (hc3 _ _ (by first | omega | (simp; done) | (simp; omega))).trans (by first | (with_reducible assumption) | (simp [go_sem]; done) | (simp [go_sem, *]; done) | assumption)
  have g3x10 : w3.cell? ⟨w1.heap.size, 2, none⟩ = some (.int .i64 (vc)) := (hc3 _ _ (by first | omega | (simp; done) | (simp; omega))).trans (by first | (with_reducible assumption) | (simp [go_sem]; done) | (simp [go_sem, *]; done) | assumption)
  have g3x11 : w3.cell? ⟨w1.heap.size, 3, none⟩ = some (.int .i64 (vq)) := (hc3 _ _ (by first | omega | (simp; done) | (simp; omega))).trans (by first | (with_reducible assumption) | (simp [go_sem]; done) | (simp [go_sem, *]; done) | assumption)
  go_wp2_with fail
  refine (HTo.out _).mono ?_
  rintro e w4 ⟨rfl, hb4⟩
  obtain ⟨hc4, hf4⟩ := bcell hb4
  have hz4 := hb4.size
  try simp at hz4
  have hl4w1 : w1.heap.size < w4.heap.size := by omega
  have hm4w1 : w1.heap.size ≤ w4.heap.size := by omega
  have hs4x0 : w.heap.size < w4.heap.size := by omega
  have hs4x1 : (w.heap.size + 1) < w4.heap.size := by omega
  have g4x0 : w4.cell? ⟨w.heap.size, 0, none⟩ = some (.int .i64 (y)) := (hc4 _ _ (by first | omega | (simp; done) | (simp; omega))).trans (by first | (with_reducible assumption) | (simp [go_sem]; done) | (simp [go_sem, *]; done) | assumption)
  have g4x1 : w4.cell? ⟨w.heap.size, 1, none⟩ = some (.int .i64 (n)) := (hc4 _ _ (by first | omega | (simp; done) | (simp; omega))).trans (by first | (with_reducible assumption) | (simp [go_sem]; done) | (simp [go_sem, *]; done) | assumption)
  have g4x2 : w4.cell? ⟨w.heap.size, 2, none⟩ = some (.bool (l)) := (hc4 _ _ (by first | omega | (simp; done) | (simp; omega))).trans (by first | (with_reducible assumption) | (simp [go_sem]; done) | (simp [go_sem, *]; done) | assumption)
  have g4x3 : w4.cell? ⟨w.heap.size, 3, none⟩ = some (.int .i64 (d)) := (hc4 _ _ (by first | omega | (simp; done) | (simp; omega))).trans (by first | (with_reducible assumption) | (simp [go_sem]; done) | (simp [go_sem, *]; done) | assumption)
  have g4x4 : w4.cell? ⟨(w.heap.size + 1), 0, none⟩ = some (.int .i64 (z)) := (hc4 _ _ (by first | omega | (simp; done) | (simp; omega))).trans (by first | (with_reducible assumption) | (simp [go_sem]; done) | (simp [go_sem, *]; done) | assumption)
  have g4x5 : w4.cell? ⟨(w.heap.size + 1), 1, none⟩ = some (.int .i64 (k)) := (hc4 _ _ (by first | omega | (simp; done) | (simp; omega))).trans (by first | (with_reducible assumption) | (simp [go_sem]; done) | (simp [go_sem, *]; done) | assumption)
  have g4x6 : w4.cell? ⟨(w.heap.size + 1), 2, none⟩ = some (.bool (h)) := (hc4 _ _ (by first | omega | (simp; done) | (simp; omega))).trans (by first | (with_reducible assumption) | (simp [go_sem]; done) | (simp [go_sem, *]; done) | assumption)
  have g4x7 : w4.cell? ⟨(w.heap.size + 1), 3, none⟩ = some (.int .i64 (f)) := (hc4 _ _ (by first | omega | (simp; done) | (simp; omega))).trans (by first | (with_reducible assumption) | (simp [go_sem]; done) | (simp [go_sem, *]; done) | assumption)
  have g4x8 : w4.cell? ⟨w1.heap.size, 0, none⟩ = some (.int .i64 (va)) := (hc4 _ _ (by first | omega | (simp; done) | (simp; omega))).trans (by first | (with_reducible assumption) | (simp [go_sem]; done) | (simp [go_sem, *]; done) | assumption)
  have g4x9 : w4.cell? ⟨w1.heap.size, 1, none⟩ = some (.int .i64 (vb)) := (hc4 _ _ (by first | omega | (simp; done) | (simp; omega))).trans (by first | (with_reducible assumption) | (simp [go_sem]; done) | (simp [go_sem, *]; done) | assumption)
  have g4x10 : w4.cell? ⟨w1.heap.size, 2, none⟩ = some (.int .i64 (vc)) := (hc4 _ _ (by first | omega | (simp; done) | (simp; omega))).trans (by first | (with_reducible assumption) | (simp [go_sem]; done) | (simp [go_sem, *]; done) | assumption)
  have g4x11 : w4.cell? ⟨w1.heap.size, 3, none⟩ = some (.int .i64 (vq)) := (hc4 _ _ (by first | omega | (simp; done) | (simp; omega))).trans (by first | (with_reducible assumption) | (simp [go_sem]; done) | (simp [go_sem, *]; done) | assumption)
  go_wp2_with fail
  all_goals (
    refine (awake17 _ (Tab.below hT (by repeat (first | (with_reducible exact Below.refl _ _) | (with_reducible assumption) | (with_reducible refine bdrew ?_) | (with_reducible refine baa ?_ _) | (with_reducible refine bs ?_ (by first | exact Nat.le_refl _ | omega | (simp; done) | (simp; omega)) _) | (with_reducible refine bt ?_ (by with_reducible assumption))))) (Tab.below hL (by repeat (first | (with_reducible exact Below.refl _ _) | (with_reducible assumption) | (with_reducible refine bdrew ?_) | (with_reducible refine baa ?_ _) | (with_reducible refine bs ?_ (by first | exact Nat.le_refl _ | omega | (simp; done) | (simp; omega)) _) | (with_reducible refine bt ?_ (by with_reducible assumption)))))).mono ?_
    rintro e w5 ⟨rfl, hb5⟩
    obtain ⟨hc5, hf5⟩ := bcell hb5
    have hz5 := hb5.size
    try simp at hz5
    have hl5w1 : w1.heap.size < w5.heap.size := by omega
    have hm5w1 : w1.heap.size ≤ w5.heap.size := by omega
    have hs5x0 : w.heap.size < w5.heap.size := by omega
    have hs5x1 : (w.heap.size + 1) < w5.heap.size := by omega
    have g5x0 : w5.cell? ⟨w.heap.size, 0, none⟩ = some (.int .i64 (y)) := (hc5 _ _ (by first | omega | (simp; done) | (simp; omega))).trans (by first | (with_reducible assumption) | (simp [go_sem]; done) | (simp [go_sem, *]; done) | assumption)
    have g5x1 : w5.cell? ⟨w.heap.size, 1, none⟩ = some (.int .i64 (n)) := (hc5 _ _ (by first | omega | (simp; done) | (simp; omega))).trans (by first | (with_reducible assumption) | (simp [go_sem]; done) | (simp [go_sem, *]; done) | assumption)
    have g5x2 : w5.cell? ⟨w.heap.size, 2, none⟩ = some (.bool (l)) := (hc5 _ _ (by first | omega | (simp; done) | (simp; omega))).trans (by first | (with_reducible assumption) | (simp [go_sem]; done) | (simp [go_sem, *]; done) | assumption)
    have g5x3 : w5.cell? ⟨w.heap.size, 3, none⟩ = some (.int .i64 (d)) := (hc5 _ _ (by first | omega | (simp; done) | (simp; omega))).trans (by first | (with_reducible assumption) | (simp [go_sem]; done) | (simp [go_sem, *]; done) | assumption)
    have g5x4 : w5.cell? ⟨(w.heap.size + 1), 0, none⟩ = some (.int .i64 (z)) := (hc5 _ _ (by first | omega | (simp; done) | (simp; omega))).trans (by first | (with_reducible assumption) | (simp [go_sem]; done) | (simp [go_sem, *]; done) | assumption)
    have g5x5 : w5.cell? ⟨(w.heap.size + 1), 1, none⟩ = some (.int .i64 (k)) := (hc5 _ _ (by first | omega | (simp; done) | (simp; omega))).trans (by first | (with_reducible assumption) | (simp [go_sem]; done) | (simp [go_sem, *]; done) | assumption)
    have g5x6 : w5.cell? ⟨(w.heap.size + 1), 2, none⟩ = some (.bool (h)) := (hc5 _ _ (by first | omega | (simp; done) | (simp; omega))).trans (by first | (with_reducible assumption) | (simp [go_sem]; done) | (simp [go_sem, *]; done) | assumption)
    have g5x7 : w5.cell? ⟨(w.heap.size + 1), 3, none⟩ = some (.int .i64 (f)) := (hc5 _ _ (by first | omega | (simp; done) | (simp; omega))).trans (by first | (with_reducible assumption) | (simp [go_sem]; done) | (simp [go_sem, *]; done) | assumption)
    have g5x8 : w5.cell? ⟨w1.heap.size, 0, none⟩ = some (.int .i64 (va)) := (hc5 _ _ (by first | omega | (simp; done) | (simp; omega))).trans (by first | (with_reducible assumption) | (simp [go_sem]; done) | (simp [go_sem, *]; done) | assumption)
    have g5x9 : w5.cell? ⟨w1.heap.size, 1, none⟩ = some (.int .i64 (vb)) := (hc5 _ _ (by first | omega | (simp; done) | (simp; omega))).trans (by first | (with_reducible assumption) | (simp [go_sem]; done) | (simp [go_sem, *]; done) | assumption)
    have g5x10 : w5.cell? ⟨w1.heap.size, 2, none⟩ = some (.int .i64 (vc)) := (hc5 _ _ (by first | omega | (simp; done) | (simp; omega))).trans (by first | (with_reducible assumption) | (simp [go_sem]; done) | (simp [go_sem, *]; done) | assumption)
    have g5x11 : w5.cell? ⟨w1.heap.size, 3, none⟩ = some (.int .i64 (vq)) := (hc5 _ _ (by first | omega | (simp; done) | (simp; omega))).trans (by first | (with_reducible assumption) | (simp [go_sem]; done) | (simp [go_sem, *]; done) | assumption)
    go_wp2_with fail
    go_ret
    refine ⟨by first | rfl | (simp [*]; done), ?_⟩
    repeat (first | (with_reducible exact Below.refl _ _) | (with_reducible assumption) | (with_reducible refine bdrew ?_) | (with_reducible refine baa ?_ _) | (with_reducible refine bs ?_ (by first | exact Nat.le_refl _ | omega | (simp; done) | (simp; omega)) _) | (with_reducible refine bt ?_ (by with_reducible assumption)))
  )
set_option maxHeartbeats 4000000 in
theorem UntilBack_down (y n : Int) (l : Bool) (d z k : Int) (h : Bool) (f : Int) (unit : Int) (hu : 0 ≤ unit ∧ unit ≤ 255) (va vb vc vq D1 D2 : Int) (w : World) (hT : Tab w 8 kevCells) (hL : Tab w 6 lenCells) (HA : Hid (∀ w : World, Tab w 8 kevCells → Tab w 6 lenCells → Calls Tryz.prog 34 #[.agg #[.int .i64 (y), .int .i64 (n), .bool (l), .int .i64 (d)], .agg #[.int .i64 (z), .int .i64 (k), .bool (h), .int .i64 (f)], .int .i64 (unit % 4)] w fun e w' => e = .returned (.tuple #[.agg #[.int .i64 (va), .int .i64 (vb), .int .i64 (vc), .int .i64 (vq)], .int .i64 (0)]) ∧ Below w.heap.size w w')) (HTa : Hid (∀ w : World, Calls Tryz.prog 37 #[.agg #[.int .i64 (y), .int .i64 (n), .bool (l), .int .i64 (d)]] w fun e w' => e = .returned (.tuple #[.int .i64 (D1), .int .i64 (0)]) ∧ Below w.heap.size w w')) (HTb : Hid (∀ w : World, Calls Tryz.prog 37 #[.agg #[.int .i64 (z), .int .i64 (k), .bool (h), .int .i64 (f)]] w fun e w' => e = .returned (.tuple #[.int .i64 (D2), .int .i64 (0)]) ∧ Below w.heap.size w w')) (HTo : Hid (∀ w : World, Calls Tryz.prog 28 #[.agg #[.int .i64 (y), .int .i64 (n), .bool (l), .int .i64 (d)], .agg #[.int .i64 (va), .int .i64 (vb), .int .i64 (vc), .int .i64 (vq)], .int .i64 0] w fun e w' => e = .returned (.tuple #[.agg #[.int .i64 (z), .int .i64 (k), .bool (h), .int .i64 (f)], .int .i64 (0)]) ∧ Below w.heap.size w w')) (hd : D2 < D1) (p0 : va ≤ 0) (p1 : vb ≤ 0) (p2 : vc ≤ 0) (p3 : vq ≤ 0) :
    Calls Tryz.prog 8 #[.agg #[.int .i64 (y), .int .i64 (n), .bool (l), .int .i64 (d)], .agg #[.int .i64 (z), .int .i64 (k), .bool (h), .int .i64 (f)], .int .u8 unit] w fun e w' => e = .returned (.bool true) ∧ Below w.heap.size w w' := by
  obtain ⟨hu0, hu1⟩ := hu
  go_enter Tryz.func8, Tryz.ntmps8
  go_wp2_with fail
  refine (HA.out _ (Tab.below hT (by repeat (first | (with_reducible exact Below.refl _ _) | (with_reducible assumption) | (with_reducible refine bdrew ?_) | (with_reducible refine baa ?_ _) | (with_reducible refine bs ?_ (by first | exact Nat.le_refl _ | omega | (simp; done) | (simp; omega)) _) | (with_reducible refine bt ?_ (by with_reducible assumption))))) (Tab.below hL (by repeat (first | (with_reducible exact Below.refl _ _) | (with_reducible assumption) | (with_reducible refine bdrew ?_) | (with_reducible refine baa ?_ _) | (with_reducible refine bs ?_ (by first | exact Nat.le_refl _ | omega | (simp; done) | (simp; omega)) _) | (with_reducible refine bt ?_ (by with_reducible assumption)))))).mono ?_
  rintro e w1 ⟨rfl, hb1⟩
  obtain ⟨hc1, hf1⟩ := bcell hb1
  have hz1 := hb1.size
  try simp at hz1
  have hs1x0 : w.heap.size < w1.heap.size := by omega
  have hs1x1 : (w.heap.size + 1) < w1.heap.size := by omega
  have g1x0 : w1.cell? ⟨w.heap.size, 0, none⟩ = some (.int .i64 (y)) := (hc1 _ _ (by first | omega | (simp; done) | (simp; omega))).trans (by first | (with_reducible assumption) | (simp [go_sem]; done) | (simp [go_sem, *]; done) | assumption)
  have g1x1 : w1.cell? ⟨w.heap.size, 1, none⟩ = some (.int .i64 (n)) := (hc1 _ _ (by first | omega | (simp; done) | (simp; omega))).trans (by first | (with_reducible assumption) | (simp [go_sem]; done) | (simp [go_sem, *]; done) | assumption)
  have g1x2 : w1.cell? ⟨w.heap.size, 2, none⟩ = some (.bool (l)) := (hc1 _ _ (by first | omega | (simp; done) | (simp; omega))).trans (by first | (with_reducible assumption) | (simp [go_sem]; done) | (simp [go_sem, *]; done) | assumption)
  have g1x3 : w1.cell? ⟨w.heap.size, 3, none⟩ = some (.int .i64 (d)) := (hc1 _ _ (by first | omega | (simp; done) | (simp; omega))).trans (by first | (with_reducible assumption) | (simp [go_sem]; done) | (simp [go_sem, *]; done) | assumption)
  have g1x4 : w1.cell? ⟨(w.heap.size + 1), 0, none⟩ = some (.int .i64 (z)) := (hc1 _ _ (by first | omega | (simp; done) | (simp; omega))).trans (by first | (with_reducible assumption) | (simp [go_sem]; done) | (simp [go_sem, *]; done) | assumption)
  have g1x5 : w1.cell? ⟨(w.heap.size + 1), 1, none⟩ = some (.int .i64 (k)) := (hc1 _ _ (by first | omega | (simp; done) | (simp; omega))).trans (by first | (with_reducible assumption) | (simp [go_sem]; done) | (simp [go_sem, *]; done) | assumption)
  have g1x6 : w1.cell? ⟨(w.heap.size + 1), 2, none⟩ = some (.bool (h)) := (hc1 _ _ (by first | omega | (simp; done) | (simp; omega))).trans (by first | (with_reducible assumption) | (simp [go_sem]; done) | (simp [go_sem, *]; done) | assumption)
  have g1x7 : w1.cell? ⟨(w.heap.size + 1), 3, none⟩ = some (.int .i64 (f)) := (hc1 _ _ (by first | omega | (simp; done) | (simp; omega))).trans (by first | (with_reducible assumption) | (simp [go_sem]; done) | (simp [go_sem, *]; done) | assumption)
  go_wp2_with fail
  refine (HTa.out _).mono ?_
  rintro e w2 ⟨rfl, hb2⟩
  obtain ⟨hc2, hf2⟩ := bcell hb2
  have hz2 := hb2.size
  try simp at hz2
  have hl2w1 : w1.heap.size < w2.heap.size := by omega
  have hm2w1 : w1.heap.size ≤ w2.heap.size := by omega
  have hs2x0 : w.heap.size < w2.heap.size := by omega
  have hs2x1 : (w.heap.size + 1) < w2.heap.size := by omega
  have g2x0 : w2.cell? ⟨w.heap.size, 0, none⟩ = some (.int .i64 (y)) := (hc2 _ _ (by first | omega | (simp; done) | (simp; omega))).trans (by first | (with_reducible assumption) | (simp [go_sem]; done) | (simp [go_sem, *]; done) | assumption)
  have g2x1 : w2.cell? ⟨w.heap.size, 1, none⟩ = some (.int .i64 (n)) := (hc2 _ _ (by first | omega | (simp; done) | (simp; omega))).trans (by first | (with_reducible assumption) | (simp [go_sem]; done) | (simp [go_sem, *]; done) | assumption)
  have g2x2 : w2.cell? ⟨w.heap.size, 2, none⟩ = some (.bool (l)) := (hc2 _ _ (by first | omega | (simp; done) | (simp; omega))).trans (by first | (with_reducible assumption) | (simp [go_sem]; done) | (simp [go_sem, *]; done) | assumption)
  have g2x3 : w2.cell? ⟨w.heap.size, 3, none⟩ = some (.int .i64 (d)) := (hc2 _ _ (by first | omega | (simp; done) | (simp; omega))).trans (by first | (with_reducible assumption) | (simp [go_sem]; done) | (simp [go_sem, *]; done) | assumption)
  have g2x4 : w2.cell? ⟨(w.heap.size + 1), 0, none⟩ = some (.int .i64 (z)) := (hc2 _ _ (by first | omega | (simp; done) | (simp; omega))).trans (by first | (with_reducible assumption) | (simp [go_sem]; done) | (simp [go_sem, *]; done) | assumption)
  have g2x5 : w2.cell? ⟨(w.heap.size + 1), 1, none⟩ = some (.int .i64 (k)) := (hc2 _ _ (by first | omega | (simp; done) | (simp; omega))).trans (by first | (with_reducible assumption) | (simp [go_sem]; done) | (simp [go_sem, *]; done) | assumption)
  have g2x6 : w2.cell? ⟨(w.heap.size + 1), 2, none⟩ = some (.bool (h)) := (hc2 _ _ (by first | omega | (simp; done) | (simp; omega))).trans (by first | (with_reducible assumption) | (simp [go_sem]; done) | (simp [go_sem, *]; done) | assumption)
  have g2x7 : w2.cell? ⟨(w.heap.size + 1), 3, none⟩ = some (.int .i64 (f)) := (hc2 _ _ (by first | omega | (simp; done) | (simp; omega))).trans (by first | (with_reducible assumption) | (simp [go_sem]; done) | (simp [go_sem, *]; done) | assumption)
  have g2x8 : w2.cell? ⟨w1.heap.size, 0, none⟩ = some (.int .i64 (va)) := (hc2 _ _ (by first | omega | (simp; done) | (simp; omega))).trans (by first | (with_reducible assumption) | (simp [go_sem]; done) | (simp [go_sem, *]; done) | assumption)
  have g2x9 : w2.cell? ⟨w1.heap.size, 1, none⟩ = some (.int .i64 (vb)) := (hc2 _ _ (by first | omega | (simp; done) | (simp; omega))).trans (by first | (with_reducible assumption) | (simp [go_sem]; done) | (simp [go_sem, *]; done) | assumption)
  have g2x10 : w2.cell? ⟨w1.heap.size, 2, none⟩ = some (.int .i64 (vc)) := (hc2 _ _ (by first | omega | (simp; done) | (simp; omega))).trans (by first | (with_reducible assumption) | (simp [go_sem]; done) | (simp [go_sem, *]; done) | assumption)
  have g2x11 : w2.cell? ⟨w1.heap.size, 3, none⟩ = some (.int .i64 (vq)) := (hc2 _ _ (by first | omega | (simp; done) | (simp; omega))).trans (by first | (with_reducible assumption) | (simp [go_sem]; done) | (simp [go_sem, *]; done) | assumption)
  go_wp2_with fail
  refine (HTb.out _).mono ?_
  rintro e w3 ⟨rfl, hb3⟩
  obtain ⟨hc3, hf3⟩ := bcell hb3
  have hz3 := hb3.size
  try simp at hz3
  have hl3w1 : w1.heap.size < w3.heap.size := by omega
  have hm3w1 : w1.heap.size ≤ w3.heap.size := by omega
  have hs3x0 : w.heap.size < w3.heap.size := by omega
  have hs3x1 : (w.heap.size + 1) < w3.heap.size := by omega
  have g3x0 : w3.cell? ⟨w.heap.size, 0, none⟩ = some (.int .i64 (y)) := (hc3 _ _ (by first | omega | (simp; done) | (simp; omega))).trans (by first | (with_reducible assumption) | (simp [go_sem]; done) | (simp [go_sem, *]; done) | assumption)
  have g3x1 : w3.cell? ⟨w.heap.size, 1, none⟩ = some (.int .i64 (n)) := (hc3 _ _ (by first | omega | (simp; done) | (simp; omega))).trans (by first | (with_reducible assumption) | (simp [go_sem]; done) | (simp [go_sem, *]; done) | assumption)
  have g3x2 : w3.cell? ⟨w.heap.size, 2, none⟩ = some (.bool (l)) := (hc3 _ _ (by first | omega | (simp; done) | (simp; omega))).trans (by first | (with_reducible assumption) | (simp [go_sem]; done) | (simp [go_sem, *]; done) | assumption)
  have g3x3 : w3.cell? ⟨w.heap.size, 3, none⟩ = some (.int .i64 (d)) := (hc3 _ _ (by first | omega | (simp; done) | (simp; omega))).trans (by first | (with_reducible assumption) | (simp [go_sem]; done) | (simp [go_sem, *]; done) | assumption)
  have g3x4 : w3.cell? ⟨(w.heap.size + 1), 0, none⟩ = some (.int .i64 (z)) := (hc3 _ _ (by first | omega | (simp; done) | (simp; omega))).trans (by first | (with_reducible assumption) | (simp [go_sem]; done) | (simp [go_sem, *]; done) | assumption)
  have g3x5 : w3.cell? ⟨(w.heap.size + 1), 1, none⟩ = some (.int .i64 (k)) := (hc3 _ _ (by first | omega | (simp; done) | (simp; omega))).trans (by first | (with_reducible assumption) | (simp [go_sem]; done) | (simp [go_sem, *]; done) | assumption)
  have g3x6 : w3.cell? ⟨(w.heap.size + 1), 2, none⟩ = some (.bool (h)) := (hc3 _ _ (by first | omega | (simp; done) | (simp; omega))).trans (by first | (with_reducible assumption) | (simp [go_sem]; done) | (simp [go_sem, *]; done) | assumption)
  have g3x7 : w3.cell? ⟨(w.heap.size + 1), 3, none⟩ = some (.int .i64 (f)) := (hc3 _ _ (by first | omega | (simp; done) | (simp; omega))).trans (by first | (with_reducible assumption) | (simp [go_sem]; done) | (simp [go_sem, *]; done) | assumption)
  have g3x8 : w3.cell? ⟨w1.heap.size, 0, none⟩ = some (.int .i64 (va)) := (hc3 _ _ (by first | omega | (simp; done) | (simp; omega))).trans (by first | (with_reducible assumption) | (simp [go_sem]; done) | (simp [go_sem, *]; done) | assumption)
  have g3x9 : w3.cell? ⟨w1.heap.size, 1, none⟩ = some (.int .i64 (vb)) := (hc3 _ _ (by first | omega | (simp; done) | (simp; omega))).trans (by first | (with_reducible assumption) | (simp [go_sem]; done) | (simp [go_sem, *]; done) | assumption)
  have g3x10 : w3.cell? ⟨w1.heap.size, 2, none⟩ = some (.int .i64 (vc)) := (hc3 _ _ (by first | omega | (simp; done) | (simp; omega))).trans (by first | (with_reducible assumption) | (simp [go_sem]; done) | (simp [go_sem, *]; done) | assumption)
  have g3x11 : w3.cell? ⟨w1.heap.size, 3, none⟩ = some (.int .i64 (vq)) := (hc3 _ _ (by first | omega | (simp; done) | (simp; omega))).trans (by first | (with_reducible assumption) | (simp [go_sem]; done) | (simp [go_sem, *]; done) | assumption)
  go_wp2_with fail
  refine (HTo.out _).mono ?_
  rintro e w4 ⟨rfl, hb4⟩
  obtain ⟨hc4, hf4⟩ := bcell hb4
  have hz4 := hb4.size
  try simp at hz4
  have hl4w1 : w1.heap.size < w4.heap.size := by omega
  have hm4w1 : w1.heap.size ≤ w4.heap.size := by omega
  have hs4x0 : w.heap.size < w4.heap.size := by omega
  have hs4x1 : (w.heap.size + 1) < w4.heap.size := by omega
  have g4x0 : w4.cell? ⟨w.heap.size, 0, none⟩ = some (.int .i64 (y)) := (hc4 _ _ (by first | omega | (simp; done) | (simp; omega))).trans (by first | (with_reducible assumption) | (simp [go_sem]; done) | (simp [go_sem, *]; done) | assumption)
  have g4x1 : w4.cell? ⟨w.heap.size, 1, none⟩ = some (.int .i64 (n)) := (hc4 _ _ (by first | omega | (simp; done) | (simp; omega))).trans (by first | (with_reducible assumption) | (simp [go_sem]; done) | (simp [go_sem, *]; done) | assumption)
  have g4x2 : w4.cell? ⟨w.heap.size, 2, none⟩ = some (.bool (l)) := (hc4 _ _ (by first | omega | (simp; done) | (simp; omega))).trans (by first | (with_reducible assumption) | (simp [go_sem]; done) | (simp [go_sem, *]; done) | assumption)
  have g4x3 : w4.cell? ⟨w.heap.size, 3, none⟩ = some (.int .i64 (d)) := (hc4 _ _ (by first | omega | (simp; done) | (simp; omega))).trans (by first | (with_reducible assumption) | (simp [go_sem]; done) | (simp [go_sem, *]; done) | assumption)
  have g4x4 : w4.cell? ⟨(w.heap.size + 1), 0, none⟩ = some (.int .i64 (z)) := (hc4 _ _ (by first | omega | (simp; done) | (simp; omega))).trans (by first | (with_reducible assumption) | (simp [go_sem]; done) | (simp [go_sem, *]; done) | assumption)
  have g4x5 : w4.cell? ⟨(w.heap.size + 1), 1, none⟩ = some (.int .i64 (k)) := (hc4 _ _ (by first | omega | (simp; done) | (simp; omega))).trans (by first | (with_reducible assumption) | (simp [go_sem]; done) | (simp [go_sem, *]; done) | assumption)
  have g4x6 : w4.cell? ⟨(w.heap.size + 1), 2, none⟩ = some (.bool (h)) := (hc4 _ _ (by first | omega | (simp; done) | (simp; omega))).trans (by first | (with_reducible assumption) | (simp [go_sem]; done) | (simp [go_sem, *]; done) | assumption)
  have g4x7 : w4.cell? ⟨(w.heap.size + 1), 3, none⟩ = some (.int .i64 (f)) := (hc4 _ _ (by first | omega | (simp; done) | (simp; omega))).trans (by first | (with_reducible assumption) | (simp [go_sem]; done) | (simp [go_sem, *]; done) | assumption)
  have g4x8 : w4.cell? ⟨w1.heap.size, 0, none⟩ = some (.int .i64 (va)) := (hc4 _ _ (by first | omega | (simp; done) | (simp; omega))).trans (by first | (with_reducible assumption) | (simp [go_sem]; done) | (simp [go_sem, *]; done) | assumption)
  have g4x9 : w4.cell? ⟨w1.heap.size, 1, none⟩ = some (.int .i64 (vb)) := (hc4 _ _ (by first | omega | (simp; done) | (simp; omega))).trans (by first | (with_reducible assumption) | (simp [go_sem]; done) | (simp [go_sem, *]; done) | assumption)
  have g4x10 : w4.cell? ⟨w1.heap.size, 2, none⟩ = some (.int .i64 (vc)) := (hc4 _ _ (by first | omega | (simp; done) | (simp; omega))).trans (by first | (with_reducible assumption) | (simp [go_sem]; done) | (simp [go_sem, *]; done) | assumption)
  have g4x11 : w4.cell? ⟨w1.heap.size, 3, none⟩ = some (.int .i64 (vq)) := (hc4 _ _ (by first | omega | (simp; done) | (simp; omega))).trans (by first | (with_reducible assumption) | (simp [go_sem]; done) | (simp [go_sem, *]; done) | assumption)
  go_wp2_with fail
  all_goals (
    refine (awake17 _ (Tab.below hT (by repeat (first | (with_reducible exact Below.refl _ _) | (with_reducible assumption) | (with_reducible refine bdrew ?_) | (with_reducible refine baa ?_ _) | (with_reducible refine bs ?_ (by first | exact Nat.le_refl _ | omega | (simp; done) | (simp; omega)) _) | (with_reducible refine bt ?_ (by with_reducible assumption))))) (Tab.below hL (by repeat (first | (with_reducible exact Below.refl _ _) | (with_reducible assumption) | (with_reducible refine bdrew ?_) | (with_reducible refine baa ?_ _) | (with_reducible refine bs ?_ (by first | exact Nat.le_refl _ | omega | (simp; done) | (simp; omega)) _) | (with_reducible refine bt ?_ (by with_reducible assumption)))))).mono ?_
    rintro e w5 ⟨rfl, hb5⟩
    obtain ⟨hc5, hf5⟩ := bcell hb5
    have hz5 := hb5.size
    try simp at hz5
    have hl5w1 : w1.heap.size < w5.heap.size := by omega
    have hm5w1 : w1.heap.size ≤ w5.heap.size := by omega
    have hs5x0 : w.heap.size < w5.heap.size := by omega
    have hs5x1 : (w.heap.size + 1) < w5.heap.size := by omega
    have g5x0 : w5.cell? ⟨w.heap.size, 0, none⟩ = some (.int .i64 (y)) := (hc5 _ _ (by first | omega | (simp; done) | (simp; omega))).trans (by first | (with_reducible assumption) | (simp [go_sem]; done) | (simp [go_sem, *]; done) | assumption)
    have g5x1 : w5.cell? ⟨w.heap.size, 1, none⟩ = some (.int .i64 (n)) := (hc5 _ _ (by first | omega | (simp; done) | (simp; omega))).trans (by first | (with_reducible assumption) | (simp [go_sem]; done) | (simp [go_sem, *]; done) | assumption)
    have g5x2 : w5.cell? ⟨w.heap.size, 2, none⟩ = some (.bool (l)) := (hc5 _ _ (by first | omega | (simp; done) | (simp; omega))).trans (by first | (with_reducible assumption) | (simp [go_sem]; done) | (simp [go_sem, *]; done) | assumption)
    have g5x3 : w5.cell? ⟨w.heap.size, 3, none⟩ = some (.int .i64 (d)) := (hc5 _ _ (by first | omega | (simp; done) | (simp; omega))).trans (by first | (with_reducible assumption) | (simp [go_sem]; done) | (simp [go_sem, *]; done) | assumption)
    have g5x4 : w5.cell? ⟨(w.heap.size + 1), 0, none⟩ = some (.int .i64 (z)) := (hc5 _ _ (by first | omega | (simp; done) | (simp; omega))).trans (by first | (with_reducible assumption) | (simp [go_sem]; done) | (simp [go_sem, *]; done) | assumption)
    have g5x5 : w5.cell? ⟨(w.heap.size + 1), 1, none⟩ = some (.int .i64 (k)) := (hc5 _ _ (by first | omega | (simp; done) | (simp; omega))).trans (by first | (with_reducible assumption) | (simp [go_sem]; done) | (simp [go_sem, *]; done) | assumption)
    have g5x6 : w5.cell? ⟨(w.heap.size + 1), 2, none⟩ = some (.bool (h)) := (hc5 _ _ (by first | omega | (simp; done) | (simp; omega))).trans (by first | (with_reducible assumption) | (simp [go_sem]; done) | (simp [go_sem, *]; done) | assumption)
    have g5x7 : w5.cell? ⟨(w.heap.size + 1), 3, none⟩ = some (.int .i64 (f)) := (hc5 _ _ (by first | omega | (simp; done) | (simp; omega))).trans (by first | (with_reducible assumption) | (simp [go_sem]; done) | (simp [go_sem, *]; done) | assumption)
    have g5x8 : w5.cell? ⟨w1.heap.size, 0, none⟩ = some (.int .i64 (va)) := (hc5 _ _ (by first | omega | (simp; done) | (simp; omega))).trans (by first | (with_reducible assumption) | (simp [go_sem]; done) | (simp [go_sem, *]; done) | assumption)
    have g5x9 : w5.cell? ⟨w1.heap.size, 1, none⟩ = some (.int .i64 (vb)) := (hc5 _ _ (by first | omega | (simp; done) | (simp; omega))).trans (by first | (with_reducible assumption) | (simp [go_sem]; done) | (simp [go_sem, *]; done) | assumption)
    have g5x10 : w5.cell? ⟨w1.heap.size, 2, none⟩ = some (.int .i64 (vc)) := (hc5 _ _ (by first | omega | (simp; done) | (simp; omega))).trans (by first | (with_reducible assumption) | (simp [go_sem]; done) | (simp [go_sem, *]; done) | assumption)
    have g5x11 : w5.cell? ⟨w1.heap.size, 3, none⟩ = some (.int .i64 (vq)) := (hc5 _ _ (by first | omega | (simp; done) | (simp; omega))).trans (by first | (with_reducible assumption) | (simp [go_sem]; done) | (simp [go_sem, *]; done) | assumption)
    go_wp2_with fail
    go_ret
    refine ⟨by first | rfl | (simp [*]; done), ?_⟩
    repeat (first | (with_reducible exact Below.refl _ _) | (with_reducible assumption) | (with_reducible refine bdrew ?_) | (with_reducible refine baa ?_ _) | (with_reducible refine bs ?_ (by first | exact Nat.le_refl _ | omega | (simp; done) | (simp; omega)) _) | (with_reducible refine bt ?_ (by with_reducible assumption)))
  )
theorem UntilBack_walk (y n : Int) (l : Bool) (d z k : Int) (h : Bool) (f : Int) (unit : Int) (hy : I64 y) (hn : I64 n) (hd : I64 d) (hz : I64 z) (hk : I64 k) (hf : I64 f) (hu : 0 ≤ unit ∧ unit ≤ 255) (w : World) (hT : Tab w 8 kevCells) (hL : Tab w 6 lenCells) :
    Calls Tryz.prog 8 #[.agg #[.int .i64 (y), .int .i64 (n), .bool (l), .int .i64 (d)], .agg #[.int .i64 (z), .int .i64 (k), .bool (h), .int .i64 (f)], .int .u8 unit] w fun e w' => e = .returned (.bool true) ∧ Below w.heap.size w w' := by
  obtain ⟨va, vb, vc, vq, er, hres⟩ := U17.d_some y n l d z k h f (unit % 4)
  have HA := Lib.hid (fun w hT hL => until_Date y n l d z k h f (unit % 4) w hy hz hT hL va vb vc vq er (Lib.hid hres))
  have HTa := Lib.hid (fun w => ref10_ToDay y n l d w hy)
  have HTb := Lib.hid (fun w => ref10_ToDay z k h f w hz)
  rcases hres with ⟨hu2, _⟩ | ⟨hu2, he, hne, rfl, rfl, rfl, rfl⟩ | ⟨hu2, ha, hb, rfl, hI⟩
  · exact absurd ⟨by omega, by omega⟩ hu2
  · by_cases ha : D10.dateE y n l d = 0
    · rw [if_pos ha] at he
      rw [ha] at HTa
      rw [← he] at HTb
      exact UntilBack_eb y n l d z k h f unit hu er _ _ w hT hL HA HTa HTb (by simpa using hne) (by simpa using hne)
    · rw [if_neg ha] at he
      rw [← he] at HTa
      exact UntilBack_ea y n l d z k h f unit hu er _ _ _ w hT hL HA HTa HTb (by simpa using hne) (by simpa using hne)
  · rw [ha] at HTa
    rw [hb] at HTb
    obtain ⟨_, b1, b2⟩ := D10.dayV_ok z k h f hb
    obtain ⟨e1, e2, e3, e4⟩ := U17.back ha b1 b2 hI
    obtain ⟨ry, rn, rl, rd, er, hto⟩ := A16.to_some y n l d va vb vc vq 0
    obtain ⟨rfl, r1, r2, _⟩ := hto.date e1
    obtain ⟨rfl, rfl, rfl, rfl⟩ := D10.same_day hb r1 (r2.trans e2).symm
    have HTo := Lib.hid (fun w => ref16_To y n l d va vb vc vq 0 w hy _ _ _ _ 0 (Lib.hid hto))
    by_cases c : (D10.dayV y n l d) ≤ (D10.dayV z k h f)
    · obtain ⟨p0, p1, p2, p3⟩ := e3 c
      exact UntilBack_up y n l d _ _ _ _ unit hu va vb vc vq _ _ w hT hL HA HTa HTb HTo c p0 p1 p2 p3
    · obtain ⟨p0, p1, p2, p3⟩ := e4 (by omega)
      exact UntilBack_down y n l d _ _ _ _ unit hu va vb vc vq _ _ w hT hL HA HTa HTb HTo (by omega) p0 p1 p2 p3
end Go.Proofs.YtafenpgafmdenaaGreatDoor
