/- Layer 21: ChodeshOmer. -/
import Derived.Test.YtagmdglmflcegaaGreatDoorW21
namespace Go.Proofs.YtagmdglmflcegaaGreatDoor
open Go.ChangeShapes Go.WideShapes Go.ChangeAt Go.RowKit Go.Lib Go.Sort Go.Shelf
set_option linter.unusedVariables false
set_option maxRecDepth 100000
theorem day_in_year (y D : Int) (h1 : 1 ≤ y) (h2 : y ≤ 9999) (f1 : Cal.first y ≤ D) (f2 : D < Cal.first (y + 1)) : ∃ m d, D10.Valid y m d ∧ D = D10.dayOf y m d := by
  obtain ⟨m, d, m1, m2, d1, d2, e⟩ := D10.ahead_there y (D - Cal.first y + 1) h1 h2 (by omega) (by unfold Cal.long; omega)
  exact ⟨m, d, ⟨h1, h2, m1, m2, d1, d2⟩, by unfold D10.dayOf; omega⟩
theorem from_code (y n d : Int) (l : Bool) (w : World) (h : D10.dateE y n l d = 0) : Calls Tryz.prog 23 #[.int .i64 (D10.dayV y n l d)] w fun e w' => e = .returned (.tuple #[.agg #[.int .i64 y, .int .i64 n, .bool l, .int .i64 d], .int .i64 0]) ∧ Below w.heap.size w w' := by
  obtain ⟨hv, hp⟩ := D10.date_valid h
  obtain ⟨_, _, e1, e2⟩ := D10.place_in _ _ _ hp
  have := ref10_FromDay_at y _ d w hv
  rw [e1, e2] at this
  unfold D10.dayV
  rwa [if_pos h]
namespace Om
theorem om2 : ((List.range 14).all fun i => Yr.okV i 7 false 15 && (Yr.okV i 7 false 16 && (Yr.okV i 9 false 5 && (decide (Yr.offV i 7 false 16 = Yr.offV i 7 false 15 + 1) && (decide (Yr.offV i 9 false 5 = Yr.offV i 7 false 15 + 49) && (decide (0 ≤ Yr.offV i 7 false 15) && decide (Yr.offV i 7 false 15 + 51 ≤ Yr.lenV i))))))) = true := by decide +kernel
end Om
set_option maxHeartbeats 8000000 in
theorem ChodeshOmer_go (y n Z : Int) (w : World) (hy : 0 ≤ y ∧ y ≤ 65535) (hn : 0 ≤ n ∧ n ≤ 255) (hT : Tab w 2 kevCells) (hL : Tab w 3 lenCells) (HAw : Hid (∀ w : World, Tab w 2 kevCells → Tab w 3 lenCells → Calls Tryz.prog 22 #[] w fun e w' => e = .returned (.bool true) ∧ Below w.heap.size w w')) (hz1 : -2000000 ≤ Z) (hz2 : Z ≤ 3000000)
    (HC1 : Hid (∀ w : World, Tab w 2 kevCells → Tab w 3 lenCells → Calls Tryz.prog 20 #[.int .i64 (1 + y % 9999), .int .i64 1] w fun r w' => r = .returned (.tuple #[.int .i64 (Z + 1), .int .i64 0]) ∧ Below w.heap.size w w'))
    (HC2 : Hid (∀ w : World, Tab w 2 kevCells → Tab w 3 lenCells → Calls Tryz.prog 20 #[.int .i64 (1 + y % 9999), .int .i64 (1 + n % 49)] w fun r w' => r = .returned (.tuple #[.int .i64 (Z + (1 + n % 49)), .int .i64 0]) ∧ Below w.heap.size w w'))
    (HM1 : Hid (∀ w : World, Tab w 2 kevCells → Tab w 3 lenCells → Calls Tryz.prog 18 #[.int .i64 (Z + (1 + n % 49))] w fun r w' => r = .returned (.tuple #[.int .i64 (1 + n % 49), .int .i64 0]) ∧ Below w.heap.size w w'))
    (HF1 : Hid (∀ w : World, Calls Tryz.prog 23 #[.int .i64 (Z + 1)] w fun r w' => r = .returned (.tuple #[.agg #[.int .i64 (1 + y % 9999), .int .i64 7, .bool false, .int .i64 16], .int .i64 0]) ∧ Below w.heap.size w w'))
    (HF2 : Hid (∀ w : World, Calls Tryz.prog 23 #[.int .i64 (Z + 1 + 48)] w fun r w' => r = .returned (.tuple #[.agg #[.int .i64 (1 + y % 9999), .int .i64 9, .bool false, .int .i64 5], .int .i64 0]) ∧ Below w.heap.size w w'))
    (HM2 : Hid (∀ w : World, Tab w 2 kevCells → Tab w 3 lenCells → Calls Tryz.prog 18 #[.int .i64 Z] w fun r w' => r = .returned (.tuple #[.int .i64 0, .int .i64 0]) ∧ Below w.heap.size w w'))
    (HM3 : Hid (∀ w : World, Tab w 2 kevCells → Tab w 3 lenCells → Calls Tryz.prog 18 #[.int .i64 (Z + 1 + 49)] w fun r w' => r = .returned (.tuple #[.int .i64 0, .int .i64 0]) ∧ Below w.heap.size w w')) :
    Calls Tryz.prog 6 #[.int .u16 y, .int .u8 n] w fun e w' => e = .returned (.bool true) ∧ Below w.heap.size w w' := by
  have y0 : 0 ≤ y % 9999 := by omega
  have y1 : y % 9999 < 9999 := by omega
  have n0 : 0 ≤ n % 49 := by omega
  have n1 : n % 49 < 49 := by omega
  have e1 : (Z + (1 + n % 49) == Z + 1 + (1 + n % 49) - 1) = true := by simp; omega
  go_enter Tryz.func6, Tryz.ntmps6
  go_wp2_with fail
  refine (HC1.out _ (Tab.below hT (by repeat (first | (with_reducible exact Below.refl _ _) | (with_reducible assumption) | (with_reducible refine bdrew ?_) | (with_reducible refine baa ?_ _) | (with_reducible refine bs ?_ (by first | exact Nat.le_refl _ | omega | (simp; done) | (simp; omega)) _) | (with_reducible refine bt ?_ (by with_reducible assumption))))) (Tab.below hL (by repeat (first | (with_reducible exact Below.refl _ _) | (with_reducible assumption) | (with_reducible refine bdrew ?_) | (with_reducible refine baa ?_ _) | (with_reducible refine bs ?_ (by first | exact Nat.le_refl _ | omega | (simp; done) | (simp; omega)) _) | (with_reducible refine bt ?_ (by with_reducible assumption)))))).mono ?_
  rintro e w1 ⟨rfl, hb1⟩
  obtain ⟨hc1, hf1⟩ := bcell hb1
  have hz1 := hb1.size
  try simp at hz1
  go_wp2_with fail
  refine (HC2.out _ (Tab.below hT (by repeat (first | (with_reducible exact Below.refl _ _) | (with_reducible assumption) | (with_reducible refine bdrew ?_) | (with_reducible refine baa ?_ _) | (with_reducible refine bs ?_ (by first | exact Nat.le_refl _ | omega | (simp; done) | (simp; omega)) _) | (with_reducible refine bt ?_ (by with_reducible assumption))))) (Tab.below hL (by repeat (first | (with_reducible exact Below.refl _ _) | (with_reducible assumption) | (with_reducible refine bdrew ?_) | (with_reducible refine baa ?_ _) | (with_reducible refine bs ?_ (by first | exact Nat.le_refl _ | omega | (simp; done) | (simp; omega)) _) | (with_reducible refine bt ?_ (by with_reducible assumption)))))).mono ?_
  rintro e w2 ⟨rfl, hb2⟩
  obtain ⟨hc2, hf2⟩ := bcell hb2
  have hz2 := hb2.size
  try simp at hz2
  go_wp2_with fail
  refine (HM1.out _ (Tab.below hT (by repeat (first | (with_reducible exact Below.refl _ _) | (with_reducible assumption) | (with_reducible refine bdrew ?_) | (with_reducible refine baa ?_ _) | (with_reducible refine bs ?_ (by first | exact Nat.le_refl _ | omega | (simp; done) | (simp; omega)) _) | (with_reducible refine bt ?_ (by with_reducible assumption))))) (Tab.below hL (by repeat (first | (with_reducible exact Below.refl _ _) | (with_reducible assumption) | (with_reducible refine bdrew ?_) | (with_reducible refine baa ?_ _) | (with_reducible refine bs ?_ (by first | exact Nat.le_refl _ | omega | (simp; done) | (simp; omega)) _) | (with_reducible refine bt ?_ (by with_reducible assumption)))))).mono ?_
  rintro e w3 ⟨rfl, hb3⟩
  obtain ⟨hc3, hf3⟩ := bcell hb3
  have hz3 := hb3.size
  try simp at hz3
  go_wp2_with fail
  refine (HF1.out _).mono ?_
  rintro e w4 ⟨rfl, hb4⟩
  obtain ⟨hc4, hf4⟩ := bcell hb4
  have hz4 := hb4.size
  try simp at hz4
  go_wp2_with fail
  refine (HF2.out _).mono ?_
  rintro e w5 ⟨rfl, hb5⟩
  obtain ⟨hc5, hf5⟩ := bcell hb5
  have hz5 := hb5.size
  try simp at hz5
  have hl5w4 : w4.heap.size < w5.heap.size := by omega
  have hm5w4 : w4.heap.size ≤ w5.heap.size := by omega
  have g5x0 : w5.cell? ⟨w4.heap.size, 0, none⟩ = some (.int .i64 (1 + y % 9999)) := (hc5 _ _ (by first | omega | (simp; done) | (simp; omega))).trans (by first | (with_reducible assumption) | (simp [go_sem]; done) | (simp [go_sem, *]; done) | assumption)
  have g5x1 : w5.cell? ⟨w4.heap.size, 1, none⟩ = some (.int .i64 7) := (hc5 _ _ (by first | omega | (simp; done) | (simp; omega))).trans (by first | (with_reducible assumption) | (simp [go_sem]; done) | (simp [go_sem, *]; done) | assumption)
  have g5x2 : w5.cell? ⟨w4.heap.size, 2, none⟩ = some (.bool false) := (hc5 _ _ (by first | omega | (simp; done) | (simp; omega))).trans (by first | (with_reducible assumption) | (simp [go_sem]; done) | (simp [go_sem, *]; done) | assumption)
  have g5x3 : w5.cell? ⟨w4.heap.size, 3, none⟩ = some (.int .i64 16) := (hc5 _ _ (by first | omega | (simp; done) | (simp; omega))).trans (by first | (with_reducible assumption) | (simp [go_sem]; done) | (simp [go_sem, *]; done) | assumption)
  go_wp2_with fail
  refine (HM2.out _ (Tab.below hT (by repeat (first | (with_reducible exact Below.refl _ _) | (with_reducible assumption) | (with_reducible refine bdrew ?_) | (with_reducible refine baa ?_ _) | (with_reducible refine bs ?_ (by first | exact Nat.le_refl _ | omega | (simp; done) | (simp; omega)) _) | (with_reducible refine bt ?_ (by with_reducible assumption))))) (Tab.below hL (by repeat (first | (with_reducible exact Below.refl _ _) | (with_reducible assumption) | (with_reducible refine bdrew ?_) | (with_reducible refine baa ?_ _) | (with_reducible refine bs ?_ (by first | exact Nat.le_refl _ | omega | (simp; done) | (simp; omega)) _) | (with_reducible refine bt ?_ (by with_reducible assumption)))))).mono ?_
  rintro e w6 ⟨rfl, hb6⟩
  obtain ⟨hc6, hf6⟩ := bcell hb6
  have hz6 := hb6.size
  try simp at hz6
  have hl6w4 : w4.heap.size < w6.heap.size := by omega
  have hm6w4 : w4.heap.size ≤ w6.heap.size := by omega
  have hl6w5 : w5.heap.size < w6.heap.size := by omega
  have hm6w5 : w5.heap.size ≤ w6.heap.size := by omega
  have g6x0 : w6.cell? ⟨w4.heap.size, 0, none⟩ = some (.int .i64 (1 + y % 9999)) := (hc6 _ _ (by first | omega | (simp; done) | (simp; omega))).trans (by first | (with_reducible assumption) | (simp [go_sem]; done) | (simp [go_sem, *]; done) | assumption)
  have g6x1 : w6.cell? ⟨w4.heap.size, 1, none⟩ = some (.int .i64 7) := (hc6 _ _ (by first | omega | (simp; done) | (simp; omega))).trans (by first | (with_reducible assumption) | (simp [go_sem]; done) | (simp [go_sem, *]; done) | assumption)
  have g6x2 : w6.cell? ⟨w4.heap.size, 2, none⟩ = some (.bool false) := (hc6 _ _ (by first | omega | (simp; done) | (simp; omega))).trans (by first | (with_reducible assumption) | (simp [go_sem]; done) | (simp [go_sem, *]; done) | assumption)
  have g6x3 : w6.cell? ⟨w4.heap.size, 3, none⟩ = some (.int .i64 16) := (hc6 _ _ (by first | omega | (simp; done) | (simp; omega))).trans (by first | (with_reducible assumption) | (simp [go_sem]; done) | (simp [go_sem, *]; done) | assumption)
  have g6x4 : w6.cell? ⟨w5.heap.size, 0, none⟩ = some (.int .i64 (1 + y % 9999)) := (hc6 _ _ (by first | omega | (simp; done) | (simp; omega))).trans (by first | (with_reducible assumption) | (simp [go_sem]; done) | (simp [go_sem, *]; done) | assumption)
  have g6x5 : w6.cell? ⟨w5.heap.size, 1, none⟩ = some (.int .i64 9) := (hc6 _ _ (by first | omega | (simp; done) | (simp; omega))).trans (by first | (with_reducible assumption) | (simp [go_sem]; done) | (simp [go_sem, *]; done) | assumption)
  have g6x6 : w6.cell? ⟨w5.heap.size, 2, none⟩ = some (.bool false) := (hc6 _ _ (by first | omega | (simp; done) | (simp; omega))).trans (by first | (with_reducible assumption) | (simp [go_sem]; done) | (simp [go_sem, *]; done) | assumption)
  have g6x7 : w6.cell? ⟨w5.heap.size, 3, none⟩ = some (.int .i64 5) := (hc6 _ _ (by first | omega | (simp; done) | (simp; omega))).trans (by first | (with_reducible assumption) | (simp [go_sem]; done) | (simp [go_sem, *]; done) | assumption)
  go_wp2_with fail
  refine (HM3.out _ (Tab.below hT (by repeat (first | (with_reducible exact Below.refl _ _) | (with_reducible assumption) | (with_reducible refine bdrew ?_) | (with_reducible refine baa ?_ _) | (with_reducible refine bs ?_ (by first | exact Nat.le_refl _ | omega | (simp; done) | (simp; omega)) _) | (with_reducible refine bt ?_ (by with_reducible assumption))))) (Tab.below hL (by repeat (first | (with_reducible exact Below.refl _ _) | (with_reducible assumption) | (with_reducible refine bdrew ?_) | (with_reducible refine baa ?_ _) | (with_reducible refine bs ?_ (by first | exact Nat.le_refl _ | omega | (simp; done) | (simp; omega)) _) | (with_reducible refine bt ?_ (by with_reducible assumption)))))).mono ?_
  rintro e w7 ⟨rfl, hb7⟩
  obtain ⟨hc7, hf7⟩ := bcell hb7
  have hz7 := hb7.size
  try simp at hz7
  have hl7w4 : w4.heap.size < w7.heap.size := by omega
  have hm7w4 : w4.heap.size ≤ w7.heap.size := by omega
  have hl7w5 : w5.heap.size < w7.heap.size := by omega
  have hm7w5 : w5.heap.size ≤ w7.heap.size := by omega
  have g7x0 : w7.cell? ⟨w4.heap.size, 0, none⟩ = some (.int .i64 (1 + y % 9999)) := (hc7 _ _ (by first | omega | (simp; done) | (simp; omega))).trans (by first | (with_reducible assumption) | (simp [go_sem]; done) | (simp [go_sem, *]; done) | assumption)
  have g7x1 : w7.cell? ⟨w4.heap.size, 1, none⟩ = some (.int .i64 7) := (hc7 _ _ (by first | omega | (simp; done) | (simp; omega))).trans (by first | (with_reducible assumption) | (simp [go_sem]; done) | (simp [go_sem, *]; done) | assumption)
  have g7x2 : w7.cell? ⟨w4.heap.size, 2, none⟩ = some (.bool false) := (hc7 _ _ (by first | omega | (simp; done) | (simp; omega))).trans (by first | (with_reducible assumption) | (simp [go_sem]; done) | (simp [go_sem, *]; done) | assumption)
  have g7x3 : w7.cell? ⟨w4.heap.size, 3, none⟩ = some (.int .i64 16) := (hc7 _ _ (by first | omega | (simp; done) | (simp; omega))).trans (by first | (with_reducible assumption) | (simp [go_sem]; done) | (simp [go_sem, *]; done) | assumption)
  have g7x4 : w7.cell? ⟨w5.heap.size, 0, none⟩ = some (.int .i64 (1 + y % 9999)) := (hc7 _ _ (by first | omega | (simp; done) | (simp; omega))).trans (by first | (with_reducible assumption) | (simp [go_sem]; done) | (simp [go_sem, *]; done) | assumption)
  have g7x5 : w7.cell? ⟨w5.heap.size, 1, none⟩ = some (.int .i64 9) := (hc7 _ _ (by first | omega | (simp; done) | (simp; omega))).trans (by first | (with_reducible assumption) | (simp [go_sem]; done) | (simp [go_sem, *]; done) | assumption)
  have g7x6 : w7.cell? ⟨w5.heap.size, 2, none⟩ = some (.bool false) := (hc7 _ _ (by first | omega | (simp; done) | (simp; omega))).trans (by first | (with_reducible assumption) | (simp [go_sem]; done) | (simp [go_sem, *]; done) | assumption)
  have g7x7 : w7.cell? ⟨w5.heap.size, 3, none⟩ = some (.int .i64 5) := (hc7 _ _ (by first | omega | (simp; done) | (simp; omega))).trans (by first | (with_reducible assumption) | (simp [go_sem]; done) | (simp [go_sem, *]; done) | assumption)
  go_wp2_with fail
  refine (HAw.out _ (Tab.below hT (by repeat (first | (with_reducible exact Below.refl _ _) | (with_reducible assumption) | (with_reducible refine bdrew ?_) | (with_reducible refine baa ?_ _) | (with_reducible refine bs ?_ (by first | exact Nat.le_refl _ | omega | (simp; done) | (simp; omega)) _) | (with_reducible refine bt ?_ (by with_reducible assumption))))) (Tab.below hL (by repeat (first | (with_reducible exact Below.refl _ _) | (with_reducible assumption) | (with_reducible refine bdrew ?_) | (with_reducible refine baa ?_ _) | (with_reducible refine bs ?_ (by first | exact Nat.le_refl _ | omega | (simp; done) | (simp; omega)) _) | (with_reducible refine bt ?_ (by with_reducible assumption)))))).mono ?_
  rintro e w8 ⟨rfl, hb8⟩
  obtain ⟨hc8, hf8⟩ := bcell hb8
  have hz8 := hb8.size
  try simp at hz8
  have hl8w4 : w4.heap.size < w8.heap.size := by omega
  have hm8w4 : w4.heap.size ≤ w8.heap.size := by omega
  have hl8w5 : w5.heap.size < w8.heap.size := by omega
  have hm8w5 : w5.heap.size ≤ w8.heap.size := by omega
  have g8x0 : w8.cell? ⟨w4.heap.size, 0, none⟩ = some (.int .i64 (1 + y % 9999)) := (hc8 _ _ (by first | omega | (simp; done) | (simp; omega))).trans (by first | (with_reducible assumption) | (simp [go_sem]; done) | (simp [go_sem, *]; done) | assumption)
  have g8x1 : w8.cell? ⟨w4.heap.size, 1, none⟩ = some (.int .i64 7) := (hc8 _ _ (by first | omega | (simp; done) | (simp; omega))).trans (by first | (with_reducible assumption) | (simp [go_sem]; done) | (simp [go_sem, *]; done) | assumption)
  have g8x2 : w8.cell? ⟨w4.heap.size, 2, none⟩ = some (.bool false) := (hc8 _ _ (by first | omega | (simp; done) | (simp; omega))).trans (by first | (with_reducible assumption) | (simp [go_sem]; done) | (simp [go_sem, *]; done) | assumption)
  have g8x3 : w8.cell? ⟨w4.heap.size, 3, none⟩ = some (.int .i64 16) := (hc8 _ _ (by first | omega | (simp; done) | (simp; omega))).trans (by first | (with_reducible assumption) | (simp [go_sem]; done) | (simp [go_sem, *]; done) | assumption)
  have g8x4 : w8.cell? ⟨w5.heap.size, 0, none⟩ = some (.int .i64 (1 + y % 9999)) := (hc8 _ _ (by first | omega | (simp; done) | (simp; omega))).trans (by first | (with_reducible assumption) | (simp [go_sem]; done) | (simp [go_sem, *]; done) | assumption)
  have g8x5 : w8.cell? ⟨w5.heap.size, 1, none⟩ = some (.int .i64 9) := (hc8 _ _ (by first | omega | (simp; done) | (simp; omega))).trans (by first | (with_reducible assumption) | (simp [go_sem]; done) | (simp [go_sem, *]; done) | assumption)
  have g8x6 : w8.cell? ⟨w5.heap.size, 2, none⟩ = some (.bool false) := (hc8 _ _ (by first | omega | (simp; done) | (simp; omega))).trans (by first | (with_reducible assumption) | (simp [go_sem]; done) | (simp [go_sem, *]; done) | assumption)
  have g8x7 : w8.cell? ⟨w5.heap.size, 3, none⟩ = some (.int .i64 5) := (hc8 _ _ (by first | omega | (simp; done) | (simp; omega))).trans (by first | (with_reducible assumption) | (simp [go_sem]; done) | (simp [go_sem, *]; done) | assumption)
  go_wp2_with fail
  go_ret
  exact ⟨rfl, by repeat (first | (with_reducible exact Below.refl _ _) | (with_reducible assumption) | (with_reducible refine bdrew ?_) | (with_reducible refine baa ?_ _) | (with_reducible refine bs ?_ (by first | exact Nat.le_refl _ | omega | (simp; done) | (simp; omega)) _) | (with_reducible refine bt ?_ (by with_reducible assumption)))⟩
theorem ChodeshOmer_walk (y n : Int) (hy : 0 ≤ y ∧ y ≤ 65535) (hn : 0 ≤ n ∧ n ≤ 255) (w : World) (hT : Tab w 2 kevCells) (hL : Tab w 3 lenCells) :
    Calls Tryz.prog 6 #[.int .u16 y, .int .u8 n] w fun e w' => e = .returned (.bool true) ∧ Below w.heap.size w w' := by
  have hAw := Lib.hid (fun w hT hL => awake21 w hT hL)
  obtain ⟨i, hi⟩ := Yr.is_some (1 + y % 9999) (by omega) (by omega)
  have h1 := hi.1
  have h2 := hi.2.1
  have hl := Yr.next_first hi
  have hf := Yr.first_bd hi
  have h := List.all_eq_true.1 Om.om2 i (List.mem_range.2 hi.2.2.1)
  simp only [Bool.and_eq_true, decide_eq_true_eq] at h
  obtain ⟨a1, a2, a3, a4, a5, a6, a7⟩ := h
  have q1 := (Yr.day_off hi a1).2
  obtain ⟨q2, q3⟩ := Yr.day_off hi a2
  obtain ⟨q4, q5⟩ := Yr.day_off hi a3
  have hm : ∀ x v, 0 ≤ x → x ≤ 50 → Om.val x = v → ∀ w : World, Tab w 2 kevCells → Tab w 3 lenCells → Calls Tryz.prog 18 #[.int .i64 (Om.om (1 + y % 9999) + x)] w fun r w' => r = .returned (.tuple #[.int .i64 v, .int .i64 0]) ∧ Below w.heap.size w w' := fun x v x0 x1 hv w hT hL => by
    obtain ⟨m, d, hvd, e⟩ := day_in_year (1 + y % 9999) (Om.om (1 + y % 9999) + x) h1 h2 (by unfold Om.om; omega) (by unfold Om.om; omega)
    have := chodesh_Omer_at (1 + y % 9999) m d w hvd hT hL
    rw [← e, show Om.om (1 + y % 9999) + x - Om.om (1 + y % 9999) = x by omega, hv] at this
    exact this
  have hom : Om.om (1 + y % 9999) = D10.dayV (1 + y % 9999) 7 false 15 := rfl
  refine ChodeshOmer_go y n (Om.om (1 + y % 9999)) w hy hn hT hL hAw (Om.om_e h1 h2).2.1 (Om.om_e h1 h2).2.2 (Lib.hid (fun w hT hL => chodesh_Counted_ok (1 + y % 9999) 1 w h1 h2 (by omega) (by omega) hT hL)) (Lib.hid (fun w hT hL => chodesh_Counted_ok (1 + y % 9999) (1 + n % 49) w h1 h2 (by omega) (by omega) hT hL))
    (Lib.hid (hm (1 + n % 49) (1 + n % 49) (by omega) (by omega) (by unfold Om.val; rw [if_pos (by omega)]))) (Lib.hid (fun w => ?_)) (Lib.hid (fun w => ?_)) (Lib.hid (fun w hT hL => ?_)) (Lib.hid (fun w hT hL => ?_))
  · have := from_code (1 + y % 9999) 7 16 false w q2
    rwa [show D10.dayV (1 + y % 9999) 7 false 16 = Om.om (1 + y % 9999) + 1 by omega] at this
  · have := from_code (1 + y % 9999) 9 5 false w q4
    rwa [show D10.dayV (1 + y % 9999) 9 false 5 = Om.om (1 + y % 9999) + 1 + 48 by omega] at this
  · have := hm 0 0 (by omega) (by omega) (by decide) w hT hL
    rwa [Int.add_zero] at this
  · have := hm 50 0 (by omega) (by omega) (by decide) w hT hL
    rwa [show Om.om (1 + y % 9999) + 50 = Om.om (1 + y % 9999) + 1 + 49 by omega] at this
end Go.Proofs.YtagmdglmflcegaaGreatDoor
