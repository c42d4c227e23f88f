/- Layer 7: the walks of its laws. -/
import Derived.Test.YtemkngkaaabghaaDoorKev2
namespace Go.Proofs.YtemkngkaaabghaaDoor
open Go.ChangeShapes Go.WideShapes Go.ChangeAt Go.RowKit
set_option linter.unusedVariables false
theorem number_row (n : Nat) (hn : n < 14) : number (kevB n) (kevK n) (kevL n) = (n : Int) + 1 := by
  match n, hn with
  | 0, _ | 1, _ | 2, _ | 3, _ | 4, _ | 5, _ | 6, _ | 7, _ | 8, _ | 9, _ | 10, _ | 11, _ | 12, _ | 13, _ => decide
def rowsNe : Bool := (List.range 14).all fun i => (List.range 14).all fun j => i == j || !(kevB i == kevB j && (kevK i == kevK j && kevL i == kevL j))
theorem rowsNe_ok : rowsNe = true := by decide +kernel
theorem row_ne (i j : Nat) (hi : i < 14) (hj : j < 14) (hij : i ≠ j) (h1 : kevB i = kevB j) (h2 : kevK i = kevK j) : ¬ (kevL i = kevL j) := by
  intro h3
  have := List.all_eq_true.1 (List.all_eq_true.1 rowsNe_ok i (List.mem_range.2 hi)) j (List.mem_range.2 hj)
  simp [hij, h1, h2, h3] at this
theorem ref7_Type_yes (n : Nat) (hn : n < 14) (w : World) :
    Calls Tryd.prog 13 #[.int .i64 ((n : Int) + 1)] w fun e w' => e = .returned (.tuple #[.agg #[.int .i64 (kevB n), .int .i64 (kevK n), .bool (kevL n)], .bool true]) ∧ Below w.heap.size w w' := by
  match n, hn with
  | 0, _ => exact ref7_Type_0 w
  | 1, _ => exact ref7_Type_1 w
  | 2, _ => exact ref7_Type_2 w
  | 3, _ => exact ref7_Type_3 w
  | 4, _ => exact ref7_Type_4 w
  | 5, _ => exact ref7_Type_5 w
  | 6, _ => exact ref7_Type_6 w
  | 7, _ => exact ref7_Type_7 w
  | 8, _ => exact ref7_Type_8 w
  | 9, _ => exact ref7_Type_9 w
  | 10, _ => exact ref7_Type_10 w
  | 11, _ => exact ref7_Type_11 w
  | 12, _ => exact ref7_Type_12 w
  | 13, _ => exact ref7_Type_13 w

theorem keviah_Of_5784 (w : World) : Calls Tryd.prog 10 #[.int .i64 5784] w fun e w' => e = .returned (.tuple #[.agg #[.int .i64 6, .int .i64 0, .bool true], .int .i64 0]) ∧ Below w.heap.size w w' := by
  have := keviah_Of_ok 5784 w (by omega) (by omega)
  rwa [show Cal.first 5784 % 7 = 6 by decide +kernel, show Cal.kind 5784 = 0 by decide +kernel, show Cal.leap 5784 = true by decide +kernel] at this
theorem keviah_Long_5784 (w : World) : Calls Tryd.prog 8 #[.int .i64 5784] w fun e w' => e = .returned (.tuple #[.int .i64 383, .int .i64 0]) ∧ Below w.heap.size w w' := by
  have := keviah_Long_ok 5784 w (by omega) (by omega)
  rwa [show Cal.long 5784 = 383 by decide +kernel] at this
theorem keviah_Number_13 (w : World) (hT : Tab w 0 kevCells) : Calls Tryd.prog 15 #[.agg #[.int .i64 6, .int .i64 0, .bool true]] w fun e w' => e = .returned (.int .i64 13) ∧ Below w.heap.size w w' := by
  have := keviah_Number_any 6 0 true w hT
  rwa [show number 6 0 true = 13 by decide] at this
theorem keviah_Number_row (n : Nat) (hn : n < 14) (w : World) (hT : Tab w 0 kevCells) : Calls Tryd.prog 15 #[.agg #[.int .i64 (kevB n), .int .i64 (kevK n), .bool (kevL n)]] w fun e w' => e = .returned (.int .i64 ((n : Int) + 1)) ∧ Below w.heap.size w w' := by
  have := keviah_Number_any (kevB n) (kevK n) (kevL n) w hT
  rwa [number_row n hn] at this
set_option maxHeartbeats 1000000 in
theorem awake7 (w : World) (hT : Tab w 0 kevCells) : Calls Tryd.prog 14 #[] w fun e w' => e = .returned (.bool true) ∧ Below w.heap.size w w' := by
  go_enter Tryd.func14, Tryd.ntmps14
  go_wp2_with fail
  refine (keviah_Of_5784 _).mono ?_
  rintro e w1 ⟨rfl, hb1⟩
  obtain ⟨hc1, hf1⟩ := bcell hb1
  have hz1 := hb1.size
  try simp at hz1
  go_wp2_with fail
  refine (keviah_Long_5784 _).mono ?_
  rintro e w2 ⟨rfl, hb2⟩
  obtain ⟨hc2, hf2⟩ := bcell hb2
  have hz2 := hb2.size
  try simp at hz2
  have hl2w1 : w1.heap.size < w2.heap.size := by omega
  have hm2w1 : w1.heap.size ≤ w2.heap.size := by omega
  have g2x0 : w2.cell? ⟨w1.heap.size, 0, none⟩ = some (.int .i64 (6)) := (hc2 _ _ (by first | omega | (simp; done) | (simp; omega))).trans (by first | assumption | simp [go_sem] | simp [go_sem, *])
  have g2x1 : w2.cell? ⟨w1.heap.size, 1, none⟩ = some (.int .i64 (0)) := (hc2 _ _ (by first | omega | (simp; done) | (simp; omega))).trans (by first | assumption | simp [go_sem] | simp [go_sem, *])
  have g2x2 : w2.cell? ⟨w1.heap.size, 2, none⟩ = some (.bool (true)) := (hc2 _ _ (by first | omega | (simp; done) | (simp; omega))).trans (by first | assumption | simp [go_sem] | simp [go_sem, *])
  go_wp2_with fail
  refine (keviah_Of_no 0 _ ⟨by omega, by omega⟩ (by omega)).mono ?_
  rintro e w3 ⟨rfl, hb3⟩
  obtain ⟨hc3, hf3⟩ := bcell hb3
  have hz3 := hb3.size
  try simp at hz3
  have hl3w1 : w1.heap.size < w3.heap.size := by omega
  have hm3w1 : w1.heap.size ≤ w3.heap.size := by omega
  have g3x0 : w3.cell? ⟨w1.heap.size, 0, none⟩ = some (.int .i64 (6)) := (hc3 _ _ (by first | omega | (simp; done) | (simp; omega))).trans (by first | assumption | simp [go_sem] | simp [go_sem, *])
  have g3x1 : w3.cell? ⟨w1.heap.size, 1, none⟩ = some (.int .i64 (0)) := (hc3 _ _ (by first | omega | (simp; done) | (simp; omega))).trans (by first | assumption | simp [go_sem] | simp [go_sem, *])
  have g3x2 : w3.cell? ⟨w1.heap.size, 2, none⟩ = some (.bool (true)) := (hc3 _ _ (by first | omega | (simp; done) | (simp; omega))).trans (by first | assumption | simp [go_sem] | simp [go_sem, *])
  go_wp2_with fail
  refine settleC (fun W => W.cell? ⟨w1.heap.size, 0, none⟩ = some (.int .i64 (6)) ∧ W.cell? ⟨w1.heap.size, 1, none⟩ = some (.int .i64 (0)) ∧ W.cell? ⟨w1.heap.size, 2, none⟩ = some (.bool (true)) ∧ w1.heap.size < W.heap.size ∧ Below w.heap.size w W ∧ Tab W 0 kevCells) ⟨?_, ?_, ?_, ?_, ?_, ?_⟩ ?_
  · (first | assumption | (simp [go_sem, *]; done))
  · (first | assumption | (simp [go_sem, *]; done))
  · (first | assumption | (simp [go_sem, *]; done))
  · (first | assumption | (simp; done) | (simp; omega) | omega)
  · (repeat (first | exact Below.refl _ _ | assumption | refine bt ?_ (by assumption) | refine baa ?_ _ | refine bdw ?_ | refine bs ?_ (by first | exact Nat.le_refl _ | omega | (simp; omega)) _))
  · (refine Tab.below hT ?_; repeat (first | exact Below.refl _ _ | assumption | refine bt ?_ (by assumption) | refine baa ?_ _ | refine bdw ?_ | refine bs ?_ (by first | exact Nat.le_refl _ | omega | (simp; omega)) _))
  rintro W4 ⟨r4x0, r4x1, r4x2, rs4x0, hB4, hT4x0⟩
  refine (keviah_Number_13 _ hT4x0).mono ?_
  rintro e w5 ⟨rfl, hb5⟩
  obtain ⟨hc5, hf5⟩ := bcell hb5
  have hz5 := hb5.size
  try simp at hz5
  go_wp2_with fail
  go_ret
  exact ⟨rfl, bt hB4 hb5⟩
set_option maxHeartbeats 1000000 in
theorem KeviahNumbers_walk (a b : Int) (ha : 0 ≤ a ∧ a ≤ 255) (hb : 0 ≤ b ∧ b ≤ 255) (w : World) (hT : Tab w 0 kevCells) :
    Calls Tryd.prog 5 #[.int .u8 a, .int .u8 b] w fun e w' => e = .returned (.bool true) ∧ Below w.heap.size w w' := by
  obtain ⟨a0, a1⟩ := ha
  obtain ⟨b0, b1⟩ := hb
  have k1 : 0 ≤ a % 14 := by omega
  have k2 : a % 14 < 14 := by omega
  have k3 : 0 ≤ b % 14 := by omega
  have k4 : b % 14 < 14 := by omega
  obtain ⟨i, hi, ei⟩ : ∃ i : Nat, i < 14 ∧ 1 + a % 14 = (i : Int) + 1 := ⟨(a % 14).toNat, by omega, by omega⟩
  obtain ⟨j, hj, ej⟩ : ∃ j : Nat, j < 14 ∧ 1 + b % 14 = (j : Int) + 1 := ⟨(b % 14).toNat, by omega, by omega⟩
  have HX := Lib.hid (fun w h => ei ▸ keviah_Type_yes i hi w (kev_of_tab h))
  have HY := Lib.hid (fun w h => ej ▸ keviah_Type_yes j hj w (kev_of_tab h))
  have HN := Lib.hid (fun w h => ei ▸ keviah_Number_row i hi w h)
  have HM := Lib.hid (fun w h => ej ▸ keviah_Number_row j hj w h)
  by_cases hij : i = j
  · subst hij
    have hba : b % 14 = a % 14 := by omega
    rw [hba] at HY HM
    clear ei ej
    go_enter Tryd.func5, Tryd.ntmps5
    go_wp2_with fail
    refine (HX.out _ hT).mono ?_
    rintro e w1 ⟨rfl, hb1⟩
    obtain ⟨hc1, hf1⟩ := bcell hb1
    have hz1 := hb1.size
    try simp at hz1
    go_wp2_with fail
    refine settleC (fun W => W.cell? ⟨w1.heap.size, 0, none⟩ = some (.int .i64 (kevB i)) ∧ W.cell? ⟨w1.heap.size, 1, none⟩ = some (.int .i64 (kevK i)) ∧ W.cell? ⟨w1.heap.size, 2, none⟩ = some (.bool (kevL i)) ∧ w1.heap.size < W.heap.size ∧ Below w.heap.size w W ∧ Tab W 0 kevCells) ⟨?_, ?_, ?_, ?_, ?_, ?_⟩ ?_
    · (first | assumption | (simp [go_sem, *]; done))
    · (first | assumption | (simp [go_sem, *]; done))
    · (first | assumption | (simp [go_sem, *]; done))
    · (first | assumption | (simp; done) | (simp; omega) | omega)
    · (repeat (first | exact Below.refl _ _ | assumption | refine bt ?_ (by assumption) | refine baa ?_ _ | refine bdw ?_ | refine bs ?_ (by first | exact Nat.le_refl _ | omega | (simp; omega)) _))
    · (refine Tab.below hT ?_; repeat (first | exact Below.refl _ _ | assumption | refine bt ?_ (by assumption) | refine baa ?_ _ | refine bdw ?_ | refine bs ?_ (by first | exact Nat.le_refl _ | omega | (simp; omega)) _))
    rintro W2 ⟨r2x0, r2x1, r2x2, rs2x0, hB2, hT2x0⟩
    refine (HY.out _ hT2x0).mono ?_
    rintro e w3 ⟨rfl, hb3⟩
    obtain ⟨hc3, hf3⟩ := bcell hb3
    have hz3 := hb3.size
    try simp at hz3
    have hs3x0 : w1.heap.size < w3.heap.size := by omega
    have g3x0 : w3.cell? ⟨w1.heap.size, 0, none⟩ = some (.int .i64 (kevB i)) := (hc3 _ _ (by first | omega | (simp; done) | (simp; omega))).trans (by first | assumption | simp [go_sem] | simp [go_sem, *])
    have g3x1 : w3.cell? ⟨w1.heap.size, 1, none⟩ = some (.int .i64 (kevK i)) := (hc3 _ _ (by first | omega | (simp; done) | (simp; omega))).trans (by first | assumption | simp [go_sem] | simp [go_sem, *])
    have g3x2 : w3.cell? ⟨w1.heap.size, 2, none⟩ = some (.bool (kevL i)) := (hc3 _ _ (by first | omega | (simp; done) | (simp; omega))).trans (by first | assumption | simp [go_sem] | simp [go_sem, *])
    go_wp2_with fail
    refine settleC (fun W => W.cell? ⟨w1.heap.size, 0, none⟩ = some (.int .i64 (kevB i)) ∧ W.cell? ⟨w1.heap.size, 1, none⟩ = some (.int .i64 (kevK i)) ∧ W.cell? ⟨w1.heap.size, 2, none⟩ = some (.bool (kevL i)) ∧ W.cell? ⟨w3.heap.size, 0, none⟩ = some (.int .i64 (kevB i)) ∧ W.cell? ⟨w3.heap.size, 1, none⟩ = some (.int .i64 (kevK i)) ∧ W.cell? ⟨w3.heap.size, 2, none⟩ = some (.bool (kevL i)) ∧ w1.heap.size < W.heap.size ∧ w3.heap.size < W.heap.size ∧ Below w.heap.size w W ∧ Tab W 0 kevCells) ⟨?_, ?_, ?_, ?_, ?_, ?_, ?_, ?_, ?_, ?_⟩ ?_
    · (first | assumption | (simp [go_sem, *]; done))
    · (first | assumption | (simp [go_sem, *]; done))
    · (first | assumption | (simp [go_sem, *]; done))
    · (first | assumption | (simp [go_sem, *]; done))
    · (first | assumption | (simp [go_sem, *]; done))
    · (first | assumption | (simp [go_sem, *]; done))
    · (first | assumption | (simp; done) | (simp; omega) | omega)
    · (first | assumption | (simp; done) | (simp; omega) | omega)
    · (repeat (first | exact Below.refl _ _ | assumption | refine bt ?_ (by assumption) | refine baa ?_ _ | refine bdw ?_ | refine bs ?_ (by first | exact Nat.le_refl _ | omega | (simp; omega)) _))
    · (refine Tab.below hT2x0 ?_; repeat (first | exact Below.refl _ _ | assumption | refine bt ?_ (by assumption) | refine baa ?_ _ | refine bdw ?_ | refine bs ?_ (by first | exact Nat.le_refl _ | omega | (simp; omega)) _))
    rintro W4 ⟨r4x0, r4x1, r4x2, r4x3, r4x4, r4x5, rs4x0, rs4x1, hB4, hT4x0⟩
    refine (awake7 _ hT4x0).mono ?_
    rintro e w5 ⟨rfl, hb5⟩
    obtain ⟨hc5, hf5⟩ := bcell hb5
    have hz5 := hb5.size
    try simp at hz5
    have hl5w1 : w1.heap.size < w5.heap.size := by omega
    have hm5w1 : w1.heap.size ≤ w5.heap.size := by omega
    have hl5w3 : w3.heap.size < w5.heap.size := by omega
    have hm5w3 : w3.heap.size ≤ w5.heap.size := by omega
    have g5x0 : w5.cell? ⟨w1.heap.size, 0, none⟩ = some (.int .i64 (kevB i)) := (hc5 _ _ (by first | omega | (simp; done) | (simp; omega))).trans (by first | assumption | simp [go_sem] | simp [go_sem, *])
    have g5x1 : w5.cell? ⟨w1.heap.size, 1, none⟩ = some (.int .i64 (kevK i)) := (hc5 _ _ (by first | omega | (simp; done) | (simp; omega))).trans (by first | assumption | simp [go_sem] | simp [go_sem, *])
    have g5x2 : w5.cell? ⟨w1.heap.size, 2, none⟩ = some (.bool (kevL i)) := (hc5 _ _ (by first | omega | (simp; done) | (simp; omega))).trans (by first | assumption | simp [go_sem] | simp [go_sem, *])
    have g5x3 : w5.cell? ⟨w3.heap.size, 0, none⟩ = some (.int .i64 (kevB i)) := (hc5 _ _ (by first | omega | (simp; done) | (simp; omega))).trans (by first | assumption | simp [go_sem] | simp [go_sem, *])
    have g5x4 : w5.cell? ⟨w3.heap.size, 1, none⟩ = some (.int .i64 (kevK i)) := (hc5 _ _ (by first | omega | (simp; done) | (simp; omega))).trans (by first | assumption | simp [go_sem] | simp [go_sem, *])
    have g5x5 : w5.cell? ⟨w3.heap.size, 2, none⟩ = some (.bool (kevL i)) := (hc5 _ _ (by first | omega | (simp; done) | (simp; omega))).trans (by first | assumption | simp [go_sem] | simp [go_sem, *])
    go_wp2_with fail
    refine (HN.out _ (Tab.below hT4x0 hb5)).mono ?_
    rintro e w6 ⟨rfl, hb6⟩
    obtain ⟨hc6, hf6⟩ := bcell hb6
    have hz6 := hb6.size
    try simp at hz6
    have hl6w1 : w1.heap.size < w6.heap.size := by omega
    have hm6w1 : w1.heap.size ≤ w6.heap.size := by omega
    have hl6w3 : w3.heap.size < w6.heap.size := by omega
    have hm6w3 : w3.heap.size ≤ w6.heap.size := by omega
    have g6x0 : w6.cell? ⟨w1.heap.size, 0, none⟩ = some (.int .i64 (kevB i)) := (hc6 _ _ (by first | omega | (simp; done) | (simp; omega))).trans (by first | assumption | simp [go_sem] | simp [go_sem, *])
    have g6x1 : w6.cell? ⟨w1.heap.size, 1, none⟩ = some (.int .i64 (kevK i)) := (hc6 _ _ (by first | omega | (simp; done) | (simp; omega))).trans (by first | assumption | simp [go_sem] | simp [go_sem, *])
    have g6x2 : w6.cell? ⟨w1.heap.size, 2, none⟩ = some (.bool (kevL i)) := (hc6 _ _ (by first | omega | (simp; done) | (simp; omega))).trans (by first | assumption | simp [go_sem] | simp [go_sem, *])
    have g6x3 : w6.cell? ⟨w3.heap.size, 0, none⟩ = some (.int .i64 (kevB i)) := (hc6 _ _ (by first | omega | (simp; done) | (simp; omega))).trans (by first | assumption | simp [go_sem] | simp [go_sem, *])
    have g6x4 : w6.cell? ⟨w3.heap.size, 1, none⟩ = some (.int .i64 (kevK i)) := (hc6 _ _ (by first | omega | (simp; done) | (simp; omega))).trans (by first | assumption | simp [go_sem] | simp [go_sem, *])
    have g6x5 : w6.cell? ⟨w3.heap.size, 2, none⟩ = some (.bool (kevL i)) := (hc6 _ _ (by first | omega | (simp; done) | (simp; omega))).trans (by first | assumption | simp [go_sem] | simp [go_sem, *])
    go_wp2_with fail
    refine (HM.out _ (Tab.below (Tab.below hT4x0 hb5) hb6)).mono ?_
    rintro e w7 ⟨rfl, hb7⟩
    obtain ⟨hc7, hf7⟩ := bcell hb7
    have hz7 := hb7.size
    try simp at hz7
    have hl7w1 : w1.heap.size < w7.heap.size := by omega
    have hm7w1 : w1.heap.size ≤ w7.heap.size := by omega
    have hl7w3 : w3.heap.size < w7.heap.size := by omega
    have hm7w3 : w3.heap.size ≤ w7.heap.size := by omega
    have g7x0 : w7.cell? ⟨w1.heap.size, 0, none⟩ = some (.int .i64 (kevB i)) := (hc7 _ _ (by first | omega | (simp; done) | (simp; omega))).trans (by first | assumption | simp [go_sem] | simp [go_sem, *])
    have g7x1 : w7.cell? ⟨w1.heap.size, 1, none⟩ = some (.int .i64 (kevK i)) := (hc7 _ _ (by first | omega | (simp; done) | (simp; omega))).trans (by first | assumption | simp [go_sem] | simp [go_sem, *])
    have g7x2 : w7.cell? ⟨w1.heap.size, 2, none⟩ = some (.bool (kevL i)) := (hc7 _ _ (by first | omega | (simp; done) | (simp; omega))).trans (by first | assumption | simp [go_sem] | simp [go_sem, *])
    have g7x3 : w7.cell? ⟨w3.heap.size, 0, none⟩ = some (.int .i64 (kevB i)) := (hc7 _ _ (by first | omega | (simp; done) | (simp; omega))).trans (by first | assumption | simp [go_sem] | simp [go_sem, *])
    have g7x4 : w7.cell? ⟨w3.heap.size, 1, none⟩ = some (.int .i64 (kevK i)) := (hc7 _ _ (by first | omega | (simp; done) | (simp; omega))).trans (by first | assumption | simp [go_sem] | simp [go_sem, *])
    have g7x5 : w7.cell? ⟨w3.heap.size, 2, none⟩ = some (.bool (kevL i)) := (hc7 _ _ (by first | omega | (simp; done) | (simp; omega))).trans (by first | assumption | simp [go_sem] | simp [go_sem, *])
    go_wp2_with fail
    go_ret
    exact ⟨rfl, bt (bt (bt hB4 hb5) hb6) hb7⟩
  · have hne : ¬ (a % 14 = b % 14) := by omega
    have hne1 : (1 + a % 14 == 1 + b % 14) = false := by rw [beq_eq_false_iff_ne]; omega
    have hr : kevB i = kevB j → kevK i = kevK j → ¬ (kevL i = kevL j) := row_ne i j hi hj hij
    clear ei ej
    generalize kevL i = l at *
    generalize kevL j = l' at *
    generalize kevK i = k at *
    generalize kevK j = k' at *
    generalize kevB i = e at *
    generalize kevB j = e' at *
    by_cases e1 : e = e'
    · subst e1
      by_cases e2 : k = k'
      · subst e2
        have e3 := hr rfl rfl
        clear hr
        go_enter Tryd.func5, Tryd.ntmps5
        go_wp2_with fail
        refine (HX.out _ hT).mono ?_
        rintro e w1 ⟨rfl, hb1⟩
        obtain ⟨hc1, hf1⟩ := bcell hb1
        have hz1 := hb1.size
        try simp at hz1
        go_wp2_with fail
        refine settleC (fun W => W.cell? ⟨w1.heap.size, 0, none⟩ = some (.int .i64 (e)) ∧ W.cell? ⟨w1.heap.size, 1, none⟩ = some (.int .i64 (k)) ∧ W.cell? ⟨w1.heap.size, 2, none⟩ = some (.bool (l)) ∧ w1.heap.size < W.heap.size ∧ Below w.heap.size w W ∧ Tab W 0 kevCells) ⟨?_, ?_, ?_, ?_, ?_, ?_⟩ ?_
        · (first | assumption | (simp [go_sem, *]; done))
        · (first | assumption | (simp [go_sem, *]; done))
        · (first | assumption | (simp [go_sem, *]; done))
        · (first | assumption | (simp; done) | (simp; omega) | omega)
        · (repeat (first | exact Below.refl _ _ | assumption | refine bt ?_ (by assumption) | refine baa ?_ _ | refine bdw ?_ | refine bs ?_ (by first | exact Nat.le_refl _ | omega | (simp; omega)) _))
        · (refine Tab.below hT ?_; repeat (first | exact Below.refl _ _ | assumption | refine bt ?_ (by assumption) | refine baa ?_ _ | refine bdw ?_ | refine bs ?_ (by first | exact Nat.le_refl _ | omega | (simp; omega)) _))
        rintro W2 ⟨r2x0, r2x1, r2x2, rs2x0, hB2, hT2x0⟩
        refine (HY.out _ hT2x0).mono ?_
        rintro e w3 ⟨rfl, hb3⟩
        obtain ⟨hc3, hf3⟩ := bcell hb3
        have hz3 := hb3.size
        try simp at hz3
        have hs3x0 : w1.heap.size < w3.heap.size := by omega
        have g3x0 : w3.cell? ⟨w1.heap.size, 0, none⟩ = some (.int .i64 (e)) := (hc3 _ _ (by first | omega | (simp; done) | (simp; omega))).trans (by first | assumption | simp [go_sem] | simp [go_sem, *])
        have g3x1 : w3.cell? ⟨w1.heap.size, 1, none⟩ = some (.int .i64 (k)) := (hc3 _ _ (by first | omega | (simp; done) | (simp; omega))).trans (by first | assumption | simp [go_sem] | simp [go_sem, *])
        have g3x2 : w3.cell? ⟨w1.heap.size, 2, none⟩ = some (.bool (l)) := (hc3 _ _ (by first | omega | (simp; done) | (simp; omega))).trans (by first | assumption | simp [go_sem] | simp [go_sem, *])
        go_wp2_with fail
        refine settleC (fun W => W.cell? ⟨w1.heap.size, 0, none⟩ = some (.int .i64 (e)) ∧ W.cell? ⟨w1.heap.size, 1, none⟩ = some (.int .i64 (k)) ∧ W.cell? ⟨w1.heap.size, 2, none⟩ = some (.bool (l)) ∧ W.cell? ⟨w3.heap.size, 0, none⟩ = some (.int .i64 (e)) ∧ W.cell? ⟨w3.heap.size, 1, none⟩ = some (.int .i64 (k)) ∧ W.cell? ⟨w3.heap.size, 2, none⟩ = some (.bool (l')) ∧ w1.heap.size < W.heap.size ∧ w3.heap.size < W.heap.size ∧ Below w.heap.size w W ∧ Tab W 0 kevCells) ⟨?_, ?_, ?_, ?_, ?_, ?_, ?_, ?_, ?_, ?_⟩ ?_
        · (first | assumption | (simp [go_sem, *]; done))
        · (first | assumption | (simp [go_sem, *]; done))
        · (first | assumption | (simp [go_sem, *]; done))
        · (first | assumption | (simp [go_sem, *]; done))
        · (first | assumption | (simp [go_sem, *]; done))
        · (first | assumption | (simp [go_sem, *]; done))
        · (first | assumption | (simp; done) | (simp; omega) | omega)
        · (first | assumption | (simp; done) | (simp; omega) | omega)
        · (repeat (first | exact Below.refl _ _ | assumption | refine bt ?_ (by assumption) | refine baa ?_ _ | refine bdw ?_ | refine bs ?_ (by first | exact Nat.le_refl _ | omega | (simp; omega)) _))
        · (refine Tab.below hT2x0 ?_; repeat (first | exact Below.refl _ _ | assumption | refine bt ?_ (by assumption) | refine baa ?_ _ | refine bdw ?_ | refine bs ?_ (by first | exact Nat.le_refl _ | omega | (simp; omega)) _))
        rintro W4 ⟨r4x0, r4x1, r4x2, r4x3, r4x4, r4x5, rs4x0, rs4x1, hB4, hT4x0⟩
        refine (awake7 _ hT4x0).mono ?_
        rintro e w5 ⟨rfl, hb5⟩
        obtain ⟨hc5, hf5⟩ := bcell hb5
        have hz5 := hb5.size
        try simp at hz5
        have hl5w1 : w1.heap.size < w5.heap.size := by omega
        have hm5w1 : w1.heap.size ≤ w5.heap.size := by omega
        have hl5w3 : w3.heap.size < w5.heap.size := by omega
        have hm5w3 : w3.heap.size ≤ w5.heap.size := by omega
        have g5x0 : w5.cell? ⟨w1.heap.size, 0, none⟩ = some (.int .i64 (e)) := (hc5 _ _ (by first | omega | (simp; done) | (simp; omega))).trans (by first | assumption | simp [go_sem] | simp [go_sem, *])
        have g5x1 : w5.cell? ⟨w1.heap.size, 1, none⟩ = some (.int .i64 (k)) := (hc5 _ _ (by first | omega | (simp; done) | (simp; omega))).trans (by first | assumption | simp [go_sem] | simp [go_sem, *])
        have g5x2 : w5.cell? ⟨w1.heap.size, 2, none⟩ = some (.bool (l)) := (hc5 _ _ (by first | omega | (simp; done) | (simp; omega))).trans (by first | assumption | simp [go_sem] | simp [go_sem, *])
        have g5x3 : w5.cell? ⟨w3.heap.size, 0, none⟩ = some (.int .i64 (e)) := (hc5 _ _ (by first | omega | (simp; done) | (simp; omega))).trans (by first | assumption | simp [go_sem] | simp [go_sem, *])
        have g5x4 : w5.cell? ⟨w3.heap.size, 1, none⟩ = some (.int .i64 (k)) := (hc5 _ _ (by first | omega | (simp; done) | (simp; omega))).trans (by first | assumption | simp [go_sem] | simp [go_sem, *])
        have g5x5 : w5.cell? ⟨w3.heap.size, 2, none⟩ = some (.bool (l')) := (hc5 _ _ (by first | omega | (simp; done) | (simp; omega))).trans (by first | assumption | simp [go_sem] | simp [go_sem, *])
        go_wp2_with fail
        refine (HN.out _ (Tab.below hT4x0 hb5)).mono ?_
        rintro e w6 ⟨rfl, hb6⟩
        obtain ⟨hc6, hf6⟩ := bcell hb6
        have hz6 := hb6.size
        try simp at hz6
        have hl6w1 : w1.heap.size < w6.heap.size := by omega
        have hm6w1 : w1.heap.size ≤ w6.heap.size := by omega
        have hl6w3 : w3.heap.size < w6.heap.size := by omega
        have hm6w3 : w3.heap.size ≤ w6.heap.size := by omega
        have g6x0 : w6.cell? ⟨w1.heap.size, 0, none⟩ = some (.int .i64 (e)) := (hc6 _ _ (by first | omega | (simp; done) | (simp; omega))).trans (by first | assumption | simp [go_sem] | simp [go_sem, *])
        have g6x1 : w6.cell? ⟨w1.heap.size, 1, none⟩ = some (.int .i64 (k)) := (hc6 _ _ (by first | omega | (simp; done) | (simp; omega))).trans (by first | assumption | simp [go_sem] | simp [go_sem, *])
        have g6x2 : w6.cell? ⟨w1.heap.size, 2, none⟩ = some (.bool (l)) := (hc6 _ _ (by first | omega | (simp; done) | (simp; omega))).trans (by first | assumption | simp [go_sem] | simp [go_sem, *])
        have g6x3 : w6.cell? ⟨w3.heap.size, 0, none⟩ = some (.int .i64 (e)) := (hc6 _ _ (by first | omega | (simp; done) | (simp; omega))).trans (by first | assumption | simp [go_sem] | simp [go_sem, *])
        have g6x4 : w6.cell? ⟨w3.heap.size, 1, none⟩ = some (.int .i64 (k)) := (hc6 _ _ (by first | omega | (simp; done) | (simp; omega))).trans (by first | assumption | simp [go_sem] | simp [go_sem, *])
        have g6x5 : w6.cell? ⟨w3.heap.size, 2, none⟩ = some (.bool (l')) := (hc6 _ _ (by first | omega | (simp; done) | (simp; omega))).trans (by first | assumption | simp [go_sem] | simp [go_sem, *])
        go_wp2_with fail
        refine (HM.out _ (Tab.below (Tab.below hT4x0 hb5) hb6)).mono ?_
        rintro e w7 ⟨rfl, hb7⟩
        obtain ⟨hc7, hf7⟩ := bcell hb7
        have hz7 := hb7.size
        try simp at hz7
        have hl7w1 : w1.heap.size < w7.heap.size := by omega
        have hm7w1 : w1.heap.size ≤ w7.heap.size := by omega
        have hl7w3 : w3.heap.size < w7.heap.size := by omega
        have hm7w3 : w3.heap.size ≤ w7.heap.size := by omega
        have g7x0 : w7.cell? ⟨w1.heap.size, 0, none⟩ = some (.int .i64 (e)) := (hc7 _ _ (by first | omega | (simp; done) | (simp; omega))).trans (by first | assumption | simp [go_sem] | simp [go_sem, *])
        have g7x1 : w7.cell? ⟨w1.heap.size, 1, none⟩ = some (.int .i64 (k)) := (hc7 _ _ (by first | omega | (simp; done) | (simp; omega))).trans (by first | assumption | simp [go_sem] | simp [go_sem, *])
        have g7x2 : w7.cell? ⟨w1.heap.size, 2, none⟩ = some (.bool (l)) := (hc7 _ _ (by first | omega | (simp; done) | (simp; omega))).trans (by first | assumption | simp [go_sem] | simp [go_sem, *])
        have g7x3 : w7.cell? ⟨w3.heap.size, 0, none⟩ = some (.int .i64 (e)) := (hc7 _ _ (by first | omega | (simp; done) | (simp; omega))).trans (by first | assumption | simp [go_sem] | simp [go_sem, *])
        have g7x4 : w7.cell? ⟨w3.heap.size, 1, none⟩ = some (.int .i64 (k)) := (hc7 _ _ (by first | omega | (simp; done) | (simp; omega))).trans (by first | assumption | simp [go_sem] | simp [go_sem, *])
        have g7x5 : w7.cell? ⟨w3.heap.size, 2, none⟩ = some (.bool (l')) := (hc7 _ _ (by first | omega | (simp; done) | (simp; omega))).trans (by first | assumption | simp [go_sem] | simp [go_sem, *])
        go_wp2_with fail
        go_ret
        exact ⟨rfl, bt (bt (bt hB4 hb5) hb6) hb7⟩
      · clear hr
        go_enter Tryd.func5, Tryd.ntmps5
        go_wp2_with fail
        refine (HX.out _ hT).mono ?_
        rintro e w1 ⟨rfl, hb1⟩
        obtain ⟨hc1, hf1⟩ := bcell hb1
        have hz1 := hb1.size
        try simp at hz1
        go_wp2_with fail
        refine settleC (fun W => W.cell? ⟨w1.heap.size, 0, none⟩ = some (.int .i64 (e)) ∧ W.cell? ⟨w1.heap.size, 1, none⟩ = some (.int .i64 (k)) ∧ W.cell? ⟨w1.heap.size, 2, none⟩ = some (.bool (l)) ∧ w1.heap.size < W.heap.size ∧ Below w.heap.size w W ∧ Tab W 0 kevCells) ⟨?_, ?_, ?_, ?_, ?_, ?_⟩ ?_
        · (first | assumption | (simp [go_sem, *]; done))
        · (first | assumption | (simp [go_sem, *]; done))
        · (first | assumption | (simp [go_sem, *]; done))
        · (first | assumption | (simp; done) | (simp; omega) | omega)
        · (repeat (first | exact Below.refl _ _ | assumption | refine bt ?_ (by assumption) | refine baa ?_ _ | refine bdw ?_ | refine bs ?_ (by first | exact Nat.le_refl _ | omega | (simp; omega)) _))
        · (refine Tab.below hT ?_; repeat (first | exact Below.refl _ _ | assumption | refine bt ?_ (by assumption) | refine baa ?_ _ | refine bdw ?_ | refine bs ?_ (by first | exact Nat.le_refl _ | omega | (simp; omega)) _))
        rintro W2 ⟨r2x0, r2x1, r2x2, rs2x0, hB2, hT2x0⟩
        refine (HY.out _ hT2x0).mono ?_
        rintro e w3 ⟨rfl, hb3⟩
        obtain ⟨hc3, hf3⟩ := bcell hb3
        have hz3 := hb3.size
        try simp at hz3
        have hs3x0 : w1.heap.size < w3.heap.size := by omega
        have g3x0 : w3.cell? ⟨w1.heap.size, 0, none⟩ = some (.int .i64 (e)) := (hc3 _ _ (by first | omega | (simp; done) | (simp; omega))).trans (by first | assumption | simp [go_sem] | simp [go_sem, *])
        have g3x1 : w3.cell? ⟨w1.heap.size, 1, none⟩ = some (.int .i64 (k)) := (hc3 _ _ (by first | omega | (simp; done) | (simp; omega))).trans (by first | assumption | simp [go_sem] | simp [go_sem, *])
        have g3x2 : w3.cell? ⟨w1.heap.size, 2, none⟩ = some (.bool (l)) := (hc3 _ _ (by first | omega | (simp; done) | (simp; omega))).trans (by first | assumption | simp [go_sem] | simp [go_sem, *])
        go_wp2_with fail
        refine settleC (fun W => W.cell? ⟨w1.heap.size, 0, none⟩ = some (.int .i64 (e)) ∧ W.cell? ⟨w1.heap.size, 1, none⟩ = some (.int .i64 (k)) ∧ W.cell? ⟨w1.heap.size, 2, none⟩ = some (.bool (l)) ∧ W.cell? ⟨w3.heap.size, 0, none⟩ = some (.int .i64 (e)) ∧ W.cell? ⟨w3.heap.size, 1, none⟩ = some (.int .i64 (k')) ∧ W.cell? ⟨w3.heap.size, 2, none⟩ = some (.bool (l')) ∧ w1.heap.size < W.heap.size ∧ w3.heap.size < W.heap.size ∧ Below w.heap.size w W ∧ Tab W 0 kevCells) ⟨?_, ?_, ?_, ?_, ?_, ?_, ?_, ?_, ?_, ?_⟩ ?_
        · (first | assumption | (simp [go_sem, *]; done))
        · (first | assumption | (simp [go_sem, *]; done))
        · (first | assumption | (simp [go_sem, *]; done))
        · (first | assumption | (simp [go_sem, *]; done))
        · (first | assumption | (simp [go_sem, *]; done))
        · (first | assumption | (simp [go_sem, *]; done))
        · (first | assumption | (simp; done) | (simp; omega) | omega)
        · (first | assumption | (simp; done) | (simp; omega) | omega)
        · (repeat (first | exact Below.refl _ _ | assumption | refine bt ?_ (by assumption) | refine baa ?_ _ | refine bdw ?_ | refine bs ?_ (by first | exact Nat.le_refl _ | omega | (simp; omega)) _))
        · (refine Tab.below hT2x0 ?_; repeat (first | exact Below.refl _ _ | assumption | refine bt ?_ (by assumption) | refine baa ?_ _ | refine bdw ?_ | refine bs ?_ (by first | exact Nat.le_refl _ | omega | (simp; omega)) _))
        rintro W4 ⟨r4x0, r4x1, r4x2, r4x3, r4x4, r4x5, rs4x0, rs4x1, hB4, hT4x0⟩
        refine (awake7 _ hT4x0).mono ?_
        rintro e w5 ⟨rfl, hb5⟩
        obtain ⟨hc5, hf5⟩ := bcell hb5
        have hz5 := hb5.size
        try simp at hz5
        have hl5w1 : w1.heap.size < w5.heap.size := by omega
        have hm5w1 : w1.heap.size ≤ w5.heap.size := by omega
        have hl5w3 : w3.heap.size < w5.heap.size := by omega
        have hm5w3 : w3.heap.size ≤ w5.heap.size := by omega
        have g5x0 : w5.cell? ⟨w1.heap.size, 0, none⟩ = some (.int .i64 (e)) := (hc5 _ _ (by first | omega | (simp; done) | (simp; omega))).trans (by first | assumption | simp [go_sem] | simp [go_sem, *])
        have g5x1 : w5.cell? ⟨w1.heap.size, 1, none⟩ = some (.int .i64 (k)) := (hc5 _ _ (by first | omega | (simp; done) | (simp; omega))).trans (by first | assumption | simp [go_sem] | simp [go_sem, *])
        have g5x2 : w5.cell? ⟨w1.heap.size, 2, none⟩ = some (.bool (l)) := (hc5 _ _ (by first | omega | (simp; done) | (simp; omega))).trans (by first | assumption | simp [go_sem] | simp [go_sem, *])
        have g5x3 : w5.cell? ⟨w3.heap.size, 0, none⟩ = some (.int .i64 (e)) := (hc5 _ _ (by first | omega | (simp; done) | (simp; omega))).trans (by first | assumption | simp [go_sem] | simp [go_sem, *])
        have g5x4 : w5.cell? ⟨w3.heap.size, 1, none⟩ = some (.int .i64 (k')) := (hc5 _ _ (by first | omega | (simp; done) | (simp; omega))).trans (by first | assumption | simp [go_sem] | simp [go_sem, *])
        have g5x5 : w5.cell? ⟨w3.heap.size, 2, none⟩ = some (.bool (l')) := (hc5 _ _ (by first | omega | (simp; done) | (simp; omega))).trans (by first | assumption | simp [go_sem] | simp [go_sem, *])
        go_wp2_with fail
        refine (HN.out _ (Tab.below hT4x0 hb5)).mono ?_
        rintro e w6 ⟨rfl, hb6⟩
        obtain ⟨hc6, hf6⟩ := bcell hb6
        have hz6 := hb6.size
        try simp at hz6
        have hl6w1 : w1.heap.size < w6.heap.size := by omega
        have hm6w1 : w1.heap.size ≤ w6.heap.size := by omega
        have hl6w3 : w3.heap.size < w6.heap.size := by omega
        have hm6w3 : w3.heap.size ≤ w6.heap.size := by omega
        have g6x0 : w6.cell? ⟨w1.heap.size, 0, none⟩ = some (.int .i64 (e)) := (hc6 _ _ (by first | omega | (simp; done) | (simp; omega))).trans (by first | assumption | simp [go_sem] | simp [go_sem, *])
        have g6x1 : w6.cell? ⟨w1.heap.size, 1, none⟩ = some (.int .i64 (k)) := (hc6 _ _ (by first | omega | (simp; done) | (simp; omega))).trans (by first | assumption | simp [go_sem] | simp [go_sem, *])
        have g6x2 : w6.cell? ⟨w1.heap.size, 2, none⟩ = some (.bool (l)) := (hc6 _ _ (by first | omega | (simp; done) | (simp; omega))).trans (by first | assumption | simp [go_sem] | simp [go_sem, *])
        have g6x3 : w6.cell? ⟨w3.heap.size, 0, none⟩ = some (.int .i64 (e)) := (hc6 _ _ (by first | omega | (simp; done) | (simp; omega))).trans (by first | assumption | simp [go_sem] | simp [go_sem, *])
        have g6x4 : w6.cell? ⟨w3.heap.size, 1, none⟩ = some (.int .i64 (k')) := (hc6 _ _ (by first | omega | (simp; done) | (simp; omega))).trans (by first | assumption | simp [go_sem] | simp [go_sem, *])
        have g6x5 : w6.cell? ⟨w3.heap.size, 2, none⟩ = some (.bool (l')) := (hc6 _ _ (by first | omega | (simp; done) | (simp; omega))).trans (by first | assumption | simp [go_sem] | simp [go_sem, *])
        go_wp2_with fail
        refine (HM.out _ (Tab.below (Tab.below hT4x0 hb5) hb6)).mono ?_
        rintro e w7 ⟨rfl, hb7⟩
        obtain ⟨hc7, hf7⟩ := bcell hb7
        have hz7 := hb7.size
        try simp at hz7
        have hl7w1 : w1.heap.size < w7.heap.size := by omega
        have hm7w1 : w1.heap.size ≤ w7.heap.size := by omega
        have hl7w3 : w3.heap.size < w7.heap.size := by omega
        have hm7w3 : w3.heap.size ≤ w7.heap.size := by omega
        have g7x0 : w7.cell? ⟨w1.heap.size, 0, none⟩ = some (.int .i64 (e)) := (hc7 _ _ (by first | omega | (simp; done) | (simp; omega))).trans (by first | assumption | simp [go_sem] | simp [go_sem, *])
        have g7x1 : w7.cell? ⟨w1.heap.size, 1, none⟩ = some (.int .i64 (k)) := (hc7 _ _ (by first | omega | (simp; done) | (simp; omega))).trans (by first | assumption | simp [go_sem] | simp [go_sem, *])
        have g7x2 : w7.cell? ⟨w1.heap.size, 2, none⟩ = some (.bool (l)) := (hc7 _ _ (by first | omega | (simp; done) | (simp; omega))).trans (by first | assumption | simp [go_sem] | simp [go_sem, *])
        have g7x3 : w7.cell? ⟨w3.heap.size, 0, none⟩ = some (.int .i64 (e)) := (hc7 _ _ (by first | omega | (simp; done) | (simp; omega))).trans (by first | assumption | simp [go_sem] | simp [go_sem, *])
        have g7x4 : w7.cell? ⟨w3.heap.size, 1, none⟩ = some (.int .i64 (k')) := (hc7 _ _ (by first | omega | (simp; done) | (simp; omega))).trans (by first | assumption | simp [go_sem] | simp [go_sem, *])
        have g7x5 : w7.cell? ⟨w3.heap.size, 2, none⟩ = some (.bool (l')) := (hc7 _ _ (by first | omega | (simp; done) | (simp; omega))).trans (by first | assumption | simp [go_sem] | simp [go_sem, *])
        go_wp2_with fail
        go_ret
        exact ⟨rfl, bt (bt (bt hB4 hb5) hb6) hb7⟩
    · clear hr
      go_enter Tryd.func5, Tryd.ntmps5
      go_wp2_with fail
      refine (HX.out _ hT).mono ?_
      rintro e w1 ⟨rfl, hb1⟩
      obtain ⟨hc1, hf1⟩ := bcell hb1
      have hz1 := hb1.size
      try simp at hz1
      go_wp2_with fail
      refine settleC (fun W => W.cell? ⟨w1.heap.size, 0, none⟩ = some (.int .i64 (e)) ∧ W.cell? ⟨w1.heap.size, 1, none⟩ = some (.int .i64 (k)) ∧ W.cell? ⟨w1.heap.size, 2, none⟩ = some (.bool (l)) ∧ w1.heap.size < W.heap.size ∧ Below w.heap.size w W ∧ Tab W 0 kevCells) ⟨?_, ?_, ?_, ?_, ?_, ?_⟩ ?_
      · (first | assumption | (simp [go_sem, *]; done))
      · (first | assumption | (simp [go_sem, *]; done))
      · (first | assumption | (simp [go_sem, *]; done))
      · (first | assumption | (simp; done) | (simp; omega) | omega)
      · (repeat (first | exact Below.refl _ _ | assumption | refine bt ?_ (by assumption) | refine baa ?_ _ | refine bdw ?_ | refine bs ?_ (by first | exact Nat.le_refl _ | omega | (simp; omega)) _))
      · (refine Tab.below hT ?_; repeat (first | exact Below.refl _ _ | assumption | refine bt ?_ (by assumption) | refine baa ?_ _ | refine bdw ?_ | refine bs ?_ (by first | exact Nat.le_refl _ | omega | (simp; omega)) _))
      rintro W2 ⟨r2x0, r2x1, r2x2, rs2x0, hB2, hT2x0⟩
      refine (HY.out _ hT2x0).mono ?_
      rintro e w3 ⟨rfl, hb3⟩
      obtain ⟨hc3, hf3⟩ := bcell hb3
      have hz3 := hb3.size
      try simp at hz3
      have hs3x0 : w1.heap.size < w3.heap.size := by omega
      have g3x0 : w3.cell? ⟨w1.heap.size, 0, none⟩ = some (.int .i64 (e)) := (hc3 _ _ (by first | omega | (simp; done) | (simp; omega))).trans (by first | assumption | simp [go_sem] | simp [go_sem, *])
      have g3x1 : w3.cell? ⟨w1.heap.size, 1, none⟩ = some (.int .i64 (k)) := (hc3 _ _ (by first | omega | (simp; done) | (simp; omega))).trans (by first | assumption | simp [go_sem] | simp [go_sem, *])
      have g3x2 : w3.cell? ⟨w1.heap.size, 2, none⟩ = some (.bool (l)) := (hc3 _ _ (by first | omega | (simp; done) | (simp; omega))).trans (by first | assumption | simp [go_sem] | simp [go_sem, *])
      go_wp2_with fail
      refine settleC (fun W => W.cell? ⟨w1.heap.size, 0, none⟩ = some (.int .i64 (e)) ∧ W.cell? ⟨w1.heap.size, 1, none⟩ = some (.int .i64 (k)) ∧ W.cell? ⟨w1.heap.size, 2, none⟩ = some (.bool (l)) ∧ W.cell? ⟨w3.heap.size, 0, none⟩ = some (.int .i64 (e')) ∧ W.cell? ⟨w3.heap.size, 1, none⟩ = some (.int .i64 (k')) ∧ W.cell? ⟨w3.heap.size, 2, none⟩ = some (.bool (l')) ∧ w1.heap.size < W.heap.size ∧ w3.heap.size < W.heap.size ∧ Below w.heap.size w W ∧ Tab W 0 kevCells) ⟨?_, ?_, ?_, ?_, ?_, ?_, ?_, ?_, ?_, ?_⟩ ?_
      · (first | assumption | (simp [go_sem, *]; done))
      · (first | assumption | (simp [go_sem, *]; done))
      · (first | assumption | (simp [go_sem, *]; done))
      · (first | assumption | (simp [go_sem, *]; done))
      · (first | assumption | (simp [go_sem, *]; done))
      · (first | assumption | (simp [go_sem, *]; done))
      · (first | assumption | (simp; done) | (simp; omega) | omega)
      · (first | assumption | (simp; done) | (simp; omega) | omega)
      · (repeat (first | exact Below.refl _ _ | assumption | refine bt ?_ (by assumption) | refine baa ?_ _ | refine bdw ?_ | refine bs ?_ (by first | exact Nat.le_refl _ | omega | (simp; omega)) _))
      · (refine Tab.below hT2x0 ?_; repeat (first | exact Below.refl _ _ | assumption | refine bt ?_ (by assumption) | refine baa ?_ _ | refine bdw ?_ | refine bs ?_ (by first | exact Nat.le_refl _ | omega | (simp; omega)) _))
      rintro W4 ⟨r4x0, r4x1, r4x2, r4x3, r4x4, r4x5, rs4x0, rs4x1, hB4, hT4x0⟩
      refine (awake7 _ hT4x0).mono ?_
      rintro e w5 ⟨rfl, hb5⟩
      obtain ⟨hc5, hf5⟩ := bcell hb5
      have hz5 := hb5.size
      try simp at hz5
      have hl5w1 : w1.heap.size < w5.heap.size := by omega
      have hm5w1 : w1.heap.size ≤ w5.heap.size := by omega
      have hl5w3 : w3.heap.size < w5.heap.size := by omega
      have hm5w3 : w3.heap.size ≤ w5.heap.size := by omega
      have g5x0 : w5.cell? ⟨w1.heap.size, 0, none⟩ = some (.int .i64 (e)) := (hc5 _ _ (by first | omega | (simp; done) | (simp; omega))).trans (by first | assumption | simp [go_sem] | simp [go_sem, *])
      have g5x1 : w5.cell? ⟨w1.heap.size, 1, none⟩ = some (.int .i64 (k)) := (hc5 _ _ (by first | omega | (simp; done) | (simp; omega))).trans (by first | assumption | simp [go_sem] | simp [go_sem, *])
      have g5x2 : w5.cell? ⟨w1.heap.size, 2, none⟩ = some (.bool (l)) := (hc5 _ _ (by first | omega | (simp; done) | (simp; omega))).trans (by first | assumption | simp [go_sem] | simp [go_sem, *])
      have g5x3 : w5.cell? ⟨w3.heap.size, 0, none⟩ = some (.int .i64 (e')) := (hc5 _ _ (by first | omega | (simp; done) | (simp; omega))).trans (by first | assumption | simp [go_sem] | simp [go_sem, *])
      have g5x4 : w5.cell? ⟨w3.heap.size, 1, none⟩ = some (.int .i64 (k')) := (hc5 _ _ (by first | omega | (simp; done) | (simp; omega))).trans (by first | assumption | simp [go_sem] | simp [go_sem, *])
      have g5x5 : w5.cell? ⟨w3.heap.size, 2, none⟩ = some (.bool (l')) := (hc5 _ _ (by first | omega | (simp; done) | (simp; omega))).trans (by first | assumption | simp [go_sem] | simp [go_sem, *])
      go_wp2_with fail
      refine (HN.out _ (Tab.below hT4x0 hb5)).mono ?_
      rintro e w6 ⟨rfl, hb6⟩
      obtain ⟨hc6, hf6⟩ := bcell hb6
      have hz6 := hb6.size
      try simp at hz6
      have hl6w1 : w1.heap.size < w6.heap.size := by omega
      have hm6w1 : w1.heap.size ≤ w6.heap.size := by omega
      have hl6w3 : w3.heap.size < w6.heap.size := by omega
      have hm6w3 : w3.heap.size ≤ w6.heap.size := by omega
      have g6x0 : w6.cell? ⟨w1.heap.size, 0, none⟩ = some (.int .i64 (e)) := (hc6 _ _ (by first | omega | (simp; done) | (simp; omega))).trans (by first | assumption | simp [go_sem] | simp [go_sem, *])
      have g6x1 : w6.cell? ⟨w1.heap.size, 1, none⟩ = some (.int .i64 (k)) := (hc6 _ _ (by first | omega | (simp; done) | (simp; omega))).trans (by first | assumption | simp [go_sem] | simp [go_sem, *])
      have g6x2 : w6.cell? ⟨w1.heap.size, 2, none⟩ = some (.bool (l)) := (hc6 _ _ (by first | omega | (simp; done) | (simp; omega))).trans (by first | assumption | simp [go_sem] | simp [go_sem, *])
      have g6x3 : w6.cell? ⟨w3.heap.size, 0, none⟩ = some (.int .i64 (e')) := (hc6 _ _ (by first | omega | (simp; done) | (simp; omega))).trans (by first | assumption | simp [go_sem] | simp [go_sem, *])
      have g6x4 : w6.cell? ⟨w3.heap.size, 1, none⟩ = some (.int .i64 (k')) := (hc6 _ _ (by first | omega | (simp; done) | (simp; omega))).trans (by first | assumption | simp [go_sem] | simp [go_sem, *])
      have g6x5 : w6.cell? ⟨w3.heap.size, 2, none⟩ = some (.bool (l')) := (hc6 _ _ (by first | omega | (simp; done) | (simp; omega))).trans (by first | assumption | simp [go_sem] | simp [go_sem, *])
      go_wp2_with fail
      refine (HM.out _ (Tab.below (Tab.below hT4x0 hb5) hb6)).mono ?_
      rintro e w7 ⟨rfl, hb7⟩
      obtain ⟨hc7, hf7⟩ := bcell hb7
      have hz7 := hb7.size
      try simp at hz7
      have hl7w1 : w1.heap.size < w7.heap.size := by omega
      have hm7w1 : w1.heap.size ≤ w7.heap.size := by omega
      have hl7w3 : w3.heap.size < w7.heap.size := by omega
      have hm7w3 : w3.heap.size ≤ w7.heap.size := by omega
      have g7x0 : w7.cell? ⟨w1.heap.size, 0, none⟩ = some (.int .i64 (e)) := (hc7 _ _ (by first | omega | (simp; done) | (simp; omega))).trans (by first | assumption | simp [go_sem] | simp [go_sem, *])
      have g7x1 : w7.cell? ⟨w1.heap.size, 1, none⟩ = some (.int .i64 (k)) := (hc7 _ _ (by first | omega | (simp; done) | (simp; omega))).trans (by first | assumption | simp [go_sem] | simp [go_sem, *])
      have g7x2 : w7.cell? ⟨w1.heap.size, 2, none⟩ = some (.bool (l)) := (hc7 _ _ (by first | omega | (simp; done) | (simp; omega))).trans (by first | assumption | simp [go_sem] | simp [go_sem, *])
      have g7x3 : w7.cell? ⟨w3.heap.size, 0, none⟩ = some (.int .i64 (e')) := (hc7 _ _ (by first | omega | (simp; done) | (simp; omega))).trans (by first | assumption | simp [go_sem] | simp [go_sem, *])
      have g7x4 : w7.cell? ⟨w3.heap.size, 1, none⟩ = some (.int .i64 (k')) := (hc7 _ _ (by first | omega | (simp; done) | (simp; omega))).trans (by first | assumption | simp [go_sem] | simp [go_sem, *])
      have g7x5 : w7.cell? ⟨w3.heap.size, 2, none⟩ = some (.bool (l')) := (hc7 _ _ (by first | omega | (simp; done) | (simp; omega))).trans (by first | assumption | simp [go_sem] | simp [go_sem, *])
      go_wp2_with fail
      go_ret
      exact ⟨rfl, bt (bt (bt hB4 hb5) hb6) hb7⟩
end Go.Proofs.YtemkngkaaabghaaDoor
