/- Layer 7: the walks of its laws. -/
import Derived.Test.YtemkngkaaabghaaDoorKev3
namespace Go.Proofs.YtemkngkaaabghaaDoor
open Go.ChangeShapes Go.WideShapes Go.ChangeAt Go.RowKit
set_option linter.unusedVariables false
theorem number_row (n : Nat) (hn : n < 14) : number (kevB n) (kevK n) (kevL n) = (n : Int) + 1 := by
  match n, hn with
  | 0, _ | 1, _ | 2, _ | 3, _ | 4, _ | 5, _ | 6, _ | 7, _ | 8, _ | 9, _ | 10, _ | 11, _ | 12, _ | 13, _ => decide
def rowsNe : Bool := (List.range 14).all fun i => (List.range 14).all fun j => i == j || !(kevB i == kevB j && (kevK i == kevK j && kevL i == kevL j))
theorem rowsNe_ok : rowsNe = true := by decide +kernel
theorem row_ne (i j : Nat) (hi : i < 14) (hj : j < 14) (hij : i ≠ j) (h1 : kevB i = kevB j) (h2 : kevK i = kevK j) : ¬ (kevL i = kevL j) := by
  intro h3
  have := List.all_eq_true.1 (List.all_eq_true.1 rowsNe_ok i (List.mem_range.2 hi)) j (List.mem_range.2 hj)
  simp [hij, h1, h2, h3] at this

theorem keviah_Of_5784 (w : World) : Calls Tryd.prog 10 #[.int .i64 5784] w fun e w' => e = .returned (.tuple #[.agg #[.int .i64 6, .int .i64 0, .bool true], .int .i64 0]) ∧ Below w.heap.size w w' := by
  have := keviah_Of_ok 5784 w (by omega) (by omega)
  rwa [show Cal.first 5784 % 7 = 6 by decide +kernel, show Cal.kind 5784 = 0 by decide +kernel, show Cal.leap 5784 = true by decide +kernel] at this
theorem keviah_Long_5784 (w : World) : Calls Tryd.prog 8 #[.int .i64 5784] w fun e w' => e = .returned (.tuple #[.int .i64 383, .int .i64 0]) ∧ Below w.heap.size w w' := by
  have := keviah_Long_ok 5784 w (by omega) (by omega)
  rwa [show Cal.long 5784 = 383 by decide +kernel] at this
theorem keviah_Number_13 (w : World) (hT : Tab w 0 kevCells) : Calls Tryd.prog 15 #[.agg #[.int .i64 6, .int .i64 0, .bool true]] w fun e w' => e = .returned (.int .i64 13) ∧ Below w.heap.size w w' := by
  have := keviah_Number_any 6 0 true w hT
  rwa [show number 6 0 true = 13 by decide] at this
theorem keviah_Number_row (n : Nat) (hn : n < 14) (w : World) (hT : Tab w 0 kevCells) : Calls Tryd.prog 15 #[.agg #[.int .i64 (kevB n), .int .i64 (kevK n), .bool (kevL n)]] w fun e w' => e = .returned (.int .i64 ((n : Int) + 1)) ∧ Below w.heap.size w w' := by
  have := keviah_Number_any (kevB n) (kevK n) (kevL n) w hT
  rwa [number_row n hn] at this
set_option maxHeartbeats 1000000 in
theorem awake7 (w : World) (hT : Tab w 0 kevCells) : Calls Tryd.prog 14 #[] w fun e w' => e = .returned (.bool true) ∧ Below w.heap.size w w' := by
  go_enter Tryd.func14, Tryd.ntmps14
  go_wp2_with fail
  refine (keviah_Of_5784 _).mono ?_
  rintro e w1 ⟨rfl, hb1⟩
  obtain ⟨hc1, hf1⟩ := bcell hb1
  have hz1 := hb1.size
  try simp at hz1
  go_wp2_with fail
  refine (keviah_Long_5784 _).mono ?_
  rintro e w2 ⟨rfl, hb2⟩
  obtain ⟨hc2, hf2⟩ := bcell hb2
  have hz2 := hb2.size
  try simp at hz2
  have hl2w1 : w1.heap.size < w2.heap.size := by omega
  have hm2w1 : w1.heap.size ≤ w2.heap.size := by omega
  have g2x0 : w2.cell? ⟨w1.heap.size, 0, none⟩ = some (.int .i64 (6)) := (hc2 _ _ (by first | omega | (simp; done) | (simp; omega))).trans (by first | assumption | simp [go_sem] | simp [go_sem, *])
  have g2x1 : w2.cell? ⟨w1.heap.size, 1, none⟩ = some (.int .i64 (0)) := (hc2 _ _ (by first | omega | (simp; done) | (simp; omega))).trans (by first | assumption | simp [go_sem] | simp [go_sem, *])
  have g2x2 : w2.cell? ⟨w1.heap.size, 2, none⟩ = some (.bool (true)) := (hc2 _ _ (by first | omega | (simp; done) | (simp; omega))).trans (by first | assumption | simp [go_sem] | simp [go_sem, *])
  go_wp2_with fail
  refine (keviah_Of_no 0 _ ⟨by omega, by omega⟩ (by omega)).mono ?_
  rintro e w3 ⟨rfl, hb3⟩
  obtain ⟨hc3, hf3⟩ := bcell hb3
  have hz3 := hb3.size
  try simp at hz3
  have hl3w1 : w1.heap.size < w3.heap.size := by omega
  have hm3w1 : w1.heap.size ≤ w3.heap.size := by omega
  have g3x0 : w3.cell? ⟨w1.heap.size, 0, none⟩ = some (.int .i64 (6)) := (hc3 _ _ (by first | omega | (simp; done) | (simp; omega))).trans (by first | assumption | simp [go_sem] | simp [go_sem, *])
  have g3x1 : w3.cell? ⟨w1.heap.size, 1, none⟩ = some (.int .i64 (0)) := (hc3 _ _ (by first | omega | (simp; done) | (simp; omega))).trans (by first | assumption | simp [go_sem] | simp [go_sem, *])
  have g3x2 : w3.cell? ⟨w1.heap.size, 2, none⟩ = some (.bool (true)) := (hc3 _ _ (by first | omega | (simp; done) | (simp; omega))).trans (by first | assumption | simp [go_sem] | simp [go_sem, *])
  go_wp2_with fail
  refine settleC (fun W => W.cell? ⟨w1.heap.size, 0, none⟩ = some (.int .i64 (6)) ∧ W.cell? ⟨w1.heap.size, 1, none⟩ = some (.int .i64 (0)) ∧ W.cell? ⟨w1.heap.size, 2, none⟩ = some (.bool (true)) ∧ w1.heap.size < W.heap.size ∧ Below w.heap.size w W ∧ Tab W 0 kevCells) ⟨?_, ?_, ?_, ?_, ?_, ?_⟩ ?_
  · (first | assumption | (simp [go_sem, *]; done))
  · (first | assumption | (simp [go_sem, *]; done))
  · (first | assumption | (simp [go_sem, *]; done))
  · (first | assumption | (simp; done) | (simp; omega) | omega)
  · (repeat (first | exact Below.refl _ _ | assumption | refine bt ?_ (by assumption) | refine baa ?_ _ | refine bdw ?_ | refine bs ?_ (by first | exact Nat.le_refl _ | omega | (simp; omega)) _))
  · (refine Tab.below hT ?_; repeat (first | exact Below.refl _ _ | assumption | refine bt ?_ (by assumption) | refine baa ?_ _ | refine bdw ?_ | refine bs ?_ (by first | exact Nat.le_refl _ | omega | (simp; omega)) _))
  rintro W4 ⟨r4x0, r4x1, r4x2, rs4x0, hB4, hT4x0⟩
  refine (keviah_Number_13 _ hT4x0).mono ?_
  rintro e w5 ⟨rfl, hb5⟩
  obtain ⟨hc5, hf5⟩ := bcell hb5
  have hz5 := hb5.size
  try simp at hz5
  go_wp2_with fail
  go_ret
  exact ⟨rfl, bt hB4 hb5⟩
set_option maxHeartbeats 1000000 in
theorem KeviahNumbers_walk (a b : Int) (ha : 0 ≤ a ∧ a ≤ 255) (hb : 0 ≤ b ∧ b ≤ 255) (w : World) (hT : Tab w 0 kevCells) :
    Calls Tryd.prog 5 #[.int .u8 a, .int .u8 b] w fun e w' => e = .returned (.bool true) ∧ Below w.heap.size w w' := by
  obtain ⟨a0, a1⟩ := ha
  obtain ⟨b0, b1⟩ := hb
  have k1 : 0 ≤ a % 14 := by omega
  have k2 : a % 14 < 14 := by omega
  have k3 : 0 ≤ b % 14 := by omega
  have k4 : b % 14 < 14 := by omega
  obtain ⟨i, hi, ei⟩ : ∃ i : Nat, i < 14 ∧ 1 + a % 14 = (i : Int) + 1 := ⟨(a % 14).toNat, by omega, by omega⟩
  obtain ⟨j, hj, ej⟩ : ∃ j : Nat, j < 14 ∧ 1 + b % 14 = (j : Int) + 1 := ⟨(b % 14).toNat, by omega, by omega⟩
  have HX := Lib.hid (fun w h => ei ▸ keviah_Type_yes i hi w (kev_of_tab h))
  have HY := Lib.hid (fun w h => ej ▸ keviah_Type_yes j hj w (kev_of_tab h))
  have HN := Lib.hid (fun w h => ei ▸ keviah_Number_row i hi w h)
  have HM := Lib.hid (fun w h => ej ▸ keviah_Number_row j hj w h)
  by_cases hij : i = j
  · subst hij
    have hba : b % 14 = a % 14 := by omega
    rw [hba] at HY HM
    clear ei ej
    go_enter Tryd.func5, Tryd.ntmps5
    go_wp2_with fail
    refine (HX.out _ hT).mono ?_
    rintro e w1 ⟨rfl, hb1⟩
    obtain ⟨hc1, hf1⟩ := bcell hb1
    have hz1 := hb1.size
    try simp at hz1
    go_wp2_with fail
    refine settleC (fun W => W.cell? ⟨w1.heap.size, 0, none⟩ = some (.int .i64 (kevB i)) ∧ W.cell? ⟨w1.heap.size, 1, none⟩ = some (.int .i64 (kevK i)) ∧ W.cell? ⟨w1.heap.size, 2, none⟩ = some (.bool (kevL i)) ∧ w1.heap.size < W.heap.size ∧ Below w.heap.size w W ∧ Tab W 0 kevCells) ⟨?_, ?_, ?_, ?_, ?_, ?_⟩ ?_
    · (first | assumption | (simp [go_sem, *]; done))
    · (first | assumption | (simp [go_sem, *]; done))
    · (first | assumption | (simp [go_sem, *]; done))
    · (first | assumption | (simp; done) | (simp; omega) | omega)
    · (repeat (first | exact Below.refl _ _ | assumption | refine bt ?_ (by assumption) | refine baa ?_ _ | refine bdw ?_ | refine bs ?_ (by first | exact Nat.le_refl _ | omega | (simp; omega)) _))
    · (refine Tab.below hT ?_; repeat (first | exact Below.refl _ _ | assumption | refine bt ?_ (by assumption) | refine baa ?_ _ | refine bdw ?_ | refine bs ?_ (by first | exact Nat.le_refl _ | omega | (simp; omega)) _))
    rintro W2 ⟨r2x0, r2x1, r2x2, rs2x0, hB2, hT2x0⟩
    refine (HY.out _ hT2x0).mono ?_
    rintro e w3 ⟨rfl, hb3⟩
    obtain ⟨hc3, hf3⟩ := bcell hb3
    have hz3 := hb3.size
    try simp at hz3
    have hs3x0 : w1.heap.size < w3.heap.size := by omega
    have g3x0 : w3.cell? ⟨w1.heap.size, 0, none⟩ = some (.int .i64 (kevB i)) := (hc3 _ _ (by first | omega | (simp; done) | (simp; omega))).trans (by first | assumption | simp [go_sem] | simp [go_sem, *])
    have g3x1 : w3.cell? ⟨w1.heap.size, 1, none⟩ = some (.int .i64 (kevK i)) := (hc3 _ _ (by first | omega | (simp; done) | (simp; omega))).trans (by first | assumption | simp [go_sem] | simp [go_sem, *])
    have g3x2 : w3.cell? ⟨w1.heap.size, 2, none⟩ = some (.bool (kevL i)) := (hc3 _ _ (by first | omega | (simp; done) | (simp; omega))).trans (by first | assumption | simp [go_sem] | simp [go_sem, *])
    go_wp2_with fail
    refine settleC (fun W => W.cell? ⟨w1.heap.size, 0, none⟩ = some (.int .i64 (kevB i)) ∧ W.cell? ⟨w1.heap.size, 1, none⟩ = some (.int .i64 (kevK i)) ∧ W.cell? ⟨w1.heap.size, 2, none⟩ = some (.bool (kevL i)) ∧ W.cell? ⟨w3.heap.size, 0, none⟩ = some (.int .i64 (kevB i)) ∧ W.cell? ⟨w3.heap.size, 1, none⟩ = some (.int .i64 (kevK i)) ∧ W.cell? ⟨w3.heap.size, 2, none⟩ = some (.bool (kevL i)) ∧ w1.heap.size < W.heap.size ∧ w3.heap.size < W.heap.size ∧ Below w.heap.size w W ∧ Tab W 0 kevCells) ⟨?_, ?_, ?_, ?_, ?_, ?_, ?_, ?_, ?_, ?_⟩ ?_
    · (first | assumption | (simp [go_sem, *]; done))
    · (first | assumption | (simp [go_sem, *]; done))
    · (first | assumption | (simp [go_sem, *]; done))
    · (first | assumption | (simp [go_sem, *]; done))
    · (first | assumption | (simp [go_sem, *]; done))
    · (first | assumption | (simp [go_sem, *]; done))
    · (first | assumption | (simp; done) | (simp; omega) | omega)
    · (first | assumption | (simp; done) | (simp; omega) | omega)
    · (repeat (first | exact Below.refl _ _ | assumption | refine bt ?_ (by assumption) | refine baa ?_ _ | refine bdw ?_ | refine bs ?_ (by first | exact Nat.le_refl _ | omega | (simp; omega)) _))
    · (refine Tab.below hT2x0 ?_; repeat (first | exact Below.refl _ _ | assumption | refine bt ?_ (by assumption) | refine baa ?_ _ | refine bdw ?_ | refine bs ?_ (by first | exact Nat.le_refl _ | omega | (simp; omega)) _))
    rintro W4 ⟨r4x0, r4x1, r4x2, r4x3, r4x4, r4x5, rs4x0, rs4x1, hB4, hT4x0⟩
    refine (awake7 _ hT4x0).mono ?_
    rintro e w5 ⟨rfl, hb5⟩
    obtain ⟨hc5, hf5⟩ := bcell hb5
    have hz5 := hb5.size
    try simp at hz5
    have hl5w1 : w1.heap.size < w5.heap.size := by omega
    have hm5w1 : w1.heap.size ≤ w5.heap.size := by omega
    have hl5w3 : w3.heap.size < w5.heap.size := by omega
    have hm5w3 : w3.heap.size ≤ w5.heap.size := by omega
    have g5x0 : w5.cell? ⟨w1.heap.size, 0, none⟩ = some (.int .i64 (kevB i)) := (hc5 _ _ (by first | omega | (simp; done) | (simp; omega))).trans (by first | assumption | simp [go_sem] | simp [go_sem, *])
    have g5x1 : w5.cell? ⟨w1.heap.size, 1, none⟩ = some (.int .i64 (kevK i)) := (hc5 _ _ (by first | omega | (simp; done) | (simp; omega))).trans (by first | assumption | simp [go_sem] | simp [go_sem, *])
    have g5x2 : w5.cell? ⟨w1.heap.size, 2, none⟩ = some (.bool (kevL i)) := (hc5 _ _ (by first | omega | (simp; done) | (simp; omega))).trans (by first | assumption | simp [go_sem] | simp [go_sem, *])
    have g5x3 : w5.cell? ⟨w3.heap.size, 0, none⟩ = some (.int .i64 (kevB i)) := (hc5 _ _ (by first | omega | (simp; done) | (simp; omega))).trans (by first | assumption | simp [go_sem] | simp [go_sem, *])
    have g5x4 : w5.cell? ⟨w3.heap.size, 1, none⟩ = some (.int .i64 (kevK i)) := (hc5 _ _ (by first | omega | (simp; done) | (simp; omega))).trans (by first | assumption | simp [go_sem] | simp [go_sem, *])
    have g5x5 : w5.cell? ⟨w3.heap.size, 2, none⟩ = some (.bool (kevL i)) := (hc5 _ _ (by first | omega | (simp; done) | (simp; omega))).trans (by first | assumption | simp [go_sem] | simp [go_sem, *])
    go_wp2_with fail
    refine (HN.out _ (Tab.below hT4x0 hb5)).mono ?_
    rintro e w6 ⟨rfl, hb6⟩
    obtain ⟨hc6, hf6⟩ := bcell hb6
    have hz6 := hb6.size
    try simp at hz6
    have hl6w1 : w1.heap.size < w6.heap.size := by omega
    have hm6w1 : w1.heap.size ≤ w6.heap.size := by omega
    have hl6w3 : w3.heap.size < w6.heap.size := by omega
    have hm6w3 : w3.heap.size ≤ w6.heap.size := by omega
    have g6x0 : w6.cell? ⟨w1.heap.size, 0, none⟩ = some (.int .i64 (kevB i)) := (hc6 _ _ (by first | omega | (simp; done) | (simp; omega))).trans (by first | assumption | simp [go_sem] | simp [go_sem, *])
    have g6x1 : w6.cell? ⟨w1.heap.size, 1, none⟩ = some (.int .i64 (kevK i)) := (hc6 _ _ (by first | omega | (simp; done) | (simp; omega))).trans (by first | assumption | simp [go_sem] | simp [go_sem, *])
    have g6x2 : w6.cell? ⟨w1.heap.size, 2, none⟩ = some (.bool (kevL i)) := (hc6 _ _ (by first | omega | (simp; done) | (simp; omega))).trans (by first | assumption | simp [go_sem] | simp [go_sem, *])
    have g6x3 : w6.cell? ⟨w3.heap.size, 0, none⟩ = some (.int .i64 (kevB i)) := (hc6 _ _ (by first | omega | (simp; done) | (simp; omega))).trans (by first | assumption | simp [go_sem] | simp [go_sem, *])
    have g6x4 : w6.cell? ⟨w3.heap.size, 1, none⟩ = some (.int .i64 (kevK i)) := (hc6 _ _ (by first | omega | (simp; done) | (simp; omega))).trans (by first | assumption | simp [go_sem] | simp [go_sem, *])
    have g6x5 : w6.cell? ⟨w3.heap.size, 2, none⟩ = some (.bool (kevL i)) := (hc6 _ _ (by first | omega | (simp; done) | (simp; omega))).trans (by first | assumption | simp [go_sem] | simp [go_sem, *])
    go_wp2_with fail
    refine (HM.out _ (Tab.below (Tab.below hT4x0 hb5) hb6)).mono ?_
    rintro e w7 ⟨rfl, hb7⟩
    obtain ⟨hc7, hf7⟩ := bcell hb7
    have hz7 := hb7.size
    try simp at hz7
    have hl7w1 : w1.heap.size < w7.heap.size := by omega
    have hm7w1 : w1.heap.size ≤ w7.heap.size := by omega
    have hl7w3 : w3.heap.size < w7.heap.size := by omega
    have hm7w3 : w3.heap.size ≤ w7.heap.size := by omega
    have g7x0 : w7.cell? ⟨w1.heap.size, 0, none⟩ = some (.int .i64 (kevB i)) := (hc7 _ _ (by first | omega | (simp; done) | (simp; omega))).trans (by first | assumption | simp [go_sem] | simp [go_sem, *])
    have g7x1 : w7.cell? ⟨w1.heap.size, 1, none⟩ = some (.int .i64 (kevK i)) := (hc7 _ _ (by first | omega | (simp; done) | (simp; omega))).trans (by first | assumption | simp [go_sem] | simp [go_sem, *])
    have g7x2 : w7.cell? ⟨w1.heap.size, 2, none⟩ = some (.bool (kevL i)) := (hc7 _ _ (by first | omega | (simp; done) | (simp; omega))).trans (by first | assumption | simp [go_sem] | simp [go_sem, *])
    have g7x3 : w7.cell? ⟨w3.heap.size, 0, none⟩ = some (.int .i64 (kevB i)) := (hc7 _ _ (by first | omega | (simp; done) | (simp; omega))).trans (by first | assumption | simp [go_sem] | simp [go_sem, *])
    have g7x4 : w7.cell? ⟨w3.heap.size, 1, none⟩ = some (.int .i64 (kevK i)) := (hc7 _ _ (by first | omega | (simp; done) | (simp; omega))).trans (by first | assumption | simp [go_sem] | simp [go_sem, *])
    have g7x5 : w7.cell? ⟨w3.heap.size, 2, none⟩ = some (.bool (kevL i)) := (hc7 _ _ (by first | omega | (simp; done) | (simp; omega))).trans (by first | assumption | simp [go_sem] | simp [go_sem, *])
    go_wp2_with fail
    go_ret
    exact ⟨rfl, bt (bt (bt hB4 hb5) hb6) hb7⟩
  · have hne : ¬ (a % 14 = b % 14) := by omega
    have hne1 : (1 + a % 14 == 1 + b % 14) = false := by rw [beq_eq_false_iff_ne]; omega
    have hr : kevB i = kevB j → kevK i = kevK j → ¬ (kevL i = kevL j) := row_ne i j hi hj hij
    clear ei ej
    generalize kevL i = l at *
    generalize kevL j = l' at *
    generalize kevK i = k at *
    generalize kevK j = k' at *
    generalize kevB i = e at *
    generalize kevB j = e' at *
    by_cases e1 : e = e'
    · subst e1
      by_cases e2 : k = k'
      · subst e2
        have e3 := hr rfl rfl
        clear hr
        go_enter Tryd.func5, Tryd.ntmps5
        go_wp2_with fail
        refine (HX.out _ hT).mono ?_
        rintro e w1 ⟨rfl, hb1⟩
        obtain ⟨hc1, hf1⟩ := bcell hb1
        have hz1 := hb1.size
        try simp at hz1
        go_wp2_with fail
        refine settleC (fun W => W.cell? ⟨w1.heap.size, 0, none⟩ = some (.int .i64 (e)) ∧ W.cell? ⟨w1.heap.size, 1, none⟩ = some (.int .i64 (k)) ∧ W.cell? ⟨w1.heap.size, 2, none⟩ = some (.bool (l)) ∧ w1.heap.size < W.heap.size ∧ Below w.heap.size w W ∧ Tab W 0 kevCells) ⟨?_, ?_, ?_, ?_, ?_, ?_⟩ ?_
        · (first | assumption | (simp [go_sem, *]; done))
        · (first | assumption | (simp [go_sem, *]; done))
        · (first | assumption | (simp [go_sem, *]; done))
        · (first | assumption | (simp; done) | (simp; omega) | omega)
        · (repeat (first | exact Below.refl _ _ | assumption | refine bt ?_ (by assumption) | refine baa ?_ _ | refine bdw ?_ | refine bs ?_ (by first | exact Nat.le_refl _ | omega | (simp; omega)) _))
        · (refine Tab.below hT ?_; repeat (first | exact Below.refl _ _ | assumption | refine bt ?_ (by assumption) | refine baa ?_ _ | refine bdw ?_ | refine bs ?_ (by first | exact Nat.le_refl _ | omega | (simp; omega)) _))
        rintro W2 ⟨r2x0, r2x1, r2x2, rs2x0, hB2, hT2x0⟩
        refine (HY.out _ hT2x0).mono ?_
        rintro e w3 ⟨rfl, hb3⟩
        obtain ⟨hc3, hf3⟩ := bcell hb3
        have hz3 := hb3.size
        try simp at hz3
        have hs3x0 : w1.heap.size < w3.heap.size := by omega
        have g3x0 : w3.cell? ⟨w1.heap.size, 0, none⟩ = some (.int .i64 (e)) := (hc3 _ _ (by first | omega | (simp; done) | (simp; omega))).trans (by first | assumption | simp [go_sem] | simp [go_sem, *])
        have g3x1 : w3.cell? ⟨w1.heap.size, 1, none⟩ = some (.int .i64 (k)) := (hc3 _ _ (by first | omega | (simp; done) | (simp; omega))).trans (by first | assumption | simp [go_sem] | simp [go_sem, *])
        have g3x2 : w3.cell? ⟨w1.heap.size, 2, none⟩ = some (.bool (l)) := (hc3 _ _ (by first | omega | (simp; done) | (simp; omega))).trans (by first | assumption | simp [go_sem] | simp [go_sem, *])
        go_wp2_with fail
        refine settleC (fun W => W.cell? ⟨w1.heap.size, 0, none⟩ = some (.int .i64 (e)) ∧ W.cell? ⟨w1.heap.size, 1, none⟩ = some (.int .i64 (k)) ∧ W.cell? ⟨w1.heap.size, 2, none⟩ = some (.bool (l)) ∧ W.cell? ⟨w3.heap.size, 0, none⟩ = some (.int .i64 (e)) ∧ W.cell? ⟨w3.heap.size, 1, none⟩ = some (.int .i64 (k)) ∧ W.cell? ⟨w3.heap.size, 2, none⟩ = some (.bool (l')) ∧ w1.heap.size < W.heap.size ∧ w3.heap.size < W.heap.size ∧ Below w.heap.size w W ∧ Tab W 0 kevCells) ⟨?_, ?_, ?_, ?_, ?_, ?_, ?_, ?_, ?_, ?_⟩ ?_
        · (first | assumption | (simp [go_sem, *]; done))
        · (first | assumption | (simp [go_sem, *]; done))
        · (first | assumption | (simp [go_sem, *]; done))
        · (first | assumption | (simp [go_sem, *]; done))
        · (first | assumption | (simp [go_sem, *]; done))
        · (first | assumption | (simp [go_sem, *]; done))
        · (first | assumption | (simp; done) | (simp; omega) | omega)
        · (first | assumption | (simp; done) | (simp; omega) | omega)
        · (repeat (first | exact Below.refl _ _ | assumption | refine bt ?_ (by assumption) | refine baa ?_ _ | refine bdw ?_ | refine bs ?_ (by first | exact Nat.le_refl _ | omega | (simp; omega)) _))
        · (refine Tab.below hT2x0 ?_; repeat (first | exact Below.refl _ _ | assumption | refine bt ?_ (by assumption) | refine baa ?_ _ | refine bdw ?_ | refine bs ?_ (by first | exact Nat.le_refl _ | omega | (simp; omega)) _))
        rintro W4 ⟨r4x0, r4x1, r4x2, r4x3, r4x4, r4x5, rs4x0, rs4x1, hB4, hT4x0⟩
        refine (awake7 _ hT4x0).mono ?_
        rintro e w5 ⟨rfl, hb5⟩
        obtain ⟨hc5, hf5⟩ := bcell hb5
        have hz5 := hb5.size
        try simp at hz5
        have hl5w1 : w1.heap.size < w5.heap.size := by omega
        have hm5w1 : w1.heap.size ≤ w5.heap.size := by omega
        have hl5w3 : w3.heap.size < w5.heap.size := by omega
        have hm5w3 : w3.heap.size ≤ w5.heap.size := by omega
        have g5x0 : w5.cell? ⟨w1.heap.size, 0, none⟩ = some (.int .i64 (e)) := (hc5 _ _ (by first | omega | (simp; done) | (simp; omega))).trans (by first | assumption | simp [go_sem] | simp [go_sem, *])
        have g5x1 : w5.cell? ⟨w1.heap.size, 1, none⟩ = some (.int .i64 (k)) := (hc5 _ _ (by first | omega | (simp; done) | (simp; omega))).trans (by first | assumption | simp [go_sem] | simp [go_sem, *])
        have g5x2 : w5.cell? ⟨w1.heap.size, 2, none⟩ = some (.bool (l)) := (hc5 _ _ (by first | omega | (simp; done) | (simp; omega))).trans (by first | assumption | simp [go_sem] | simp [go_sem, *])
        have g5x3 : w5.cell? ⟨w3.heap.size, 0, none⟩ = some (.int .i64 (e)) := (hc5 _ _ (by first | omega | (simp; done) | (simp; omega))).trans (by first | assumption | simp [go_sem] | simp [go_sem, *])
        have g5x4 : w5.cell? ⟨w3.heap.size, 1, none⟩ = some (.int .i64 (k)) := (hc5 _ _ (by first | omega | (simp; done) | (simp; omega))).trans (by first | assumption | simp [go_sem] | simp [go_sem, *])
        have g5x5 : w5.cell? ⟨w3.heap.size, 2, none⟩ = some (.bool (l')) := (hc5 _ _ (by first | omega | (simp; done) | (simp; omega))).trans (by first | assumption | simp [go_sem] | simp [go_sem, *])
        go_wp2_with fail
        refine (HN.out _ (Tab.below hT4x0 hb5)).mono ?_
        rintro e w6 ⟨rfl, hb6⟩
        obtain ⟨hc6, hf6⟩ := bcell hb6
        have hz6 := hb6.size
        try simp at hz6
        have hl6w1 : w1.heap.size < w6.heap.size := by omega
        have hm6w1 : w1.heap.size ≤ w6.heap.size := by omega
        have hl6w3 : w3.heap.size < w6.heap.size := by omega
        have hm6w3 : w3.heap.size ≤ w6.heap.size := by omega
        have g6x0 : w6.cell? ⟨w1.heap.size, 0, none⟩ = some (.int .i64 (e)) := (hc6 _ _ (by first | omega | (simp; done) | (simp; omega))).trans (by first | assumption | simp [go_sem] | simp [go_sem, *])
        have g6x1 : w6.cell? ⟨w1.heap.size, 1, none⟩ = some (.int .i64 (k)) := (hc6 _ _ (by first | omega | (simp; done) | (simp; omega))).trans (by first | assumption | simp [go_sem] | simp [go_sem, *])
        have g6x2 : w6.cell? ⟨w1.heap.size, 2, none⟩ = some (.bool (l)) := (hc6 _ _ (by first | omega | (simp; done) | (simp; omega))).trans (by first | assumption | simp [go_sem] | simp [go_sem, *])
        have g6x3 : w6.cell? ⟨w3.heap.size, 0, none⟩ = some (.int .i64 (e)) := (hc6 _ _ (by first | omega | (simp; done) | (simp; omega))).trans (by first | assumption | simp [go_sem] | simp [go_sem, *])
        have g6x4 : w6.cell? ⟨w3.heap.size, 1, none⟩ = some (.int .i64 (k)) := (hc6 _ _ (by first | omega | (simp; done) | (simp; omega))).trans (by first | assumption | simp [go_sem] | simp [go_sem, *])
        have g6x5 : w6.cell? ⟨w3.heap.size, 2, none⟩ = some (.bool (l')) := (hc6 _ _ (by first | omega | (simp; done) | (simp; omega))).trans (by first | assumption | simp [go_sem] | simp [go_sem, *])
        go_wp2_with fail
        refine (HM.out _ (Tab.below (Tab.below hT4x0 hb5) hb6)).mono ?_
        rintro e w7 ⟨rfl, hb7⟩
        obtain ⟨hc7, hf7⟩ := bcell hb7
        have hz7 := hb7.size
        try simp at hz7
        have hl7w1 : w1.heap.size < w7.heap.size := by omega
        have hm7w1 : w1.heap.size ≤ w7.heap.size := by omega
        have hl7w3 : w3.heap.size < w7.heap.size := by omega
        have hm7w3 : w3.heap.size ≤ w7.heap.size := by omega
        have g7x0 : w7.cell? ⟨w1.heap.size, 0, none⟩ = some (.int .i64 (e)) := (hc7 _ _ (by first | omega | (simp; done) | (simp; omega))).trans (by first | assumption | simp [go_sem] | simp [go_sem, *])
        have g7x1 : w7.cell? ⟨w1.heap.size, 1, none⟩ = some (.int .i64 (k)) := (hc7 _ _ (by first | omega | (simp; done) | (simp; omega))).trans (by first | assumption | simp [go_sem] | simp [go_sem, *])
        have g7x2 : w7.cell? ⟨w1.heap.size, 2, none⟩ = some (.bool (l)) := (hc7 _ _ (by first | omega | (simp; done) | (simp; omega))).trans (by first | assumption | simp [go_sem] | simp [go_sem, *])
        have g7x3 : w7.cell? ⟨w3.heap.size, 0, none⟩ = some (.int .i64 (e)) := (hc7 _ _ (by first | omega | (simp; done) | (simp; omega))).trans (by first | assumption | simp [go_sem] | simp [go_sem, *])
        have g7x4 : w7.cell? ⟨w3.heap.size, 1, none⟩ = some (.int .i64 (k)) := (hc7 _ _ (by first | omega | (simp; done) | (simp; omega))).trans (by first | assumption | simp [go_sem] | simp [go_sem, *])
        have g7x5 : w7.cell? ⟨w3.heap.size, 2, none⟩ = some (.bool (l')) := (hc7 _ _ (by first | omega | (simp; done) | (simp; omega))).trans (by first | assumption | simp [go_sem] | simp [go_sem, *])
        go_wp2_with fail
        go_ret
        exact ⟨rfl, bt (bt (bt hB4 hb5) hb6) hb7⟩
      · clear hr
        go_enter Tryd.func5, Tryd.ntmps5
        go_wp2_with fail
        refine (HX.out _ hT).mono ?_
        rintro e w1 ⟨rfl, hb1⟩
        obtain ⟨hc1, hf1⟩ := bcell hb1
        have hz1 := hb1.size
        try simp at hz1
        go_wp2_with fail
        refine settleC (fun W => W.cell? ⟨w1.heap.size, 0, none⟩ = some (.int .i64 (e)) ∧ W.cell? ⟨w1.heap.size, 1, none⟩ = some (.int .i64 (k)) ∧ W.cell? ⟨w1.heap.size, 2, none⟩ = some (.bool (l)) ∧ w1.heap.size < W.heap.size ∧ Below w.heap.size w W ∧ Tab W 0 kevCells) ⟨?_, ?_, ?_, ?_, ?_, ?_⟩ ?_
        · (first | assumption | (simp [go_sem, *]; done))
        · (first | assumption | (simp [go_sem, *]; done))
        · (first | assumption | (simp [go_sem, *]; done))
        · (first | assumption | (simp; done) | (simp; omega) | omega)
        · (repeat (first | exact Below.refl _ _ | assumption | refine bt ?_ (by assumption) | refine baa ?_ _ | refine bdw ?_ | refine bs ?_ (by first | exact Nat.le_refl _ | omega | (simp; omega)) _))
        · (refine Tab.below hT ?_; repeat (first | exact Below.refl _ _ | assumption | refine bt ?_ (by assumption) | refine baa ?_ _ | refine bdw ?_ | refine bs ?_ (by first | exact Nat.le_refl _ | omega | (simp; omega)) _))
        rintro W2 ⟨r2x0, r2x1, r2x2, rs2x0, hB2, hT2x0⟩
        refine (HY.out _ hT2x0).mono ?_
        rintro e w3 ⟨rfl, hb3⟩
        obtain ⟨hc3, hf3⟩ := bcell hb3
        have hz3 := hb3.size
        try simp at hz3
        have hs3x0 : w1.heap.size < w3.heap.size := by omega
        have g3x0 : w3.cell? ⟨w1.heap.size, 0, none⟩ = some (.int .i64 (e)) := (hc3 _ _ (by first | omega | (simp; done) | (simp; omega))).trans (by first | assumption | simp [go_sem] | simp [go_sem, *])
        have g3x1 : w3.cell? ⟨w1.heap.size, 1, none⟩ = some (.int .i64 (k)) := (hc3 _ _ (by first | omega | (simp; done) | (simp; omega))).trans (by first | assumption | simp [go_sem] | simp [go_sem, *])
        have g3x2 : w3.cell? ⟨w1.heap.size, 2, none⟩ = some (.bool (l)) := (hc3 _ _ (by first | omega | (simp; done) | (simp; omega))).trans (by first | assumption | simp [go_sem] | simp [go_sem, *])
        go_wp2_with fail
        refine settleC (fun W => W.cell? ⟨w1.heap.size, 0, none⟩ = some (.int .i64 (e)) ∧ W.cell? ⟨w1.heap.size, 1, none⟩ = some (.int .i64 (k)) ∧ W.cell? ⟨w1.heap.size, 2, none⟩ = some (.bool (l)) ∧ W.cell? ⟨w3.heap.size, 0, none⟩ = some (.int .i64 (e)) ∧ W.cell? ⟨w3.heap.size, 1, none⟩ = some (.int .i64 (k')) ∧ W.cell? ⟨w3.heap.size, 2, none⟩ = some (.bool (l')) ∧ w1.heap.size < W.heap.size ∧ w3.heap.size < W.heap.size ∧ Below w.heap.size w W ∧ Tab W 0 kevCells) ⟨?_, ?_, ?_, ?_, ?_, ?_, ?_, ?_, ?_, ?_⟩ ?_
        · (first | assumption | (simp [go_sem, *]; done))
        · (first | assumption | (simp [go_sem, *]; done))
        · (first | assumption | (simp [go_sem, *]; done))
        · (first | assumption | (simp [go_sem, *]; done))
        · (first | assumption | (simp [go_sem, *]; done))
        · (first | assumption | (simp [go_sem, *]; done))
        · (first | assumption | (simp; done) | (simp; omega) | omega)
        · (first | assumption | (simp; done) | (simp; omega) | omega)
        · (repeat (first | exact Below.refl _ _ | assumption | refine bt ?_ (by assumption) | refine baa ?_ _ | refine bdw ?_ | refine bs ?_ (by first | exact Nat.le_refl _ | omega | (simp; omega)) _))
        · (refine Tab.below hT2x0 ?_; repeat (first | exact Below.refl _ _ | assumption | refine bt ?_ (by assumption) | refine baa ?_ _ | refine bdw ?_ | refine bs ?_ (by first | exact Nat.le_refl _ | omega | (simp; omega)) _))
        rintro W4 ⟨r4x0, r4x1, r4x2, r4x3, r4x4, r4x5, rs4x0, rs4x1, hB4, hT4x0⟩
        refine (awake7 _ hT4x0).mono ?_
        rintro e w5 ⟨rfl, hb5⟩
        obtain ⟨hc5, hf5⟩ := bcell hb5
        have hz5 := hb5.size
        try simp at hz5
        have hl5w1 : w1.heap.size < w5.heap.size := by omega
        have hm5w1 : w1.heap.size ≤ w5.heap.size := by omega
        have hl5w3 : w3.heap.size < w5.heap.size := by omega
        have hm5w3 : w3.heap.size ≤ w5.heap.size := by omega
        have g5x0 : w5.cell? ⟨w1.heap.size, 0, none⟩ = some (.int .i64 (e)) := (hc5 _ _ (by first | omega | (simp; done) | (simp; omega))).trans (by first | assumption | simp [go_sem] | simp [go_sem, *])
        have g5x1 : w5.cell? ⟨w1.heap.size, 1, none⟩ = some (.int .i64 (k)) := (hc5 _ _ (by first | omega | (simp; done) | (simp; omega))).trans (by first | assumption | simp [go_sem] | simp [go_sem, *])
        have g5x2 : w5.cell? ⟨w1.heap.size, 2, none⟩ = some (.bool (l)) := (hc5 _ _ (by first | omega | (simp; done) | (simp; omega))).trans (by first | assumption | simp [go_sem] | simp [go_sem, *])
        have g5x3 : w5.cell? ⟨w3.heap.size, 0, none⟩ = some (.int .i64 (e)) := (hc5 _ _ (by first | omega | (simp; done) | (simp; omega))).trans (by first | assumption | simp [go_sem] | simp [go_sem, *])
        have g5x4 : w5.cell? ⟨w3.heap.size, 1, none⟩ = some (.int .i64 (k')) := (hc5 _ _ (by first | omega | (simp; done) | (simp; omega))).trans (by first | assumption | simp [go_sem] | simp [go_sem, *])
        have g5x5 : w5.cell? ⟨w3.heap.size, 2, none⟩ = some (.bool (l')) := (hc5 _ _ (by first | omega | (simp; done) | (simp; omega))).trans (by first | assumption | simp [go_sem] | simp [go_sem, *])
        go_wp2_with fail
        refine (HN.out _ (Tab.below hT4x0 hb5)).mono ?_
        rintro e w6 ⟨rfl, hb6⟩
        obtain ⟨hc6, hf6⟩ := bcell hb6
        have hz6 := hb6.size
        try simp at hz6
        have hl6w1 : w1.heap.size < w6.heap.size := by omega
        have hm6w1 : w1.heap.size ≤ w6.heap.size := by omega
        have hl6w3 : w3.heap.size < w6.heap.size := by omega
        have hm6w3 : w3.heap.size ≤ w6.heap.size := by omega
        have g6x0 : w6.cell? ⟨w1.heap.size, 0, none⟩ = some (.int .i64 (e)) := (hc6 _ _ (by first | omega | (simp; done) | (simp; omega))).trans (by first | assumption | simp [go_sem] | simp [go_sem, *])
        have g6x1 : w6.cell? ⟨w1.heap.size, 1, none⟩ = some (.int .i64 (k)) := (hc6 _ _ (by first | omega | (simp; done) | (simp; omega))).trans (by first | assumption | simp [go_sem] | simp [go_sem, *])
        have g6x2 : w6.cell? ⟨w1.heap.size, 2, none⟩ = some (.bool (l)) := (hc6 _ _ (by first | omega | (simp; done) | (simp; omega))).trans (by first | assumption | simp [go_sem] | simp [go_sem, *])
        have g6x3 : w6.cell? ⟨w3.heap.size, 0, none⟩ = some (.int .i64 (e)) := (hc6 _ _ (by first | omega | (simp; done) | (simp; omega))).trans (by first | assumption | simp [go_sem] | simp [go_sem, *])
        have g6x4 : w6.cell? ⟨w3.heap.size, 1, none⟩ = some (.int .i64 (k')) := (hc6 _ _ (by first | omega | (simp; done) | (simp; omega))).trans (by first | assumption | simp [go_sem] | simp [go_sem, *])
        have g6x5 : w6.cell? ⟨w3.heap.size, 2, none⟩ = some (.bool (l')) := (hc6 _ _ (by first | omega | (simp; done) | (simp; omega))).trans (by first | assumption | simp [go_sem] | simp [go_sem, *])
        go_wp2_with fail
        refine (HM.out _ (Tab.below (Tab.below hT4x0 hb5) hb6)).mono ?_
        rintro e w7 ⟨rfl, hb7⟩
        obtain ⟨hc7, hf7⟩ := bcell hb7
        have hz7 := hb7.size
        try simp at hz7
        have hl7w1 : w1.heap.size < w7.heap.size := by omega
        have hm7w1 : w1.heap.size ≤ w7.heap.size := by omega
        have hl7w3 : w3.heap.size < w7.heap.size := by omega
        have hm7w3 : w3.heap.size ≤ w7.heap.size := by omega
        have g7x0 : w7.cell? ⟨w1.heap.size, 0, none⟩ = some (.int .i64 (e)) := (hc7 _ _ (by first | omega | (simp; done) | (simp; omega))).trans (by first | assumption | simp [go_sem] | simp [go_sem, *])
        have g7x1 : w7.cell? ⟨w1.heap.size, 1, none⟩ = some (.int .i64 (k)) := (hc7 _ _ (by first | omega | (simp; done) | (simp; omega))).trans (by first | assumption | simp [go_sem] | simp [go_sem, *])
        have g7x2 : w7.cell? ⟨w1.heap.size, 2, none⟩ = some (.bool (l)) := (hc7 _ _ (by first | omega | (simp; done) | (simp; omega))).trans (by first | assumption | simp [go_sem] | simp [go_sem, *])
        have g7x3 : w7.cell? ⟨w3.heap.size, 0, none⟩ = some (.int .i64 (e)) := (hc7 _ _ (by first | omega | (simp; done) | (simp; omega))).trans (by first | assumption | simp [go_sem] | simp [go_sem, *])
        have g7x4 : w7.cell? ⟨w3.heap.size, 1, none⟩ = some (.int .i64 (k')) := (hc7 _ _ (by first | omega | (simp; done) | (simp; omega))).trans (by first | assumption | simp [go_sem] | simp [go_sem, *])
        have g7x5 : w7.cell? ⟨w3.heap.size, 2, none⟩ = some (.bool (l')) := (hc7 _ _ (by first | omega | (simp; done) | (simp; omega))).trans (by first | assumption | simp [go_sem] | simp [go_sem, *])
        go_wp2_with fail
        go_ret
        exact ⟨rfl, bt (bt (bt hB4 hb5) hb6) hb7⟩
    · clear hr
      go_enter Tryd.func5, Tryd.ntmps5
      go_wp2_with fail
      refine (HX.out _ hT).mono ?_
      rintro e w1 ⟨rfl, hb1⟩
      obtain ⟨hc1, hf1⟩ := bcell hb1
      have hz1 := hb1.size
      try simp at hz1
      go_wp2_with fail
      refine settleC (fun W => W.cell? ⟨w1.heap.size, 0, none⟩ = some (.int .i64 (e)) ∧ W.cell? ⟨w1.heap.size, 1, none⟩ = some (.int .i64 (k)) ∧ W.cell? ⟨w1.heap.size, 2, none⟩ = some (.bool (l)) ∧ w1.heap.size < W.heap.size ∧ Below w.heap.size w W ∧ Tab W 0 kevCells) ⟨?_, ?_, ?_, ?_, ?_, ?_⟩ ?_
      · (first | assumption | (simp [go_sem, *]; done))
      · (first | assumption | (simp [go_sem, *]; done))
      · (first | assumption | (simp [go_sem, *]; done))
      · (first | assumption | (simp; done) | (simp; omega) | omega)
      · (repeat (first | exact Below.refl _ _ | assumption | refine bt ?_ (by assumption) | refine baa ?_ _ | refine bdw ?_ | refine bs ?_ (by first | exact Nat.le_refl _ | omega | (simp; omega)) _))
      · (refine Tab.below hT ?_; repeat (first | exact Below.refl _ _ | assumption | refine bt ?_ (by assumption) | refine baa ?_ _ | refine bdw ?_ | refine bs ?_ (by first | exact Nat.le_refl _ | omega | (simp; omega)) _))
      rintro W2 ⟨r2x0, r2x1, r2x2, rs2x0, hB2, hT2x0⟩
      refine (HY.out _ hT2x0).mono ?_
      rintro e w3 ⟨rfl, hb3⟩
      obtain ⟨hc3, hf3⟩ := bcell hb3
      have hz3 := hb3.size
      try simp at hz3
      have hs3x0 : w1.heap.size < w3.heap.size := by omega
      have g3x0 : w3.cell? ⟨w1.heap.size, 0, none⟩ = some (.int .i64 (e)) := (hc3 _ _ (by first | omega | (simp; done) | (simp; omega))).trans (by first | assumption | simp [go_sem] | simp [go_sem, *])
      have g3x1 : w3.cell? ⟨w1.heap.size, 1, none⟩ = some (.int .i64 (k)) := (hc3 _ _ (by first | omega | (simp; done) | (simp; omega))).trans (by first | assumption | simp [go_sem] | simp [go_sem, *])
      have g3x2 : w3.cell? ⟨w1.heap.size, 2, none⟩ = some (.bool (l)) := (hc3 _ _ (by first | omega | (simp; done) | (simp; omega))).trans (by first | assumption | simp [go_sem] | simp [go_sem, *])
      go_wp2_with fail
      refine settleC (fun W => W.cell? ⟨w1.heap.size, 0, none⟩ = some (.int .i64 (e)) ∧ W.cell? ⟨w1.heap.size, 1, none⟩ = some (.int .i64 (k)) ∧ W.cell? ⟨w1.heap.size, 2, none⟩ = some (.bool (l)) ∧ W.cell? ⟨w3.heap.size, 0, none⟩ = some (.int .i64 (e')) ∧ W.cell? ⟨w3.heap.size, 1, none⟩ = some (.int .i64 (k')) ∧ W.cell? ⟨w3.heap.size, 2, none⟩ = some (.bool (l')) ∧ w1.heap.size < W.heap.size ∧ w3.heap.size < W.heap.size ∧ Below w.heap.size w W ∧ Tab W 0 kevCells) ⟨?_, ?_, ?_, ?_, ?_, ?_, ?_, ?_, ?_, ?_⟩ ?_
      · (first | assumption | (simp [go_sem, *]; done))
      · (first | assumption | (simp [go_sem, *]; done))
      · (first | assumption | (simp [go_sem, *]; done))
      · (first | assumption | (simp [go_sem, *]; done))
      · (first | assumption | (simp [go_sem, *]; done))
      · (first | assumption | (simp [go_sem, *]; done))
      · (first | assumption | (simp; done) | (simp; omega) | omega)
      · (first | assumption | (simp; done) | (simp; omega) | omega)
      · (repeat (first | exact Below.refl _ _ | assumption | refine bt ?_ (by assumption) | refine baa ?_ _ | refine bdw ?_ | refine bs ?_ (by first | exact Nat.le_refl _ | omega | (simp; omega)) _))
      · (refine Tab.below hT2x0 ?_; repeat (first | exact Below.refl _ _ | assumption | refine bt ?_ (by assumption) | refine baa ?_ _ | refine bdw ?_ | refine bs ?_ (by first | exact Nat.le_refl _ | omega | (simp; omega)) _))
      rintro W4 ⟨r4x0, r4x1, r4x2, r4x3, r4x4, r4x5, rs4x0, rs4x1, hB4, hT4x0⟩
      refine (awake7 _ hT4x0).mono ?_
      rintro e w5 ⟨rfl, hb5⟩
      obtain ⟨hc5, hf5⟩ := bcell hb5
      have hz5 := hb5.size
      try simp at hz5
      have hl5w1 : w1.heap.size < w5.heap.size := by omega
      have hm5w1 : w1.heap.size ≤ w5.heap.size := by omega
      have hl5w3 : w3.heap.size < w5.heap.size := by omega
      have hm5w3 : w3.heap.size ≤ w5.heap.size := by omega
      have g5x0 : w5.cell? ⟨w1.heap.size, 0, none⟩ = some (.int .i64 (e)) := (hc5 _ _ (by first | omega | (simp; done) | (simp; omega))).trans (by first | assumption | simp [go_sem] | simp [go_sem, *])
      have g5x1 : w5.cell? ⟨w1.heap.size, 1, none⟩ = some (.int .i64 (k)) := (hc5 _ _ (by first | omega | (simp; done) | (simp; omega))).trans (by first | assumption | simp [go_sem] | simp [go_sem, *])
      have g5x2 : w5.cell? ⟨w1.heap.size, 2, none⟩ = some (.bool (l)) := (hc5 _ _ (by first | omega | (simp; done) | (simp; omega))).trans (by first | assumption | simp [go_sem] | simp [go_sem, *])
      have g5x3 : w5.cell? ⟨w3.heap.size, 0, none⟩ = some (.int .i64 (e')) := (hc5 _ _ (by first | omega | (simp; done) | (simp; omega))).trans (by first | assumption | simp [go_sem] | simp [go_sem, *])
      have g5x4 : w5.cell? ⟨w3.heap.size, 1, none⟩ = some (.int .i64 (k')) := (hc5 _ _ (by first | omega | (simp; done) | (simp; omega))).trans (by first | assumption | simp [go_sem] | simp [go_sem, *])
      have g5x5 : w5.cell? ⟨w3.heap.size, 2, none⟩ = some (.bool (l')) := (hc5 _ _ (by first | omega | (simp; done) | (simp; omega))).trans (by first | assumption | simp [go_sem] | simp [go_sem, *])
      go_wp2_with fail
      refine (HN.out _ (Tab.below hT4x0 hb5)).mono ?_
      rintro e w6 ⟨rfl, hb6⟩
      obtain ⟨hc6, hf6⟩ := bcell hb6
      have hz6 := hb6.size
      try simp at hz6
      have hl6w1 : w1.heap.size < w6.heap.size := by omega
      have hm6w1 : w1.heap.size ≤ w6.heap.size := by omega
      have hl6w3 : w3.heap.size < w6.heap.size := by omega
      have hm6w3 : w3.heap.size ≤ w6.heap.size := by omega
      have g6x0 : w6.cell? ⟨w1.heap.size, 0, none⟩ = some (.int .i64 (e)) := (hc6 _ _ (by first | omega | (simp; done) | (simp; omega))).trans (by first | assumption | simp [go_sem] | simp [go_sem, *])
      have g6x1 : w6.cell? ⟨w1.heap.size, 1, none⟩ = some (.int .i64 (k)) := (hc6 _ _ (by first | omega | (simp; done) | (simp; omega))).trans (by first | assumption | simp [go_sem] | simp [go_sem, *])
      have g6x2 : w6.cell? ⟨w1.heap.size, 2, none⟩ = some (.bool (l)) := (hc6 _ _ (by first | omega | (simp; done) | (simp; omega))).trans (by first | assumption | simp [go_sem] | simp [go_sem, *])
      have g6x3 : w6.cell? ⟨w3.heap.size, 0, none⟩ = some (.int .i64 (e')) := (hc6 _ _ (by first | omega | (simp; done) | (simp; omega))).trans (by first | assumption | simp [go_sem] | simp [go_sem, *])
      have g6x4 : w6.cell? ⟨w3.heap.size, 1, none⟩ = some (.int .i64 (k')) := (hc6 _ _ (by first | omega | (simp; done) | (simp; omega))).trans (by first | assumption | simp [go_sem] | simp [go_sem, *])
      have g6x5 : w6.cell? ⟨w3.heap.size, 2, none⟩ = some (.bool (l')) := (hc6 _ _ (by first | omega | (simp; done) | (simp; omega))).trans (by first | assumption | simp [go_sem] | simp [go_sem, *])
      go_wp2_with fail
      refine (HM.out _ (Tab.below (Tab.below hT4x0 hb5) hb6)).mono ?_
      rintro e w7 ⟨rfl, hb7⟩
      obtain ⟨hc7, hf7⟩ := bcell hb7
      have hz7 := hb7.size
      try simp at hz7
      have hl7w1 : w1.heap.size < w7.heap.size := by omega
      have hm7w1 : w1.heap.size ≤ w7.heap.size := by omega
      have hl7w3 : w3.heap.size < w7.heap.size := by omega
      have hm7w3 : w3.heap.size ≤ w7.heap.size := by omega
      have g7x0 : w7.cell? ⟨w1.heap.size, 0, none⟩ = some (.int .i64 (e)) := (hc7 _ _ (by first | omega | (simp; done) | (simp; omega))).trans (by first | assumption | simp [go_sem] | simp [go_sem, *])
      have g7x1 : w7.cell? ⟨w1.heap.size, 1, none⟩ = some (.int .i64 (k)) := (hc7 _ _ (by first | omega | (simp; done) | (simp; omega))).trans (by first | assumption | simp [go_sem] | simp [go_sem, *])
      have g7x2 : w7.cell? ⟨w1.heap.size, 2, none⟩ = some (.bool (l)) := (hc7 _ _ (by first | omega | (simp; done) | (simp; omega))).trans (by first | assumption | simp [go_sem] | simp [go_sem, *])
      have g7x3 : w7.cell? ⟨w3.heap.size, 0, none⟩ = some (.int .i64 (e')) := (hc7 _ _ (by first | omega | (simp; done) | (simp; omega))).trans (by first | assumption | simp [go_sem] | simp [go_sem, *])
      have g7x4 : w7.cell? ⟨w3.heap.size, 1, none⟩ = some (.int .i64 (k')) := (hc7 _ _ (by first | omega | (simp; done) | (simp; omega))).trans (by first | assumption | simp [go_sem] | simp [go_sem, *])
      have g7x5 : w7.cell? ⟨w3.heap.size, 2, none⟩ = some (.bool (l')) := (hc7 _ _ (by first | omega | (simp; done) | (simp; omega))).trans (by first | assumption | simp [go_sem] | simp [go_sem, *])
      go_wp2_with fail
      go_ret
      exact ⟨rfl, bt (bt (bt hB4 hb5) hb6) hb7⟩
set_option maxHeartbeats 1000000 in
set_option maxRecDepth 100000 in
theorem KeviahYears_walk (y : Int) (hy : 0 ≤ y ∧ y ≤ 65535) (w : World) (hT : Tab w 0 kevCells) :
    Calls Tryd.prog 4 #[.int .u16 y] w fun e w' => e = .returned (.bool true) ∧ Below w.heap.size w w' := by
  obtain ⟨y0, y1⟩ := hy
  have k1 : 0 ≤ y % 9999 := by omega
  have k2 : y % 9999 < 9999 := by omega
  obtain ⟨i, hi, r1, r2, r3⟩ := year_row (1 + y % 9999) (by omega) (by omega)
  have hOf := fun w => keviah_Of_ok (1 + y % 9999) w (by omega) (by omega)
  rw [r1, r2, r3] at hOf
  have hL := fun w => keviah_Long_ok (1 + y % 9999) w (by omega) (by omega)
  rw [show Cal.long (1 + y % 9999) = Cal.first (1 + y % 9999 + 1) - Cal.first (1 + y % 9999) from rfl] at hL
  have hlong : Cal.first (1 + y % 9999 + 1) - Cal.first (1 + y % 9999) = (if Cal.leap (1 + y % 9999) then 383 else 353) + kevK i := by
    rw [← r2]; unfold Cal.kind Cal.long; omega
  rw [r3] at hlong
  have HOf := Lib.hid hOf
  have HL := Lib.hid hL
  have HA := Lib.hid (fun w => ref5_First_ok (1 + y % 9999) w (by omega) (by omega))
  have HB := Lib.hid (fun w => ref5_First_ok (1 + y % 9999 + 1) w (by omega) (by omega))
  have hWa := fun w => ref4_Weekday (Cal.first (1 + y % 9999)) w
  rw [r1] at hWa
  have HWa := Lib.hid hWa
  have HWb := Lib.hid (fun w => ref4_Weekday (Cal.first (1 + y % 9999 + 1)) w)
  obtain ⟨M, hM⟩ : ∃ M : Int, M = (i : Int) + 1 := ⟨_, rfl⟩
  have HN := Lib.hid (fun w h => hM ▸ keviah_Number_row i hi w h)
  have HTy := Lib.hid (fun w h => hM ▸ keviah_Type_yes i hi w h)
  have d1 : decide (1 ≤ M) = true := by simp; omega
  have d2 : decide (M ≤ 14) = true := by simp; omega
  obtain ⟨b1, b2⟩ := first_bd (1 + y % 9999) (by omega) (by omega)
  obtain ⟨b3, b4⟩ := first_bd (1 + y % 9999 + 1) (by omega) (by omega)
  have b5 : 0 ≤ kevB i := by rw [← r1]; omega
  have b6 : kevB i < 7 := by rw [← r1]; omega
  have b7 := kind_bd (1 + y % 9999) (by omega) (by omega)
  rw [r2] at b7
  obtain ⟨b7, b8⟩ := b7
  have f2 : ((kevB i + (Cal.first (1 + y % 9999 + 1) - Cal.first (1 + y % 9999))) % 7 == Cal.first (1 + y % 9999 + 1) % 7) = true := by rw [beq_iff_eq, ← r1]; omega
  clear r1 r2 r3 hOf hL hWa hM
  generalize Cal.first (1 + y % 9999 + 1) = b at *
  generalize Cal.first (1 + y % 9999) = a at *
  generalize kevB i = B at *
  generalize kevK i = C at *
  cases hl : kevL i <;> rw [hl] at HOf HN HTy hlong <;> simp only [Bool.false_eq_true, if_false, if_true] at hlong
  · have n1 : 353 ≤ b - a := by omega
    have n2 : b - a ≤ 355 := by omega
    have f1 : (b - a == 353 + C) = true := by rw [beq_iff_eq]; omega
    clear hlong hl hi
    go_enter Tryd.func4, Tryd.ntmps4
    go_wp2_with fail
    refine (HOf.out _).mono ?_
    rintro e w1 ⟨rfl, hb1⟩
    obtain ⟨hc1, hf1⟩ := bcell hb1
    have hz1 := hb1.size
    try simp at hz1
    go_wp2_with fail
    refine (HA.out _).mono ?_
    rintro e w2 ⟨rfl, hb2⟩
    obtain ⟨hc2, hf2⟩ := bcell hb2
    have hz2 := hb2.size
    try simp at hz2
    have hs2x0 : w1.heap.size < w2.heap.size := by omega
    have g2x0 : w2.cell? ⟨w1.heap.size, 0, none⟩ = some (.int .i64 (B)) := (hc2 _ _ (by first | omega | (simp; done) | (simp; omega))).trans (by first | assumption | simp [go_sem] | simp [go_sem, *])
    have g2x1 : w2.cell? ⟨w1.heap.size, 1, none⟩ = some (.int .i64 (C)) := (hc2 _ _ (by first | omega | (simp; done) | (simp; omega))).trans (by first | assumption | simp [go_sem] | simp [go_sem, *])
    have g2x2 : w2.cell? ⟨w1.heap.size, 2, none⟩ = some (.bool (false)) := (hc2 _ _ (by first | omega | (simp; done) | (simp; omega))).trans (by first | assumption | simp [go_sem] | simp [go_sem, *])
    go_wp2_with fail
    refine (HB.out _).mono ?_
    rintro e w3 ⟨rfl, hb3⟩
    obtain ⟨hc3, hf3⟩ := bcell hb3
    have hz3 := hb3.size
    try simp at hz3
    have hs3x0 : w1.heap.size < w3.heap.size := by omega
    have g3x0 : w3.cell? ⟨w1.heap.size, 0, none⟩ = some (.int .i64 (B)) := (hc3 _ _ (by first | omega | (simp; done) | (simp; omega))).trans (by first | assumption | simp [go_sem] | simp [go_sem, *])
    have g3x1 : w3.cell? ⟨w1.heap.size, 1, none⟩ = some (.int .i64 (C)) := (hc3 _ _ (by first | omega | (simp; done) | (simp; omega))).trans (by first | assumption | simp [go_sem] | simp [go_sem, *])
    have g3x2 : w3.cell? ⟨w1.heap.size, 2, none⟩ = some (.bool (false)) := (hc3 _ _ (by first | omega | (simp; done) | (simp; omega))).trans (by first | assumption | simp [go_sem] | simp [go_sem, *])
    go_wp2_with fail
    refine (HL.out _).mono ?_
    rintro e w4 ⟨rfl, hb4⟩
    obtain ⟨hc4, hf4⟩ := bcell hb4
    have hz4 := hb4.size
    try simp at hz4
    have hs4x0 : w1.heap.size < w4.heap.size := by omega
    have g4x0 : w4.cell? ⟨w1.heap.size, 0, none⟩ = some (.int .i64 (B)) := (hc4 _ _ (by first | omega | (simp; done) | (simp; omega))).trans (by first | assumption | simp [go_sem] | simp [go_sem, *])
    have g4x1 : w4.cell? ⟨w1.heap.size, 1, none⟩ = some (.int .i64 (C)) := (hc4 _ _ (by first | omega | (simp; done) | (simp; omega))).trans (by first | assumption | simp [go_sem] | simp [go_sem, *])
    have g4x2 : w4.cell? ⟨w1.heap.size, 2, none⟩ = some (.bool (false)) := (hc4 _ _ (by first | omega | (simp; done) | (simp; omega))).trans (by first | assumption | simp [go_sem] | simp [go_sem, *])
    go_wp2_with fail
    refine settleC (fun W => W.cell? ⟨w1.heap.size, 0, none⟩ = some (.int .i64 (B)) ∧ W.cell? ⟨w1.heap.size, 1, none⟩ = some (.int .i64 (C)) ∧ W.cell? ⟨w1.heap.size, 2, none⟩ = some (.bool (false)) ∧ w1.heap.size < W.heap.size ∧ Below w.heap.size w W ∧ Tab W 0 kevCells) ⟨?_, ?_, ?_, ?_, ?_, ?_⟩ ?_
    · (first | assumption | (simp [go_sem, *]; done))
    · (first | assumption | (simp [go_sem, *]; done))
    · (first | assumption | (simp [go_sem, *]; done))
    · (first | assumption | (simp; done) | (simp; omega) | omega)
    · (repeat (first | exact Below.refl _ _ | assumption | refine bt ?_ (by assumption) | refine baa ?_ _ | refine bdw ?_ | refine bs ?_ (by first | exact Nat.le_refl _ | omega | (simp; omega)) _))
    · (refine Tab.below hT ?_; repeat (first | exact Below.refl _ _ | assumption | refine bt ?_ (by assumption) | refine baa ?_ _ | refine bdw ?_ | refine bs ?_ (by first | exact Nat.le_refl _ | omega | (simp; omega)) _))
    rintro W45 ⟨r45x0, r45x1, r45x2, rs45x0, hB45, hT45x0⟩
    refine (HN.out _ hT45x0).mono ?_
    rintro e w5 ⟨rfl, hb5⟩
    obtain ⟨hc5, hf5⟩ := bcell hb5
    have hz5 := hb5.size
    try simp at hz5
    have hs5x0 : w1.heap.size < w5.heap.size := by omega
    have g5x0 : w5.cell? ⟨w1.heap.size, 0, none⟩ = some (.int .i64 (B)) := (hc5 _ _ (by first | omega | (simp; done) | (simp; omega))).trans (by first | assumption | simp [go_sem] | simp [go_sem, *])
    have g5x1 : w5.cell? ⟨w1.heap.size, 1, none⟩ = some (.int .i64 (C)) := (hc5 _ _ (by first | omega | (simp; done) | (simp; omega))).trans (by first | assumption | simp [go_sem] | simp [go_sem, *])
    have g5x2 : w5.cell? ⟨w1.heap.size, 2, none⟩ = some (.bool (false)) := (hc5 _ _ (by first | omega | (simp; done) | (simp; omega))).trans (by first | assumption | simp [go_sem] | simp [go_sem, *])
    go_wp2_with fail
    refine (HTy.out _ (kev_of_tab (Tab.below hT45x0 hb5))).mono ?_
    rintro e w6 ⟨rfl, hb6⟩
    obtain ⟨hc6, hf6⟩ := bcell hb6
    have hz6 := hb6.size
    try simp at hz6
    have hs6x0 : w1.heap.size < w6.heap.size := by omega
    have g6x0 : w6.cell? ⟨w1.heap.size, 0, none⟩ = some (.int .i64 (B)) := (hc6 _ _ (by first | omega | (simp; done) | (simp; omega))).trans (by first | assumption | simp [go_sem] | simp [go_sem, *])
    have g6x1 : w6.cell? ⟨w1.heap.size, 1, none⟩ = some (.int .i64 (C)) := (hc6 _ _ (by first | omega | (simp; done) | (simp; omega))).trans (by first | assumption | simp [go_sem] | simp [go_sem, *])
    have g6x2 : w6.cell? ⟨w1.heap.size, 2, none⟩ = some (.bool (false)) := (hc6 _ _ (by first | omega | (simp; done) | (simp; omega))).trans (by first | assumption | simp [go_sem] | simp [go_sem, *])
    go_wp2_with fail
    refine settle (fun W => W.cell? ⟨w1.heap.size, 0, none⟩ = some (.int .i64 (B)) ∧ W.cell? ⟨w1.heap.size, 1, none⟩ = some (.int .i64 (C)) ∧ W.cell? ⟨w1.heap.size, 2, none⟩ = some (.bool (false)) ∧ W.cell? ⟨w6.heap.size, 0, none⟩ = some (.int .i64 (B)) ∧ W.cell? ⟨w6.heap.size, 1, none⟩ = some (.int .i64 (C)) ∧ W.cell? ⟨w6.heap.size, 2, none⟩ = some (.bool (false)) ∧ w1.heap.size < W.heap.size ∧ w6.heap.size < W.heap.size ∧ Below w.heap.size w W ∧ Tab W 0 kevCells) ⟨?_, ?_, ?_, ?_, ?_, ?_, ?_, ?_, ?_, ?_⟩ ?_
    · (first | assumption | (simp [go_sem, *]; done))
    · (first | assumption | (simp [go_sem, *]; done))
    · (first | assumption | (simp [go_sem, *]; done))
    · (first | assumption | (simp [go_sem, *]; done))
    · (first | assumption | (simp [go_sem, *]; done))
    · (first | assumption | (simp [go_sem, *]; done))
    · (first | assumption | (simp; done) | (simp; omega) | omega)
    · (first | assumption | (simp; done) | (simp; omega) | omega)
    · (repeat (first | exact Below.refl _ _ | assumption | refine bt ?_ (by assumption) | refine baa ?_ _ | refine bdw ?_ | refine bs ?_ (by first | exact Nat.le_refl _ | omega | (simp; omega)) _))
    · (refine Tab.below hT ?_; repeat (first | exact Below.refl _ _ | assumption | refine bt ?_ (by assumption) | refine baa ?_ _ | refine bdw ?_ | refine bs ?_ (by first | exact Nat.le_refl _ | omega | (simp; omega)) _))
    rintro W7 ⟨r7x0, r7x1, r7x2, r7x3, r7x4, r7x5, rs7x0, rs7x1, hB7, hT7x0⟩
    refine wp_region_class (by kernel_rfl) (by kernel_rfl) (fun hall => ?_)
    repeat (first | go_big_quiet_skip | (go_big_quiet_want; first | (refine quiet_load1 _ _ _ rfl rfl ?_ ?_ ?_; (focus (intro _; simp; done)); (focus (first | assumption | omega | (simp; done) | (simp; omega))); apply Exists.intro; refine ⟨?_, ?_⟩; assumption; go_simp; go_big_quiet_on) | (refine quiet_load2 _ _ _ _ rfl rfl ?_ ?_ ?_ ?_; (focus (intro _; simp; done)); (focus (intro _; simp; done)); (focus (first | assumption | omega | (simp; done) | (simp; omega))); apply Exists.intro; apply Exists.intro; refine ⟨?_, ?_, ?_⟩; assumption; assumption; go_simp; go_big_quiet_on) | (refine quiet_load3 _ _ _ _ rfl rfl ?_ ?_ ?_ ?_; (focus (intro _; simp; done)); (focus (intro _; simp; done)); (focus (first | assumption | omega | (simp; done) | (simp; omega))); apply Exists.intro; apply Exists.intro; apply Exists.intro; refine ⟨?_, ?_, ?_, ?_⟩; assumption; assumption; assumption; go_simp; go_big_quiet_on) | (refine quiet_load4 _ _ _ _ rfl rfl ?_ ?_ ?_ ?_; (focus (intro _; simp; done)); (focus (intro _; simp; done)); (focus (first | assumption | omega | (simp; done) | (simp; omega))); apply Exists.intro; apply Exists.intro; apply Exists.intro; apply Exists.intro; refine ⟨?_, ?_, ?_, ?_, ?_⟩; assumption; assumption; assumption; assumption; go_simp; go_big_quiet_on) | (go_big_quiet_op; first | go_big_quiet_on | (apply Exists.intro; refine ⟨fun x hx => ?_, ?_⟩; (first | exact call_below hx (awake7 x (Tab.below hT7x0 hx)) | exact call_same hx (HWa.out x) | exact call_same hx (HWb.out x)); go_big_quiet_on))))
    refine wpQuiet_nil ?_
    clear hall
    intro x8 hx8
    go_wp2_with fail
    go_ret
    exact ⟨rfl, bt hB7 hx8⟩
  · have n1 : 383 ≤ b - a := by omega
    have n2 : b - a ≤ 385 := by omega
    have f1 : (b - a == 353 + C + 30) = true := by rw [beq_iff_eq]; omega
    clear hlong hl hi
    go_enter Tryd.func4, Tryd.ntmps4
    go_wp2_with fail
    refine (HOf.out _).mono ?_
    rintro e w1 ⟨rfl, hb1⟩
    obtain ⟨hc1, hf1⟩ := bcell hb1
    have hz1 := hb1.size
    try simp at hz1
    go_wp2_with fail
    refine (HA.out _).mono ?_
    rintro e w2 ⟨rfl, hb2⟩
    obtain ⟨hc2, hf2⟩ := bcell hb2
    have hz2 := hb2.size
    try simp at hz2
    have hs2x0 : w1.heap.size < w2.heap.size := by omega
    have g2x0 : w2.cell? ⟨w1.heap.size, 0, none⟩ = some (.int .i64 (B)) := (hc2 _ _ (by first | omega | (simp; done) | (simp; omega))).trans (by first | assumption | simp [go_sem] | simp [go_sem, *])
    have g2x1 : w2.cell? ⟨w1.heap.size, 1, none⟩ = some (.int .i64 (C)) := (hc2 _ _ (by first | omega | (simp; done) | (simp; omega))).trans (by first | assumption | simp [go_sem] | simp [go_sem, *])
    have g2x2 : w2.cell? ⟨w1.heap.size, 2, none⟩ = some (.bool (true)) := (hc2 _ _ (by first | omega | (simp; done) | (simp; omega))).trans (by first | assumption | simp [go_sem] | simp [go_sem, *])
    go_wp2_with fail
    refine (HB.out _).mono ?_
    rintro e w3 ⟨rfl, hb3⟩
    obtain ⟨hc3, hf3⟩ := bcell hb3
    have hz3 := hb3.size
    try simp at hz3
    have hs3x0 : w1.heap.size < w3.heap.size := by omega
    have g3x0 : w3.cell? ⟨w1.heap.size, 0, none⟩ = some (.int .i64 (B)) := (hc3 _ _ (by first | omega | (simp; done) | (simp; omega))).trans (by first | assumption | simp [go_sem] | simp [go_sem, *])
    have g3x1 : w3.cell? ⟨w1.heap.size, 1, none⟩ = some (.int .i64 (C)) := (hc3 _ _ (by first | omega | (simp; done) | (simp; omega))).trans (by first | assumption | simp [go_sem] | simp [go_sem, *])
    have g3x2 : w3.cell? ⟨w1.heap.size, 2, none⟩ = some (.bool (true)) := (hc3 _ _ (by first | omega | (simp; done) | (simp; omega))).trans (by first | assumption | simp [go_sem] | simp [go_sem, *])
    go_wp2_with fail
    refine (HL.out _).mono ?_
    rintro e w4 ⟨rfl, hb4⟩
    obtain ⟨hc4, hf4⟩ := bcell hb4
    have hz4 := hb4.size
    try simp at hz4
    have hs4x0 : w1.heap.size < w4.heap.size := by omega
    have g4x0 : w4.cell? ⟨w1.heap.size, 0, none⟩ = some (.int .i64 (B)) := (hc4 _ _ (by first | omega | (simp; done) | (simp; omega))).trans (by first | assumption | simp [go_sem] | simp [go_sem, *])
    have g4x1 : w4.cell? ⟨w1.heap.size, 1, none⟩ = some (.int .i64 (C)) := (hc4 _ _ (by first | omega | (simp; done) | (simp; omega))).trans (by first | assumption | simp [go_sem] | simp [go_sem, *])
    have g4x2 : w4.cell? ⟨w1.heap.size, 2, none⟩ = some (.bool (true)) := (hc4 _ _ (by first | omega | (simp; done) | (simp; omega))).trans (by first | assumption | simp [go_sem] | simp [go_sem, *])
    go_wp2_with fail
    refine settleC (fun W => W.cell? ⟨w1.heap.size, 0, none⟩ = some (.int .i64 (B)) ∧ W.cell? ⟨w1.heap.size, 1, none⟩ = some (.int .i64 (C)) ∧ W.cell? ⟨w1.heap.size, 2, none⟩ = some (.bool (true)) ∧ w1.heap.size < W.heap.size ∧ Below w.heap.size w W ∧ Tab W 0 kevCells) ⟨?_, ?_, ?_, ?_, ?_, ?_⟩ ?_
    · (first | assumption | (simp [go_sem, *]; done))
    · (first | assumption | (simp [go_sem, *]; done))
    · (first | assumption | (simp [go_sem, *]; done))
    · (first | assumption | (simp; done) | (simp; omega) | omega)
    · (repeat (first | exact Below.refl _ _ | assumption | refine bt ?_ (by assumption) | refine baa ?_ _ | refine bdw ?_ | refine bs ?_ (by first | exact Nat.le_refl _ | omega | (simp; omega)) _))
    · (refine Tab.below hT ?_; repeat (first | exact Below.refl _ _ | assumption | refine bt ?_ (by assumption) | refine baa ?_ _ | refine bdw ?_ | refine bs ?_ (by first | exact Nat.le_refl _ | omega | (simp; omega)) _))
    rintro W45 ⟨r45x0, r45x1, r45x2, rs45x0, hB45, hT45x0⟩
    refine (HN.out _ hT45x0).mono ?_
    rintro e w5 ⟨rfl, hb5⟩
    obtain ⟨hc5, hf5⟩ := bcell hb5
    have hz5 := hb5.size
    try simp at hz5
    have hs5x0 : w1.heap.size < w5.heap.size := by omega
    have g5x0 : w5.cell? ⟨w1.heap.size, 0, none⟩ = some (.int .i64 (B)) := (hc5 _ _ (by first | omega | (simp; done) | (simp; omega))).trans (by first | assumption | simp [go_sem] | simp [go_sem, *])
    have g5x1 : w5.cell? ⟨w1.heap.size, 1, none⟩ = some (.int .i64 (C)) := (hc5 _ _ (by first | omega | (simp; done) | (simp; omega))).trans (by first | assumption | simp [go_sem] | simp [go_sem, *])
    have g5x2 : w5.cell? ⟨w1.heap.size, 2, none⟩ = some (.bool (true)) := (hc5 _ _ (by first | omega | (simp; done) | (simp; omega))).trans (by first | assumption | simp [go_sem] | simp [go_sem, *])
    go_wp2_with fail
    refine (HTy.out _ (kev_of_tab (Tab.below hT45x0 hb5))).mono ?_
    rintro e w6 ⟨rfl, hb6⟩
    obtain ⟨hc6, hf6⟩ := bcell hb6
    have hz6 := hb6.size
    try simp at hz6
    have hs6x0 : w1.heap.size < w6.heap.size := by omega
    have g6x0 : w6.cell? ⟨w1.heap.size, 0, none⟩ = some (.int .i64 (B)) := (hc6 _ _ (by first | omega | (simp; done) | (simp; omega))).trans (by first | assumption | simp [go_sem] | simp [go_sem, *])
    have g6x1 : w6.cell? ⟨w1.heap.size, 1, none⟩ = some (.int .i64 (C)) := (hc6 _ _ (by first | omega | (simp; done) | (simp; omega))).trans (by first | assumption | simp [go_sem] | simp [go_sem, *])
    have g6x2 : w6.cell? ⟨w1.heap.size, 2, none⟩ = some (.bool (true)) := (hc6 _ _ (by first | omega | (simp; done) | (simp; omega))).trans (by first | assumption | simp [go_sem] | simp [go_sem, *])
    go_wp2_with fail
    refine settle (fun W => W.cell? ⟨w1.heap.size, 0, none⟩ = some (.int .i64 (B)) ∧ W.cell? ⟨w1.heap.size, 1, none⟩ = some (.int .i64 (C)) ∧ W.cell? ⟨w1.heap.size, 2, none⟩ = some (.bool (true)) ∧ W.cell? ⟨w6.heap.size, 0, none⟩ = some (.int .i64 (B)) ∧ W.cell? ⟨w6.heap.size, 1, none⟩ = some (.int .i64 (C)) ∧ W.cell? ⟨w6.heap.size, 2, none⟩ = some (.bool (true)) ∧ w1.heap.size < W.heap.size ∧ w6.heap.size < W.heap.size ∧ Below w.heap.size w W ∧ Tab W 0 kevCells) ⟨?_, ?_, ?_, ?_, ?_, ?_, ?_, ?_, ?_, ?_⟩ ?_
    · (first | assumption | (simp [go_sem, *]; done))
    · (first | assumption | (simp [go_sem, *]; done))
    · (first | assumption | (simp [go_sem, *]; done))
    · (first | assumption | (simp [go_sem, *]; done))
    · (first | assumption | (simp [go_sem, *]; done))
    · (first | assumption | (simp [go_sem, *]; done))
    · (first | assumption | (simp; done) | (simp; omega) | omega)
    · (first | assumption | (simp; done) | (simp; omega) | omega)
    · (repeat (first | exact Below.refl _ _ | assumption | refine bt ?_ (by assumption) | refine baa ?_ _ | refine bdw ?_ | refine bs ?_ (by first | exact Nat.le_refl _ | omega | (simp; omega)) _))
    · (refine Tab.below hT ?_; repeat (first | exact Below.refl _ _ | assumption | refine bt ?_ (by assumption) | refine baa ?_ _ | refine bdw ?_ | refine bs ?_ (by first | exact Nat.le_refl _ | omega | (simp; omega)) _))
    rintro W7 ⟨r7x0, r7x1, r7x2, r7x3, r7x4, r7x5, rs7x0, rs7x1, hB7, hT7x0⟩
    refine wp_region_class (by kernel_rfl) (by kernel_rfl) (fun hall => ?_)
    repeat (first | go_big_quiet_skip | (go_big_quiet_want; first | (refine quiet_load1 _ _ _ rfl rfl ?_ ?_ ?_; (focus (intro _; simp; done)); (focus (first | assumption | omega | (simp; done) | (simp; omega))); apply Exists.intro; refine ⟨?_, ?_⟩; assumption; go_simp; go_big_quiet_on) | (refine quiet_load2 _ _ _ _ rfl rfl ?_ ?_ ?_ ?_; (focus (intro _; simp; done)); (focus (intro _; simp; done)); (focus (first | assumption | omega | (simp; done) | (simp; omega))); apply Exists.intro; apply Exists.intro; refine ⟨?_, ?_, ?_⟩; assumption; assumption; go_simp; go_big_quiet_on) | (refine quiet_load3 _ _ _ _ rfl rfl ?_ ?_ ?_ ?_; (focus (intro _; simp; done)); (focus (intro _; simp; done)); (focus (first | assumption | omega | (simp; done) | (simp; omega))); apply Exists.intro; apply Exists.intro; apply Exists.intro; refine ⟨?_, ?_, ?_, ?_⟩; assumption; assumption; assumption; go_simp; go_big_quiet_on) | (refine quiet_load4 _ _ _ _ rfl rfl ?_ ?_ ?_ ?_; (focus (intro _; simp; done)); (focus (intro _; simp; done)); (focus (first | assumption | omega | (simp; done) | (simp; omega))); apply Exists.intro; apply Exists.intro; apply Exists.intro; apply Exists.intro; refine ⟨?_, ?_, ?_, ?_, ?_⟩; assumption; assumption; assumption; assumption; go_simp; go_big_quiet_on) | (go_big_quiet_op; first | go_big_quiet_on | (apply Exists.intro; refine ⟨fun x hx => ?_, ?_⟩; (first | exact call_below hx (awake7 x (Tab.below hT7x0 hx)) | exact call_same hx (HWa.out x) | exact call_same hx (HWb.out x)); go_big_quiet_on))))
    refine wpQuiet_nil ?_
    clear hall
    intro x8 hx8
    go_wp2_with fail
    go_ret
    exact ⟨rfl, bt hB7 hx8⟩
set_option maxHeartbeats 1000000 in
set_option maxRecDepth 100000 in
theorem KeviahTells_walk (y b k : Int) (l : Bool) (n : Int) (hy : I64 y) (hb : I64 b) (hk : I64 k) (hn : I64 n) (w : World) (hT : Tab w 0 kevCells) :
    Calls Tryd.prog 3 #[.int .i64 y, .agg #[.int .i64 b, .int .i64 k, .bool l], .int .i64 n] w fun e w' => e = .returned (.bool true) ∧ Below w.heap.size w w' := by
  by_cases c : 1 ≤ n ∧ n ≤ 14
  · obtain ⟨i, hi, rfl⟩ : ∃ i : Nat, i < 14 ∧ n = (i : Int) + 1 := ⟨(n - 1).toNat, by omega, by omega⟩
    have HTy := Lib.hid (fun w h => keviah_Type_yes i hi w (kev_of_tab h))
    have HTr := Lib.hid (fun w => ref7_Type_yes i hi w)
    clear c hn hi
    generalize (i : Int) + 1 = n at *
    go_enter Tryd.func3, Tryd.ntmps3
    go_wp2_with fail
    refine (keviah_Long y _ hy).mono ?_
    rintro e w1 ⟨rfl, hb1⟩
    obtain ⟨hc1, hf1⟩ := bcell hb1
    have hz1 := hb1.size
    try simp at hz1
    have hl1w : w.heap.size < w1.heap.size := by omega
    have hm1w : w.heap.size ≤ w1.heap.size := by omega
    have g1x0 : w1.cell? ⟨w.heap.size, 0, none⟩ = some (.int .i64 (b)) := (hc1 _ _ (by first | omega | (simp; done) | (simp; omega))).trans (by first | assumption | simp [go_sem] | simp [go_sem, *])
    have g1x1 : w1.cell? ⟨w.heap.size, 1, none⟩ = some (.int .i64 (k)) := (hc1 _ _ (by first | omega | (simp; done) | (simp; omega))).trans (by first | assumption | simp [go_sem] | simp [go_sem, *])
    have g1x2 : w1.cell? ⟨w.heap.size, 2, none⟩ = some (.bool (l)) := (hc1 _ _ (by first | omega | (simp; done) | (simp; omega))).trans (by first | assumption | simp [go_sem] | simp [go_sem, *])
    go_wp2_with fail
    refine (ref7_Long y _ hy).mono ?_
    rintro e w2 ⟨rfl, hb2⟩
    obtain ⟨hc2, hf2⟩ := bcell hb2
    have hz2 := hb2.size
    try simp at hz2
    have hl2w : w.heap.size < w2.heap.size := by omega
    have hm2w : w.heap.size ≤ w2.heap.size := by omega
    have g2x0 : w2.cell? ⟨w.heap.size, 0, none⟩ = some (.int .i64 (b)) := (hc2 _ _ (by first | omega | (simp; done) | (simp; omega))).trans (by first | assumption | simp [go_sem] | simp [go_sem, *])
    have g2x1 : w2.cell? ⟨w.heap.size, 1, none⟩ = some (.int .i64 (k)) := (hc2 _ _ (by first | omega | (simp; done) | (simp; omega))).trans (by first | assumption | simp [go_sem] | simp [go_sem, *])
    have g2x2 : w2.cell? ⟨w.heap.size, 2, none⟩ = some (.bool (l)) := (hc2 _ _ (by first | omega | (simp; done) | (simp; omega))).trans (by first | assumption | simp [go_sem] | simp [go_sem, *])
    go_wp2_with fail
    refine (keviah_Of y _ hy).mono ?_
    rintro e w3 ⟨rfl, hb3⟩
    obtain ⟨hc3, hf3⟩ := bcell hb3
    have hz3 := hb3.size
    try simp at hz3
    have hl3w : w.heap.size < w3.heap.size := by omega
    have hm3w : w.heap.size ≤ w3.heap.size := by omega
    have g3x0 : w3.cell? ⟨w.heap.size, 0, none⟩ = some (.int .i64 (b)) := (hc3 _ _ (by first | omega | (simp; done) | (simp; omega))).trans (by first | assumption | simp [go_sem] | simp [go_sem, *])
    have g3x1 : w3.cell? ⟨w.heap.size, 1, none⟩ = some (.int .i64 (k)) := (hc3 _ _ (by first | omega | (simp; done) | (simp; omega))).trans (by first | assumption | simp [go_sem] | simp [go_sem, *])
    have g3x2 : w3.cell? ⟨w.heap.size, 2, none⟩ = some (.bool (l)) := (hc3 _ _ (by first | omega | (simp; done) | (simp; omega))).trans (by first | assumption | simp [go_sem] | simp [go_sem, *])
    go_wp2_with fail
    refine (ref7_Of y _ hy).mono ?_
    rintro e w4 ⟨rfl, hb4⟩
    obtain ⟨hc4, hf4⟩ := bcell hb4
    have hz4 := hb4.size
    try simp at hz4
    have hl4w : w.heap.size < w4.heap.size := by omega
    have hm4w : w.heap.size ≤ w4.heap.size := by omega
    have hl4w3 : w3.heap.size < w4.heap.size := by omega
    have hm4w3 : w3.heap.size ≤ w4.heap.size := by omega
    have g4x0 : w4.cell? ⟨w.heap.size, 0, none⟩ = some (.int .i64 (b)) := (hc4 _ _ (by first | omega | (simp; done) | (simp; omega))).trans (by first | assumption | simp [go_sem] | simp [go_sem, *])
    have g4x1 : w4.cell? ⟨w.heap.size, 1, none⟩ = some (.int .i64 (k)) := (hc4 _ _ (by first | omega | (simp; done) | (simp; omega))).trans (by first | assumption | simp [go_sem] | simp [go_sem, *])
    have g4x2 : w4.cell? ⟨w.heap.size, 2, none⟩ = some (.bool (l)) := (hc4 _ _ (by first | omega | (simp; done) | (simp; omega))).trans (by first | assumption | simp [go_sem] | simp [go_sem, *])
    have g4x3 : w4.cell? ⟨w3.heap.size, 0, none⟩ = some (.int .i64 (Cal.tyB y)) := (hc4 _ _ (by first | omega | (simp; done) | (simp; omega))).trans (by first | assumption | simp [go_sem] | simp [go_sem, *])
    have g4x4 : w4.cell? ⟨w3.heap.size, 1, none⟩ = some (.int .i64 (Cal.tyK y)) := (hc4 _ _ (by first | omega | (simp; done) | (simp; omega))).trans (by first | assumption | simp [go_sem] | simp [go_sem, *])
    have g4x5 : w4.cell? ⟨w3.heap.size, 2, none⟩ = some (.bool (Cal.tyL y)) := (hc4 _ _ (by first | omega | (simp; done) | (simp; omega))).trans (by first | assumption | simp [go_sem] | simp [go_sem, *])
    go_wp2_with fail
    refine settleC (fun W => W.cell? ⟨w.heap.size, 0, none⟩ = some (.int .i64 (b)) ∧ W.cell? ⟨w.heap.size, 1, none⟩ = some (.int .i64 (k)) ∧ W.cell? ⟨w.heap.size, 2, none⟩ = some (.bool (l)) ∧ W.cell? ⟨w3.heap.size, 0, none⟩ = some (.int .i64 (Cal.tyB y)) ∧ W.cell? ⟨w3.heap.size, 1, none⟩ = some (.int .i64 (Cal.tyK y)) ∧ W.cell? ⟨w3.heap.size, 2, none⟩ = some (.bool (Cal.tyL y)) ∧ W.cell? ⟨w4.heap.size, 0, none⟩ = some (.int .i64 (Cal.tyB y)) ∧ W.cell? ⟨w4.heap.size, 1, none⟩ = some (.int .i64 (Cal.tyK y)) ∧ W.cell? ⟨w4.heap.size, 2, none⟩ = some (.bool (Cal.tyL y)) ∧ w.heap.size < W.heap.size ∧ w3.heap.size < W.heap.size ∧ w4.heap.size < W.heap.size ∧ Below w.heap.size w W ∧ Tab W 0 kevCells) ⟨?_, ?_, ?_, ?_, ?_, ?_, ?_, ?_, ?_, ?_, ?_, ?_, ?_, ?_⟩ ?_
    · (first | assumption | (simp [go_sem, *]; done))
    · (first | assumption | (simp [go_sem, *]; done))
    · (first | assumption | (simp [go_sem, *]; done))
    · (first | assumption | (simp [go_sem, *]; done))
    · (first | assumption | (simp [go_sem, *]; done))
    · (first | assumption | (simp [go_sem, *]; done))
    · (first | assumption | (simp [go_sem, *]; done))
    · (first | assumption | (simp [go_sem, *]; done))
    · (first | assumption | (simp [go_sem, *]; done))
    · (first | assumption | (simp; done) | (simp; omega) | omega)
    · (first | assumption | (simp; done) | (simp; omega) | omega)
    · (first | assumption | (simp; done) | (simp; omega) | omega)
    · (repeat (first | exact Below.refl _ _ | assumption | refine bt ?_ (by assumption) | refine baa ?_ _ | refine bdw ?_ | refine bs ?_ (by first | exact Nat.le_refl _ | omega | (simp; omega)) _))
    · (refine Tab.below hT ?_; repeat (first | exact Below.refl _ _ | assumption | refine bt ?_ (by assumption) | refine baa ?_ _ | refine bdw ?_ | refine bs ?_ (by first | exact Nat.le_refl _ | omega | (simp; omega)) _))
    rintro W5 ⟨r5x0, r5x1, r5x2, r5x3, r5x4, r5x5, r5x6, r5x7, r5x8, rs5x0, rs5x1, rs5x2, hB5, hT5x0⟩
    refine (HTy.out _ hT5x0).mono ?_
    rintro e w6 ⟨rfl, hb6⟩
    obtain ⟨hc6, hf6⟩ := bcell hb6
    have hz6 := hb6.size
    try simp at hz6
    have hs6x0 : w.heap.size < w6.heap.size := by omega
    have hs6x1 : w3.heap.size < w6.heap.size := by omega
    have hs6x2 : w4.heap.size < w6.heap.size := by omega
    have g6x0 : w6.cell? ⟨w.heap.size, 0, none⟩ = some (.int .i64 (b)) := (hc6 _ _ (by first | omega | (simp; done) | (simp; omega))).trans (by first | assumption | simp [go_sem] | simp [go_sem, *])
    have g6x1 : w6.cell? ⟨w.heap.size, 1, none⟩ = some (.int .i64 (k)) := (hc6 _ _ (by first | omega | (simp; done) | (simp; omega))).trans (by first | assumption | simp [go_sem] | simp [go_sem, *])
    have g6x2 : w6.cell? ⟨w.heap.size, 2, none⟩ = some (.bool (l)) := (hc6 _ _ (by first | omega | (simp; done) | (simp; omega))).trans (by first | assumption | simp [go_sem] | simp [go_sem, *])
    have g6x3 : w6.cell? ⟨w3.heap.size, 0, none⟩ = some (.int .i64 (Cal.tyB y)) := (hc6 _ _ (by first | omega | (simp; done) | (simp; omega))).trans (by first | assumption | simp [go_sem] | simp [go_sem, *])
    have g6x4 : w6.cell? ⟨w3.heap.size, 1, none⟩ = some (.int .i64 (Cal.tyK y)) := (hc6 _ _ (by first | omega | (simp; done) | (simp; omega))).trans (by first | assumption | simp [go_sem] | simp [go_sem, *])
    have g6x5 : w6.cell? ⟨w3.heap.size, 2, none⟩ = some (.bool (Cal.tyL y)) := (hc6 _ _ (by first | omega | (simp; done) | (simp; omega))).trans (by first | assumption | simp [go_sem] | simp [go_sem, *])
    have g6x6 : w6.cell? ⟨w4.heap.size, 0, none⟩ = some (.int .i64 (Cal.tyB y)) := (hc6 _ _ (by first | omega | (simp; done) | (simp; omega))).trans (by first | assumption | simp [go_sem] | simp [go_sem, *])
    have g6x7 : w6.cell? ⟨w4.heap.size, 1, none⟩ = some (.int .i64 (Cal.tyK y)) := (hc6 _ _ (by first | omega | (simp; done) | (simp; omega))).trans (by first | assumption | simp [go_sem] | simp [go_sem, *])
    have g6x8 : w6.cell? ⟨w4.heap.size, 2, none⟩ = some (.bool (Cal.tyL y)) := (hc6 _ _ (by first | omega | (simp; done) | (simp; omega))).trans (by first | assumption | simp [go_sem] | simp [go_sem, *])
    go_wp2_with fail
    refine (HTr.out _).mono ?_
    rintro e w7 ⟨rfl, hb7⟩
    obtain ⟨hc7, hf7⟩ := bcell hb7
    have hz7 := hb7.size
    try simp at hz7
    have hs7x0 : w.heap.size < w7.heap.size := by omega
    have hs7x1 : w3.heap.size < w7.heap.size := by omega
    have hs7x2 : w4.heap.size < w7.heap.size := by omega
    have hs7x3 : w6.heap.size < w7.heap.size := by omega
    have g7x0 : w7.cell? ⟨w.heap.size, 0, none⟩ = some (.int .i64 (b)) := (hc7 _ _ (by first | omega | (simp; done) | (simp; omega))).trans (by first | assumption | simp [go_sem] | simp [go_sem, *])
    have g7x1 : w7.cell? ⟨w.heap.size, 1, none⟩ = some (.int .i64 (k)) := (hc7 _ _ (by first | omega | (simp; done) | (simp; omega))).trans (by first | assumption | simp [go_sem] | simp [go_sem, *])
    have g7x2 : w7.cell? ⟨w.heap.size, 2, none⟩ = some (.bool (l)) := (hc7 _ _ (by first | omega | (simp; done) | (simp; omega))).trans (by first | assumption | simp [go_sem] | simp [go_sem, *])
    have g7x3 : w7.cell? ⟨w3.heap.size, 0, none⟩ = some (.int .i64 (Cal.tyB y)) := (hc7 _ _ (by first | omega | (simp; done) | (simp; omega))).trans (by first | assumption | simp [go_sem] | simp [go_sem, *])
    have g7x4 : w7.cell? ⟨w3.heap.size, 1, none⟩ = some (.int .i64 (Cal.tyK y)) := (hc7 _ _ (by first | omega | (simp; done) | (simp; omega))).trans (by first | assumption | simp [go_sem] | simp [go_sem, *])
    have g7x5 : w7.cell? ⟨w3.heap.size, 2, none⟩ = some (.bool (Cal.tyL y)) := (hc7 _ _ (by first | omega | (simp; done) | (simp; omega))).trans (by first | assumption | simp [go_sem] | simp [go_sem, *])
    have g7x6 : w7.cell? ⟨w4.heap.size, 0, none⟩ = some (.int .i64 (Cal.tyB y)) := (hc7 _ _ (by first | omega | (simp; done) | (simp; omega))).trans (by first | assumption | simp [go_sem] | simp [go_sem, *])
    have g7x7 : w7.cell? ⟨w4.heap.size, 1, none⟩ = some (.int .i64 (Cal.tyK y)) := (hc7 _ _ (by first | omega | (simp; done) | (simp; omega))).trans (by first | assumption | simp [go_sem] | simp [go_sem, *])
    have g7x8 : w7.cell? ⟨w4.heap.size, 2, none⟩ = some (.bool (Cal.tyL y)) := (hc7 _ _ (by first | omega | (simp; done) | (simp; omega))).trans (by first | assumption | simp [go_sem] | simp [go_sem, *])
    have g7x9 : w7.cell? ⟨w6.heap.size, 0, none⟩ = some (.int .i64 (kevB i)) := (hc7 _ _ (by first | omega | (simp; done) | (simp; omega))).trans (by first | assumption | simp [go_sem] | simp [go_sem, *])
    have g7x10 : w7.cell? ⟨w6.heap.size, 1, none⟩ = some (.int .i64 (kevK i)) := (hc7 _ _ (by first | omega | (simp; done) | (simp; omega))).trans (by first | assumption | simp [go_sem] | simp [go_sem, *])
    have g7x11 : w7.cell? ⟨w6.heap.size, 2, none⟩ = some (.bool (kevL i)) := (hc7 _ _ (by first | omega | (simp; done) | (simp; omega))).trans (by first | assumption | simp [go_sem] | simp [go_sem, *])
    go_wp2_with fail
    refine settle (fun W => W.cell? ⟨w.heap.size, 0, none⟩ = some (.int .i64 (b)) ∧ W.cell? ⟨w.heap.size, 1, none⟩ = some (.int .i64 (k)) ∧ W.cell? ⟨w.heap.size, 2, none⟩ = some (.bool (l)) ∧ W.cell? ⟨w6.heap.size, 0, none⟩ = some (.int .i64 (kevB i)) ∧ W.cell? ⟨w6.heap.size, 1, none⟩ = some (.int .i64 (kevK i)) ∧ W.cell? ⟨w6.heap.size, 2, none⟩ = some (.bool (kevL i)) ∧ W.cell? ⟨w7.heap.size, 0, none⟩ = some (.int .i64 (kevB i)) ∧ W.cell? ⟨w7.heap.size, 1, none⟩ = some (.int .i64 (kevK i)) ∧ W.cell? ⟨w7.heap.size, 2, none⟩ = some (.bool (kevL i)) ∧ w.heap.size < W.heap.size ∧ w6.heap.size < W.heap.size ∧ w7.heap.size < W.heap.size ∧ Below w.heap.size w W ∧ Tab W 0 kevCells) ⟨?_, ?_, ?_, ?_, ?_, ?_, ?_, ?_, ?_, ?_, ?_, ?_, ?_, ?_⟩ ?_
    · (first | assumption | (simp [go_sem, *]; done))
    · (first | assumption | (simp [go_sem, *]; done))
    · (first | assumption | (simp [go_sem, *]; done))
    · (first | assumption | (simp [go_sem, *]; done))
    · (first | assumption | (simp [go_sem, *]; done))
    · (first | assumption | (simp [go_sem, *]; done))
    · (first | assumption | (simp [go_sem, *]; done))
    · (first | assumption | (simp [go_sem, *]; done))
    · (first | assumption | (simp [go_sem, *]; done))
    · (first | assumption | (simp; done) | (simp; omega) | omega)
    · (first | assumption | (simp; done) | (simp; omega) | omega)
    · (first | assumption | (simp; done) | (simp; omega) | omega)
    · (repeat (first | exact Below.refl _ _ | assumption | refine bt ?_ (by assumption) | refine baa ?_ _ | refine bdw ?_ | refine bs ?_ (by first | exact Nat.le_refl _ | omega | (simp; omega)) _))
    · (refine Tab.below hT ?_; repeat (first | exact Below.refl _ _ | assumption | refine bt ?_ (by assumption) | refine baa ?_ _ | refine bdw ?_ | refine bs ?_ (by first | exact Nat.le_refl _ | omega | (simp; omega)) _))
    rintro W8 ⟨r8x0, r8x1, r8x2, r8x3, r8x4, r8x5, r8x6, r8x7, r8x8, rs8x0, rs8x1, rs8x2, hB8, hT8x0⟩
    refine wp_region_class (by kernel_rfl) (by kernel_rfl) (fun hall => ?_)
    repeat (first | go_big_quiet_skip | (go_big_quiet_want; first | (refine quiet_load1 _ _ _ rfl rfl ?_ ?_ ?_; (focus (intro _; simp; done)); (focus (first | assumption | omega | (simp; done) | (simp; omega))); apply Exists.intro; refine ⟨?_, ?_⟩; assumption; go_simp; go_big_quiet_on) | (refine quiet_load2 _ _ _ _ rfl rfl ?_ ?_ ?_ ?_; (focus (intro _; simp; done)); (focus (intro _; simp; done)); (focus (first | assumption | omega | (simp; done) | (simp; omega))); apply Exists.intro; apply Exists.intro; refine ⟨?_, ?_, ?_⟩; assumption; assumption; go_simp; go_big_quiet_on) | (refine quiet_load3 _ _ _ _ rfl rfl ?_ ?_ ?_ ?_; (focus (intro _; simp; done)); (focus (intro _; simp; done)); (focus (first | assumption | omega | (simp; done) | (simp; omega))); apply Exists.intro; apply Exists.intro; apply Exists.intro; refine ⟨?_, ?_, ?_, ?_⟩; assumption; assumption; assumption; go_simp; go_big_quiet_on) | (refine quiet_load4 _ _ _ _ rfl rfl ?_ ?_ ?_ ?_; (focus (intro _; simp; done)); (focus (intro _; simp; done)); (focus (first | assumption | omega | (simp; done) | (simp; omega))); apply Exists.intro; apply Exists.intro; apply Exists.intro; apply Exists.intro; refine ⟨?_, ?_, ?_, ?_, ?_⟩; assumption; assumption; assumption; assumption; go_simp; go_big_quiet_on) | (go_big_quiet_op; first | go_big_quiet_on | (apply Exists.intro; refine ⟨fun x hx => ?_, ?_⟩; (first | exact call_below hx (awake7 x (Tab.below hT8x0 hx)) | exact call_below hx (keviah_Number_any b k l x (Tab.below hT8x0 hx)) | exact call_below hx (ref7_Number_any b k l x)); go_big_quiet_on))))
    refine wpQuiet_nil ?_
    clear hall
    intro x9 hx9
    go_wp2_with fail
    go_ret
    exact ⟨rfl, bt hB8 hx9⟩
  · have HTy := Lib.hid (fun w => keviah_Type_no n (by omega) w)
    have HTr := Lib.hid (fun w => ref7_Type_no n (by omega) w)
    clear c
    go_enter Tryd.func3, Tryd.ntmps3
    go_wp2_with fail
    refine (keviah_Long y _ hy).mono ?_
    rintro e w1 ⟨rfl, hb1⟩
    obtain ⟨hc1, hf1⟩ := bcell hb1
    have hz1 := hb1.size
    try simp at hz1
    have hl1w : w.heap.size < w1.heap.size := by omega
    have hm1w : w.heap.size ≤ w1.heap.size := by omega
    have g1x0 : w1.cell? ⟨w.heap.size, 0, none⟩ = some (.int .i64 (b)) := (hc1 _ _ (by first | omega | (simp; done) | (simp; omega))).trans (by first | assumption | simp [go_sem] | simp [go_sem, *])
    have g1x1 : w1.cell? ⟨w.heap.size, 1, none⟩ = some (.int .i64 (k)) := (hc1 _ _ (by first | omega | (simp; done) | (simp; omega))).trans (by first | assumption | simp [go_sem] | simp [go_sem, *])
    have g1x2 : w1.cell? ⟨w.heap.size, 2, none⟩ = some (.bool (l)) := (hc1 _ _ (by first | omega | (simp; done) | (simp; omega))).trans (by first | assumption | simp [go_sem] | simp [go_sem, *])
    go_wp2_with fail
    refine (ref7_Long y _ hy).mono ?_
    rintro e w2 ⟨rfl, hb2⟩
    obtain ⟨hc2, hf2⟩ := bcell hb2
    have hz2 := hb2.size
    try simp at hz2
    have hl2w : w.heap.size < w2.heap.size := by omega
    have hm2w : w.heap.size ≤ w2.heap.size := by omega
    have g2x0 : w2.cell? ⟨w.heap.size, 0, none⟩ = some (.int .i64 (b)) := (hc2 _ _ (by first | omega | (simp; done) | (simp; omega))).trans (by first | assumption | simp [go_sem] | simp [go_sem, *])
    have g2x1 : w2.cell? ⟨w.heap.size, 1, none⟩ = some (.int .i64 (k)) := (hc2 _ _ (by first | omega | (simp; done) | (simp; omega))).trans (by first | assumption | simp [go_sem] | simp [go_sem, *])
    have g2x2 : w2.cell? ⟨w.heap.size, 2, none⟩ = some (.bool (l)) := (hc2 _ _ (by first | omega | (simp; done) | (simp; omega))).trans (by first | assumption | simp [go_sem] | simp [go_sem, *])
    go_wp2_with fail
    refine (keviah_Of y _ hy).mono ?_
    rintro e w3 ⟨rfl, hb3⟩
    obtain ⟨hc3, hf3⟩ := bcell hb3
    have hz3 := hb3.size
    try simp at hz3
    have hl3w : w.heap.size < w3.heap.size := by omega
    have hm3w : w.heap.size ≤ w3.heap.size := by omega
    have g3x0 : w3.cell? ⟨w.heap.size, 0, none⟩ = some (.int .i64 (b)) := (hc3 _ _ (by first | omega | (simp; done) | (simp; omega))).trans (by first | assumption | simp [go_sem] | simp [go_sem, *])
    have g3x1 : w3.cell? ⟨w.heap.size, 1, none⟩ = some (.int .i64 (k)) := (hc3 _ _ (by first | omega | (simp; done) | (simp; omega))).trans (by first | assumption | simp [go_sem] | simp [go_sem, *])
    have g3x2 : w3.cell? ⟨w.heap.size, 2, none⟩ = some (.bool (l)) := (hc3 _ _ (by first | omega | (simp; done) | (simp; omega))).trans (by first | assumption | simp [go_sem] | simp [go_sem, *])
    go_wp2_with fail
    refine (ref7_Of y _ hy).mono ?_
    rintro e w4 ⟨rfl, hb4⟩
    obtain ⟨hc4, hf4⟩ := bcell hb4
    have hz4 := hb4.size
    try simp at hz4
    have hl4w : w.heap.size < w4.heap.size := by omega
    have hm4w : w.heap.size ≤ w4.heap.size := by omega
    have hl4w3 : w3.heap.size < w4.heap.size := by omega
    have hm4w3 : w3.heap.size ≤ w4.heap.size := by omega
    have g4x0 : w4.cell? ⟨w.heap.size, 0, none⟩ = some (.int .i64 (b)) := (hc4 _ _ (by first | omega | (simp; done) | (simp; omega))).trans (by first | assumption | simp [go_sem] | simp [go_sem, *])
    have g4x1 : w4.cell? ⟨w.heap.size, 1, none⟩ = some (.int .i64 (k)) := (hc4 _ _ (by first | omega | (simp; done) | (simp; omega))).trans (by first | assumption | simp [go_sem] | simp [go_sem, *])
    have g4x2 : w4.cell? ⟨w.heap.size, 2, none⟩ = some (.bool (l)) := (hc4 _ _ (by first | omega | (simp; done) | (simp; omega))).trans (by first | assumption | simp [go_sem] | simp [go_sem, *])
    have g4x3 : w4.cell? ⟨w3.heap.size, 0, none⟩ = some (.int .i64 (Cal.tyB y)) := (hc4 _ _ (by first | omega | (simp; done) | (simp; omega))).trans (by first | assumption | simp [go_sem] | simp [go_sem, *])
    have g4x4 : w4.cell? ⟨w3.heap.size, 1, none⟩ = some (.int .i64 (Cal.tyK y)) := (hc4 _ _ (by first | omega | (simp; done) | (simp; omega))).trans (by first | assumption | simp [go_sem] | simp [go_sem, *])
    have g4x5 : w4.cell? ⟨w3.heap.size, 2, none⟩ = some (.bool (Cal.tyL y)) := (hc4 _ _ (by first | omega | (simp; done) | (simp; omega))).trans (by first | assumption | simp [go_sem] | simp [go_sem, *])
    go_wp2_with fail
    refine settleC (fun W => W.cell? ⟨w.heap.size, 0, none⟩ = some (.int .i64 (b)) ∧ W.cell? ⟨w.heap.size, 1, none⟩ = some (.int .i64 (k)) ∧ W.cell? ⟨w.heap.size, 2, none⟩ = some (.bool (l)) ∧ W.cell? ⟨w3.heap.size, 0, none⟩ = some (.int .i64 (Cal.tyB y)) ∧ W.cell? ⟨w3.heap.size, 1, none⟩ = some (.int .i64 (Cal.tyK y)) ∧ W.cell? ⟨w3.heap.size, 2, none⟩ = some (.bool (Cal.tyL y)) ∧ W.cell? ⟨w4.heap.size, 0, none⟩ = some (.int .i64 (Cal.tyB y)) ∧ W.cell? ⟨w4.heap.size, 1, none⟩ = some (.int .i64 (Cal.tyK y)) ∧ W.cell? ⟨w4.heap.size, 2, none⟩ = some (.bool (Cal.tyL y)) ∧ w.heap.size < W.heap.size ∧ w3.heap.size < W.heap.size ∧ w4.heap.size < W.heap.size ∧ Below w.heap.size w W ∧ Tab W 0 kevCells) ⟨?_, ?_, ?_, ?_, ?_, ?_, ?_, ?_, ?_, ?_, ?_, ?_, ?_, ?_⟩ ?_
    · (first | assumption | (simp [go_sem, *]; done))
    · (first | assumption | (simp [go_sem, *]; done))
    · (first | assumption | (simp [go_sem, *]; done))
    · (first | assumption | (simp [go_sem, *]; done))
    · (first | assumption | (simp [go_sem, *]; done))
    · (first | assumption | (simp [go_sem, *]; done))
    · (first | assumption | (simp [go_sem, *]; done))
    · (first | assumption | (simp [go_sem, *]; done))
    · (first | assumption | (simp [go_sem, *]; done))
    · (first | assumption | (simp; done) | (simp; omega) | omega)
    · (first | assumption | (simp; done) | (simp; omega) | omega)
    · (first | assumption | (simp; done) | (simp; omega) | omega)
    · (repeat (first | exact Below.refl _ _ | assumption | refine bt ?_ (by assumption) | refine baa ?_ _ | refine bdw ?_ | refine bs ?_ (by first | exact Nat.le_refl _ | omega | (simp; omega)) _))
    · (refine Tab.below hT ?_; repeat (first | exact Below.refl _ _ | assumption | refine bt ?_ (by assumption) | refine baa ?_ _ | refine bdw ?_ | refine bs ?_ (by first | exact Nat.le_refl _ | omega | (simp; omega)) _))
    rintro W5 ⟨r5x0, r5x1, r5x2, r5x3, r5x4, r5x5, r5x6, r5x7, r5x8, rs5x0, rs5x1, rs5x2, hB5, hT5x0⟩
    refine (HTy.out _).mono ?_
    rintro e w6 ⟨rfl, hb6⟩
    obtain ⟨hc6, hf6⟩ := bcell hb6
    have hz6 := hb6.size
    try simp at hz6
    have hs6x0 : w.heap.size < w6.heap.size := by omega
    have hs6x1 : w3.heap.size < w6.heap.size := by omega
    have hs6x2 : w4.heap.size < w6.heap.size := by omega
    have g6x0 : w6.cell? ⟨w.heap.size, 0, none⟩ = some (.int .i64 (b)) := (hc6 _ _ (by first | omega | (simp; done) | (simp; omega))).trans (by first | assumption | simp [go_sem] | simp [go_sem, *])
    have g6x1 : w6.cell? ⟨w.heap.size, 1, none⟩ = some (.int .i64 (k)) := (hc6 _ _ (by first | omega | (simp; done) | (simp; omega))).trans (by first | assumption | simp [go_sem] | simp [go_sem, *])
    have g6x2 : w6.cell? ⟨w.heap.size, 2, none⟩ = some (.bool (l)) := (hc6 _ _ (by first | omega | (simp; done) | (simp; omega))).trans (by first | assumption | simp [go_sem] | simp [go_sem, *])
    have g6x3 : w6.cell? ⟨w3.heap.size, 0, none⟩ = some (.int .i64 (Cal.tyB y)) := (hc6 _ _ (by first | omega | (simp; done) | (simp; omega))).trans (by first | assumption | simp [go_sem] | simp [go_sem, *])
    have g6x4 : w6.cell? ⟨w3.heap.size, 1, none⟩ = some (.int .i64 (Cal.tyK y)) := (hc6 _ _ (by first | omega | (simp; done) | (simp; omega))).trans (by first | assumption | simp [go_sem] | simp [go_sem, *])
    have g6x5 : w6.cell? ⟨w3.heap.size, 2, none⟩ = some (.bool (Cal.tyL y)) := (hc6 _ _ (by first | omega | (simp; done) | (simp; omega))).trans (by first | assumption | simp [go_sem] | simp [go_sem, *])
    have g6x6 : w6.cell? ⟨w4.heap.size, 0, none⟩ = some (.int .i64 (Cal.tyB y)) := (hc6 _ _ (by first | omega | (simp; done) | (simp; omega))).trans (by first | assumption | simp [go_sem] | simp [go_sem, *])
    have g6x7 : w6.cell? ⟨w4.heap.size, 1, none⟩ = some (.int .i64 (Cal.tyK y)) := (hc6 _ _ (by first | omega | (simp; done) | (simp; omega))).trans (by first | assumption | simp [go_sem] | simp [go_sem, *])
    have g6x8 : w6.cell? ⟨w4.heap.size, 2, none⟩ = some (.bool (Cal.tyL y)) := (hc6 _ _ (by first | omega | (simp; done) | (simp; omega))).trans (by first | assumption | simp [go_sem] | simp [go_sem, *])
    go_wp2_with fail
    refine (HTr.out _).mono ?_
    rintro e w7 ⟨rfl, hb7⟩
    obtain ⟨hc7, hf7⟩ := bcell hb7
    have hz7 := hb7.size
    try simp at hz7
    have hs7x0 : w.heap.size < w7.heap.size := by omega
    have hs7x1 : w3.heap.size < w7.heap.size := by omega
    have hs7x2 : w4.heap.size < w7.heap.size := by omega
    have hs7x3 : w6.heap.size < w7.heap.size := by omega
    have g7x0 : w7.cell? ⟨w.heap.size, 0, none⟩ = some (.int .i64 (b)) := (hc7 _ _ (by first | omega | (simp; done) | (simp; omega))).trans (by first | assumption | simp [go_sem] | simp [go_sem, *])
    have g7x1 : w7.cell? ⟨w.heap.size, 1, none⟩ = some (.int .i64 (k)) := (hc7 _ _ (by first | omega | (simp; done) | (simp; omega))).trans (by first | assumption | simp [go_sem] | simp [go_sem, *])
    have g7x2 : w7.cell? ⟨w.heap.size, 2, none⟩ = some (.bool (l)) := (hc7 _ _ (by first | omega | (simp; done) | (simp; omega))).trans (by first | assumption | simp [go_sem] | simp [go_sem, *])
    have g7x3 : w7.cell? ⟨w3.heap.size, 0, none⟩ = some (.int .i64 (Cal.tyB y)) := (hc7 _ _ (by first | omega | (simp; done) | (simp; omega))).trans (by first | assumption | simp [go_sem] | simp [go_sem, *])
    have g7x4 : w7.cell? ⟨w3.heap.size, 1, none⟩ = some (.int .i64 (Cal.tyK y)) := (hc7 _ _ (by first | omega | (simp; done) | (simp; omega))).trans (by first | assumption | simp [go_sem] | simp [go_sem, *])
    have g7x5 : w7.cell? ⟨w3.heap.size, 2, none⟩ = some (.bool (Cal.tyL y)) := (hc7 _ _ (by first | omega | (simp; done) | (simp; omega))).trans (by first | assumption | simp [go_sem] | simp [go_sem, *])
    have g7x6 : w7.cell? ⟨w4.heap.size, 0, none⟩ = some (.int .i64 (Cal.tyB y)) := (hc7 _ _ (by first | omega | (simp; done) | (simp; omega))).trans (by first | assumption | simp [go_sem] | simp [go_sem, *])
    have g7x7 : w7.cell? ⟨w4.heap.size, 1, none⟩ = some (.int .i64 (Cal.tyK y)) := (hc7 _ _ (by first | omega | (simp; done) | (simp; omega))).trans (by first | assumption | simp [go_sem] | simp [go_sem, *])
    have g7x8 : w7.cell? ⟨w4.heap.size, 2, none⟩ = some (.bool (Cal.tyL y)) := (hc7 _ _ (by first | omega | (simp; done) | (simp; omega))).trans (by first | assumption | simp [go_sem] | simp [go_sem, *])
    have g7x9 : w7.cell? ⟨w6.heap.size, 0, none⟩ = some (.int .i64 (0)) := (hc7 _ _ (by first | omega | (simp; done) | (simp; omega))).trans (by first | assumption | simp [go_sem] | simp [go_sem, *])
    have g7x10 : w7.cell? ⟨w6.heap.size, 1, none⟩ = some (.int .i64 (0)) := (hc7 _ _ (by first | omega | (simp; done) | (simp; omega))).trans (by first | assumption | simp [go_sem] | simp [go_sem, *])
    have g7x11 : w7.cell? ⟨w6.heap.size, 2, none⟩ = some (.bool (false)) := (hc7 _ _ (by first | omega | (simp; done) | (simp; omega))).trans (by first | assumption | simp [go_sem] | simp [go_sem, *])
    go_wp2_with fail
    refine settle (fun W => W.cell? ⟨w.heap.size, 0, none⟩ = some (.int .i64 (b)) ∧ W.cell? ⟨w.heap.size, 1, none⟩ = some (.int .i64 (k)) ∧ W.cell? ⟨w.heap.size, 2, none⟩ = some (.bool (l)) ∧ W.cell? ⟨w6.heap.size, 0, none⟩ = some (.int .i64 (0)) ∧ W.cell? ⟨w6.heap.size, 1, none⟩ = some (.int .i64 (0)) ∧ W.cell? ⟨w6.heap.size, 2, none⟩ = some (.bool (false)) ∧ W.cell? ⟨w7.heap.size, 0, none⟩ = some (.int .i64 (0)) ∧ W.cell? ⟨w7.heap.size, 1, none⟩ = some (.int .i64 (0)) ∧ W.cell? ⟨w7.heap.size, 2, none⟩ = some (.bool (false)) ∧ w.heap.size < W.heap.size ∧ w6.heap.size < W.heap.size ∧ w7.heap.size < W.heap.size ∧ Below w.heap.size w W ∧ Tab W 0 kevCells) ⟨?_, ?_, ?_, ?_, ?_, ?_, ?_, ?_, ?_, ?_, ?_, ?_, ?_, ?_⟩ ?_
    · (first | assumption | (simp [go_sem, *]; done))
    · (first | assumption | (simp [go_sem, *]; done))
    · (first | assumption | (simp [go_sem, *]; done))
    · (first | assumption | (simp [go_sem, *]; done))
    · (first | assumption | (simp [go_sem, *]; done))
    · (first | assumption | (simp [go_sem, *]; done))
    · (first | assumption | (simp [go_sem, *]; done))
    · (first | assumption | (simp [go_sem, *]; done))
    · (first | assumption | (simp [go_sem, *]; done))
    · (first | assumption | (simp; done) | (simp; omega) | omega)
    · (first | assumption | (simp; done) | (simp; omega) | omega)
    · (first | assumption | (simp; done) | (simp; omega) | omega)
    · (repeat (first | exact Below.refl _ _ | assumption | refine bt ?_ (by assumption) | refine baa ?_ _ | refine bdw ?_ | refine bs ?_ (by first | exact Nat.le_refl _ | omega | (simp; omega)) _))
    · (refine Tab.below hT ?_; repeat (first | exact Below.refl _ _ | assumption | refine bt ?_ (by assumption) | refine baa ?_ _ | refine bdw ?_ | refine bs ?_ (by first | exact Nat.le_refl _ | omega | (simp; omega)) _))
    rintro W8 ⟨r8x0, r8x1, r8x2, r8x3, r8x4, r8x5, r8x6, r8x7, r8x8, rs8x0, rs8x1, rs8x2, hB8, hT8x0⟩
    refine wp_region_class (by kernel_rfl) (by kernel_rfl) (fun hall => ?_)
    repeat (first | go_big_quiet_skip | (go_big_quiet_want; first | (refine quiet_load1 _ _ _ rfl rfl ?_ ?_ ?_; (focus (intro _; simp; done)); (focus (first | assumption | omega | (simp; done) | (simp; omega))); apply Exists.intro; refine ⟨?_, ?_⟩; assumption; go_simp; go_big_quiet_on) | (refine quiet_load2 _ _ _ _ rfl rfl ?_ ?_ ?_ ?_; (focus (intro _; simp; done)); (focus (intro _; simp; done)); (focus (first | assumption | omega | (simp; done) | (simp; omega))); apply Exists.intro; apply Exists.intro; refine ⟨?_, ?_, ?_⟩; assumption; assumption; go_simp; go_big_quiet_on) | (refine quiet_load3 _ _ _ _ rfl rfl ?_ ?_ ?_ ?_; (focus (intro _; simp; done)); (focus (intro _; simp; done)); (focus (first | assumption | omega | (simp; done) | (simp; omega))); apply Exists.intro; apply Exists.intro; apply Exists.intro; refine ⟨?_, ?_, ?_, ?_⟩; assumption; assumption; assumption; go_simp; go_big_quiet_on) | (refine quiet_load4 _ _ _ _ rfl rfl ?_ ?_ ?_ ?_; (focus (intro _; simp; done)); (focus (intro _; simp; done)); (focus (first | assumption | omega | (simp; done) | (simp; omega))); apply Exists.intro; apply Exists.intro; apply Exists.intro; apply Exists.intro; refine ⟨?_, ?_, ?_, ?_, ?_⟩; assumption; assumption; assumption; assumption; go_simp; go_big_quiet_on) | (go_big_quiet_op; first | go_big_quiet_on | (apply Exists.intro; refine ⟨fun x hx => ?_, ?_⟩; (first | exact call_below hx (awake7 x (Tab.below hT8x0 hx)) | exact call_below hx (keviah_Number_any b k l x (Tab.below hT8x0 hx)) | exact call_below hx (ref7_Number_any b k l x)); go_big_quiet_on))))
    refine wpQuiet_nil ?_
    clear hall
    intro x9 hx9
    go_wp2_with fail
    go_ret
    exact ⟨rfl, bt hB8 hx9⟩
end Go.Proofs.YtemkngkaaabghaaDoor
