/- Through the layers: WholeDays, by the contracts of its calls. -/
import Derived.Test.YtaaaalbgjpjgoaaGreatDoorVHR
set_option linter.unusedVariables false
set_option linter.unusedSimpArgs false
set_option maxRecDepth 100000
namespace Go.Proofs.YtaaaalbgjpjgoaaGreatDoor
open Go.ChangeShapes Go.WideShapes Go.ChangeAt Go.RowKit Go.Lib
set_option maxHeartbeats 4000000 in
theorem WholeDays_out (n : Int) (w : World)
    (HA : Hid (∀ W : World, Below w.heap.size w W → Calls Tryo.prog 38 #[.int .i64 n] W fun e w' => e = .returned (.tuple #[.agg #[.int .i64 (0), .int .i64 (0), .bool (false), .int .i64 (0)], .int .i64 2]) ∧ Below W.heap.size W w'))
    (HB : Hid (∀ W : World, Below w.heap.size w W → Calls Tryo.prog 39 #[.int .i64 n] W fun e w' => e = .returned (.tuple #[.agg #[.int .i64 (0), .int .i64 (0), .int .i64 (0)], .int .i64 2]) ∧ Below W.heap.size W w'))
    (HW : Hid (∀ W : World, Below w.heap.size w W → Calls Tryo.prog 34 #[] W fun e w' => e = .returned (.bool true) ∧ Below W.heap.size W w')) :
    Calls Tryo.prog 7 #[.int .i64 n] w fun e w' => e = .returned (.bool true) ∧ Below w.heap.size w w' := by
  go_enter Tryo.func7, Tryz.ntmps7
  go_wp2_with fail
  refine (HA.out _ bel).mono ?_
  rintro e w1 ⟨rfl, hb1⟩
  have hB1 : Below w.heap.size w w1 := bel
  have hZ1 := hB1.size
  obtain ⟨hc1, hf1⟩ := bcell hb1
  have hz1 := hb1.size
  try simp at hz1
  go_wp2_with fail
  refine (HB.out _ bel).mono ?_
  rintro e w2 ⟨rfl, hb2⟩
  have hB2 : Below w.heap.size w w2 := bel
  have hZ2 := hB2.size
  obtain ⟨hc2, hf2⟩ := bcell hb2
  have hz2 := hb2.size
  try simp at hz2
  have hl2w1 : w1.heap.size < w2.heap.size := by omega
  have hm2w1 : w1.heap.size ≤ w2.heap.size := by omega
  have g2x0 : w2.cell? ⟨w1.heap.size, 0, none⟩ = some (.int .i64 (0)) := cel hc2
  have g2x1 : w2.cell? ⟨w1.heap.size, 1, none⟩ = some (.int .i64 (0)) := cel hc2
  have g2x2 : w2.cell? ⟨w1.heap.size, 2, none⟩ = some (.bool (false)) := cel hc2
  have g2x3 : w2.cell? ⟨w1.heap.size, 3, none⟩ = some (.int .i64 (0)) := cel hc2
  go_wp2_with fail
  refine (HW.out _ bel).mono ?_
  rintro e w3 ⟨rfl, hb3⟩
  have hB3 : Below w.heap.size w w3 := bel
  have hZ3 := hB3.size
  obtain ⟨hc3, hf3⟩ := bcell hb3
  have hz3 := hb3.size
  try simp at hz3
  have hl3w1 : w1.heap.size < w3.heap.size := by omega
  have hm3w1 : w1.heap.size ≤ w3.heap.size := by omega
  have hl3w2 : w2.heap.size < w3.heap.size := by omega
  have hm3w2 : w2.heap.size ≤ w3.heap.size := by omega
  have g3x0 : w3.cell? ⟨w1.heap.size, 0, none⟩ = some (.int .i64 (0)) := cel hc3
  have g3x1 : w3.cell? ⟨w1.heap.size, 1, none⟩ = some (.int .i64 (0)) := cel hc3
  have g3x2 : w3.cell? ⟨w1.heap.size, 2, none⟩ = some (.bool (false)) := cel hc3
  have g3x3 : w3.cell? ⟨w1.heap.size, 3, none⟩ = some (.int .i64 (0)) := cel hc3
  have g3x4 : w3.cell? ⟨w2.heap.size, 0, none⟩ = some (.int .i64 (0)) := cel hc3
  have g3x5 : w3.cell? ⟨w2.heap.size, 1, none⟩ = some (.int .i64 (0)) := cel hc3
  have g3x6 : w3.cell? ⟨w2.heap.size, 2, none⟩ = some (.int .i64 (0)) := cel hc3
  go_wp2_with fail
  go_ret
  refine ⟨by first | rfl | (simp [*]; done), ?_⟩
  exact bel
set_option maxHeartbeats 4000000 in
theorem WholeDays_at (n y m : Int) (l : Bool) (d cy cm cd xy xm : Int) (xl : Bool) (xd er : Int) (hn : -1373427 ≤ n ∧ n ≤ 2278650) (w : World)
    (HA : Hid (∀ W : World, Below w.heap.size w W → Calls Tryo.prog 38 #[.int .i64 n] W fun e w' => e = .returned (.tuple #[.agg #[.int .i64 (y), .int .i64 (m), .bool (l), .int .i64 (d)], .int .i64 0]) ∧ Below W.heap.size W w'))
    (HB : Hid (∀ W : World, Below w.heap.size w W → Calls Tryo.prog 39 #[.int .i64 n] W fun e w' => e = .returned (.tuple #[.agg #[.int .i64 (cy), .int .i64 (cm), .int .i64 (cd)], .int .i64 0]) ∧ Below W.heap.size W w'))
    (HC : Hid (∀ W : World, Below w.heap.size w W → Calls Tryo.prog 40 #[.agg #[.int .i64 (y), .int .i64 (m), .bool (l), .int .i64 (d)]] W fun e w' => e = .returned (.tuple #[.int .i64 n, .int .i64 0]) ∧ Below W.heap.size W w'))
    (HD : Hid (∀ W : World, Below w.heap.size w W → Calls Tryo.prog 41 #[.agg #[.int .i64 (cy), .int .i64 (cm), .int .i64 (cd)]] W fun e w' => e = .returned (.tuple #[.int .i64 n, .int .i64 0]) ∧ Below W.heap.size W w'))
    (HE : Hid (∀ W : World, Below w.heap.size w W → Calls Tryo.prog 38 #[.int .i64 (n + 1)] W fun e w' => e = .returned (.tuple #[.agg #[.int .i64 (xy), .int .i64 (xm), .bool (xl), .int .i64 (xd)], .int .i64 er]) ∧ Below W.heap.size W w'))
    (HF : Hid (∀ W : World, Below w.heap.size w W → Calls Tryo.prog 42 #[.agg #[.int .i64 (y), .int .i64 (m), .bool (l), .int .i64 (d)]] W fun e w' => e = .returned (.tuple #[.agg #[.int .i64 (xy), .int .i64 (xm), .bool (xl), .int .i64 (xd)], .int .i64 er]) ∧ Below W.heap.size W w'))
    (HG : Hid (∀ W : World, Below w.heap.size w W → Calls Tryo.prog 43 #[.agg #[.int .i64 (y), .int .i64 (m), .bool (l), .int .i64 (d)]] W fun e w' => e = .returned (.int .i64 0) ∧ Below W.heap.size W w'))
    (HW : Hid (∀ W : World, Below w.heap.size w W → Calls Tryo.prog 34 #[] W fun e w' => e = .returned (.bool true) ∧ Below W.heap.size W w')) :
    Calls Tryo.prog 7 #[.int .i64 n] w fun e w' => e = .returned (.bool true) ∧ Below w.heap.size w w' := by
  obtain ⟨n1, n2⟩ := hn
  go_enter Tryo.func7, Tryz.ntmps7
  go_wp2_with fail
  refine (HA.out _ bel).mono ?_
  rintro e w1 ⟨rfl, hb1⟩
  have hB1 : Below w.heap.size w w1 := bel
  have hZ1 := hB1.size
  obtain ⟨hc1, hf1⟩ := bcell hb1
  have hz1 := hb1.size
  try simp at hz1
  go_wp2_with fail
  refine (HB.out _ bel).mono ?_
  rintro e w2 ⟨rfl, hb2⟩
  have hB2 : Below w.heap.size w w2 := bel
  have hZ2 := hB2.size
  obtain ⟨hc2, hf2⟩ := bcell hb2
  have hz2 := hb2.size
  try simp at hz2
  have hl2w1 : w1.heap.size < w2.heap.size := by omega
  have hm2w1 : w1.heap.size ≤ w2.heap.size := by omega
  have g2x0 : w2.cell? ⟨w1.heap.size, 0, none⟩ = some (.int .i64 (y)) := cel hc2
  have g2x1 : w2.cell? ⟨w1.heap.size, 1, none⟩ = some (.int .i64 (m)) := cel hc2
  have g2x2 : w2.cell? ⟨w1.heap.size, 2, none⟩ = some (.bool (l)) := cel hc2
  have g2x3 : w2.cell? ⟨w1.heap.size, 3, none⟩ = some (.int .i64 (d)) := cel hc2
  go_wp2_with fail
  refine (HC.out _ bel).mono ?_
  rintro e w3 ⟨rfl, hb3⟩
  have hB3 : Below w.heap.size w w3 := bel
  have hZ3 := hB3.size
  obtain ⟨hc3, hf3⟩ := bcell hb3
  have hz3 := hb3.size
  try simp at hz3
  have hl3w1 : w1.heap.size < w3.heap.size := by omega
  have hm3w1 : w1.heap.size ≤ w3.heap.size := by omega
  have hl3w2 : w2.heap.size < w3.heap.size := by omega
  have hm3w2 : w2.heap.size ≤ w3.heap.size := by omega
  have g3x0 : w3.cell? ⟨w1.heap.size, 0, none⟩ = some (.int .i64 (y)) := cel hc3
  have g3x1 : w3.cell? ⟨w1.heap.size, 1, none⟩ = some (.int .i64 (m)) := cel hc3
  have g3x2 : w3.cell? ⟨w1.heap.size, 2, none⟩ = some (.bool (l)) := cel hc3
  have g3x3 : w3.cell? ⟨w1.heap.size, 3, none⟩ = some (.int .i64 (d)) := cel hc3
  have g3x4 : w3.cell? ⟨w2.heap.size, 0, none⟩ = some (.int .i64 (cy)) := cel hc3
  have g3x5 : w3.cell? ⟨w2.heap.size, 1, none⟩ = some (.int .i64 (cm)) := cel hc3
  have g3x6 : w3.cell? ⟨w2.heap.size, 2, none⟩ = some (.int .i64 (cd)) := cel hc3
  go_wp2_with fail
  refine (HD.out _ bel).mono ?_
  rintro e w4 ⟨rfl, hb4⟩
  have hB4 : Below w.heap.size w w4 := bel
  have hZ4 := hB4.size
  obtain ⟨hc4, hf4⟩ := bcell hb4
  have hz4 := hb4.size
  try simp at hz4
  have hl4w1 : w1.heap.size < w4.heap.size := by omega
  have hm4w1 : w1.heap.size ≤ w4.heap.size := by omega
  have hl4w2 : w2.heap.size < w4.heap.size := by omega
  have hm4w2 : w2.heap.size ≤ w4.heap.size := by omega
  have g4x0 : w4.cell? ⟨w1.heap.size, 0, none⟩ = some (.int .i64 (y)) := cel hc4
  have g4x1 : w4.cell? ⟨w1.heap.size, 1, none⟩ = some (.int .i64 (m)) := cel hc4
  have g4x2 : w4.cell? ⟨w1.heap.size, 2, none⟩ = some (.bool (l)) := cel hc4
  have g4x3 : w4.cell? ⟨w1.heap.size, 3, none⟩ = some (.int .i64 (d)) := cel hc4
  have g4x4 : w4.cell? ⟨w2.heap.size, 0, none⟩ = some (.int .i64 (cy)) := cel hc4
  have g4x5 : w4.cell? ⟨w2.heap.size, 1, none⟩ = some (.int .i64 (cm)) := cel hc4
  have g4x6 : w4.cell? ⟨w2.heap.size, 2, none⟩ = some (.int .i64 (cd)) := cel hc4
  go_wp2_with fail
  refine (HE.out _ bel).mono ?_
  rintro e w5 ⟨rfl, hb5⟩
  have hB5 : Below w.heap.size w w5 := bel
  have hZ5 := hB5.size
  obtain ⟨hc5, hf5⟩ := bcell hb5
  have hz5 := hb5.size
  try simp at hz5
  have hl5w1 : w1.heap.size < w5.heap.size := by omega
  have hm5w1 : w1.heap.size ≤ w5.heap.size := by omega
  have hl5w2 : w2.heap.size < w5.heap.size := by omega
  have hm5w2 : w2.heap.size ≤ w5.heap.size := by omega
  have g5x0 : w5.cell? ⟨w1.heap.size, 0, none⟩ = some (.int .i64 (y)) := cel hc5
  have g5x1 : w5.cell? ⟨w1.heap.size, 1, none⟩ = some (.int .i64 (m)) := cel hc5
  have g5x2 : w5.cell? ⟨w1.heap.size, 2, none⟩ = some (.bool (l)) := cel hc5
  have g5x3 : w5.cell? ⟨w1.heap.size, 3, none⟩ = some (.int .i64 (d)) := cel hc5
  have g5x4 : w5.cell? ⟨w2.heap.size, 0, none⟩ = some (.int .i64 (cy)) := cel hc5
  have g5x5 : w5.cell? ⟨w2.heap.size, 1, none⟩ = some (.int .i64 (cm)) := cel hc5
  have g5x6 : w5.cell? ⟨w2.heap.size, 2, none⟩ = some (.int .i64 (cd)) := cel hc5
  go_wp2_with fail
  refine (HF.out _ bel).mono ?_
  rintro e w6 ⟨rfl, hb6⟩
  have hB6 : Below w.heap.size w w6 := bel
  have hZ6 := hB6.size
  obtain ⟨hc6, hf6⟩ := bcell hb6
  have hz6 := hb6.size
  try simp at hz6
  have hl6w1 : w1.heap.size < w6.heap.size := by omega
  have hm6w1 : w1.heap.size ≤ w6.heap.size := by omega
  have hl6w2 : w2.heap.size < w6.heap.size := by omega
  have hm6w2 : w2.heap.size ≤ w6.heap.size := by omega
  have hl6w5 : w5.heap.size < w6.heap.size := by omega
  have hm6w5 : w5.heap.size ≤ w6.heap.size := by omega
  have g6x0 : w6.cell? ⟨w1.heap.size, 0, none⟩ = some (.int .i64 (y)) := cel hc6
  have g6x1 : w6.cell? ⟨w1.heap.size, 1, none⟩ = some (.int .i64 (m)) := cel hc6
  have g6x2 : w6.cell? ⟨w1.heap.size, 2, none⟩ = some (.bool (l)) := cel hc6
  have g6x3 : w6.cell? ⟨w1.heap.size, 3, none⟩ = some (.int .i64 (d)) := cel hc6
  have g6x4 : w6.cell? ⟨w2.heap.size, 0, none⟩ = some (.int .i64 (cy)) := cel hc6
  have g6x5 : w6.cell? ⟨w2.heap.size, 1, none⟩ = some (.int .i64 (cm)) := cel hc6
  have g6x6 : w6.cell? ⟨w2.heap.size, 2, none⟩ = some (.int .i64 (cd)) := cel hc6
  have g6x7 : w6.cell? ⟨w5.heap.size, 0, none⟩ = some (.int .i64 (xy)) := cel hc6
  have g6x8 : w6.cell? ⟨w5.heap.size, 1, none⟩ = some (.int .i64 (xm)) := cel hc6
  have g6x9 : w6.cell? ⟨w5.heap.size, 2, none⟩ = some (.bool (xl)) := cel hc6
  have g6x10 : w6.cell? ⟨w5.heap.size, 3, none⟩ = some (.int .i64 (xd)) := cel hc6
  go_wp2_with fail
  refine (HW.out _ bel).mono ?_
  rintro e w7 ⟨rfl, hb7⟩
  have hB7 : Below w.heap.size w w7 := bel
  have hZ7 := hB7.size
  obtain ⟨hc7, hf7⟩ := bcell hb7
  have hz7 := hb7.size
  try simp at hz7
  have hl7w1 : w1.heap.size < w7.heap.size := by omega
  have hm7w1 : w1.heap.size ≤ w7.heap.size := by omega
  have hl7w2 : w2.heap.size < w7.heap.size := by omega
  have hm7w2 : w2.heap.size ≤ w7.heap.size := by omega
  have hl7w5 : w5.heap.size < w7.heap.size := by omega
  have hm7w5 : w5.heap.size ≤ w7.heap.size := by omega
  have hl7w6 : w6.heap.size < w7.heap.size := by omega
  have hm7w6 : w6.heap.size ≤ w7.heap.size := by omega
  have g7x0 : w7.cell? ⟨w1.heap.size, 0, none⟩ = some (.int .i64 (y)) := cel hc7
  have g7x1 : w7.cell? ⟨w1.heap.size, 1, none⟩ = some (.int .i64 (m)) := cel hc7
  have g7x2 : w7.cell? ⟨w1.heap.size, 2, none⟩ = some (.bool (l)) := cel hc7
  have g7x3 : w7.cell? ⟨w1.heap.size, 3, none⟩ = some (.int .i64 (d)) := cel hc7
  have g7x4 : w7.cell? ⟨w2.heap.size, 0, none⟩ = some (.int .i64 (cy)) := cel hc7
  have g7x5 : w7.cell? ⟨w2.heap.size, 1, none⟩ = some (.int .i64 (cm)) := cel hc7
  have g7x6 : w7.cell? ⟨w2.heap.size, 2, none⟩ = some (.int .i64 (cd)) := cel hc7
  have g7x7 : w7.cell? ⟨w5.heap.size, 0, none⟩ = some (.int .i64 (xy)) := cel hc7
  have g7x8 : w7.cell? ⟨w5.heap.size, 1, none⟩ = some (.int .i64 (xm)) := cel hc7
  have g7x9 : w7.cell? ⟨w5.heap.size, 2, none⟩ = some (.bool (xl)) := cel hc7
  have g7x10 : w7.cell? ⟨w5.heap.size, 3, none⟩ = some (.int .i64 (xd)) := cel hc7
  have g7x11 : w7.cell? ⟨w6.heap.size, 0, none⟩ = some (.int .i64 (xy)) := cel hc7
  have g7x12 : w7.cell? ⟨w6.heap.size, 1, none⟩ = some (.int .i64 (xm)) := cel hc7
  have g7x13 : w7.cell? ⟨w6.heap.size, 2, none⟩ = some (.bool (xl)) := cel hc7
  have g7x14 : w7.cell? ⟨w6.heap.size, 3, none⟩ = some (.int .i64 (xd)) := cel hc7
  go_wp2_with fail
  refine (HG.out _ bel).mono ?_
  rintro e w8 ⟨rfl, hb8⟩
  have hB8 : Below w.heap.size w w8 := bel
  have hZ8 := hB8.size
  obtain ⟨hc8, hf8⟩ := bcell hb8
  have hz8 := hb8.size
  try simp at hz8
  have hl8w1 : w1.heap.size < w8.heap.size := by omega
  have hm8w1 : w1.heap.size ≤ w8.heap.size := by omega
  have hl8w2 : w2.heap.size < w8.heap.size := by omega
  have hm8w2 : w2.heap.size ≤ w8.heap.size := by omega
  have hl8w5 : w5.heap.size < w8.heap.size := by omega
  have hm8w5 : w5.heap.size ≤ w8.heap.size := by omega
  have hl8w6 : w6.heap.size < w8.heap.size := by omega
  have hm8w6 : w6.heap.size ≤ w8.heap.size := by omega
  have g8x0 : w8.cell? ⟨w1.heap.size, 0, none⟩ = some (.int .i64 (y)) := cel hc8
  have g8x1 : w8.cell? ⟨w1.heap.size, 1, none⟩ = some (.int .i64 (m)) := cel hc8
  have g8x2 : w8.cell? ⟨w1.heap.size, 2, none⟩ = some (.bool (l)) := cel hc8
  have g8x3 : w8.cell? ⟨w1.heap.size, 3, none⟩ = some (.int .i64 (d)) := cel hc8
  have g8x4 : w8.cell? ⟨w2.heap.size, 0, none⟩ = some (.int .i64 (cy)) := cel hc8
  have g8x5 : w8.cell? ⟨w2.heap.size, 1, none⟩ = some (.int .i64 (cm)) := cel hc8
  have g8x6 : w8.cell? ⟨w2.heap.size, 2, none⟩ = some (.int .i64 (cd)) := cel hc8
  have g8x7 : w8.cell? ⟨w5.heap.size, 0, none⟩ = some (.int .i64 (xy)) := cel hc8
  have g8x8 : w8.cell? ⟨w5.heap.size, 1, none⟩ = some (.int .i64 (xm)) := cel hc8
  have g8x9 : w8.cell? ⟨w5.heap.size, 2, none⟩ = some (.bool (xl)) := cel hc8
  have g8x10 : w8.cell? ⟨w5.heap.size, 3, none⟩ = some (.int .i64 (xd)) := cel hc8
  have g8x11 : w8.cell? ⟨w6.heap.size, 0, none⟩ = some (.int .i64 (xy)) := cel hc8
  have g8x12 : w8.cell? ⟨w6.heap.size, 1, none⟩ = some (.int .i64 (xm)) := cel hc8
  have g8x13 : w8.cell? ⟨w6.heap.size, 2, none⟩ = some (.bool (xl)) := cel hc8
  have g8x14 : w8.cell? ⟨w6.heap.size, 3, none⟩ = some (.int .i64 (xd)) := cel hc8
  go_wp2_with fail
  go_ret
  refine ⟨by first | rfl | (simp [*]; done), ?_⟩
  exact bel
end Go.Proofs.YtaaaalbgjpjgoaaGreatDoor
