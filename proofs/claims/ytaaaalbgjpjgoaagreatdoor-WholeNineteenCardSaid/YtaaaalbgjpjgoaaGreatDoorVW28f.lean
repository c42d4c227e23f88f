/- Through the layers: WholeYears, by the contracts of its calls. -/
import Derived.Test.YtaaaalbgjpjgoaaGreatDoorVW28k
set_option linter.unusedVariables false
set_option linter.unusedSimpArgs false
set_option maxRecDepth 100000
namespace Go.Proofs.YtaaaalbgjpjgoaaGreatDoor
open Go.ChangeShapes Go.WideShapes Go.ChangeAt Go.RowKit Go.Lib
set_option maxHeartbeats 4000000 in
theorem WholeYears_0f (y a b md mp nm : Int) (hy : 0 ≤ y ∧ y ≤ 65535) (ha : -7300000 ≤ a ∧ a ≤ 4600002) (g1 : (b != 0) = true) (g2 : (b != 3) = true) (g3 : (b != 5) = true) (hm : md ≤ a ∧ a - md ≤ 2) (hn : 1 ≤ nm) (w : World)
    (HA : Hid (∀ W : World, Below w.heap.size w W → Calls Tryo.prog 27 #[.int .i64 (1 + y % 9999)] W fun e w' => e = .returned (.tuple #[.int .i64 a, .int .i64 0]) ∧ Below W.heap.size W w'))
    (HC : Hid (∀ W : World, Below w.heap.size w W → Calls Tryo.prog 28 #[.int .i64 (1 + y % 9999)] W fun e w' => e = .returned (.tuple #[.int .i64 a, .int .i64 0]) ∧ Below W.heap.size W w'))
    (HN : Hid (∀ W : World, Below w.heap.size w W → Calls Tryo.prog 29 #[.int .i64 (1 + y % 9999)] W fun e w' => e = .returned (.tuple #[.int .i64 353, .int .i64 0]) ∧ Below W.heap.size W w'))
    (HO : Hid (∀ W : World, Below w.heap.size w W → Calls Tryo.prog 30 #[.int .i64 (1 + y % 9999)] W fun e w' => e = .returned (.tuple #[.agg #[.int .i64 (b), .int .i64 (0), .bool (false)], .int .i64 0]) ∧ Below W.heap.size W w'))
    (HL : Hid (∀ W : World, Below w.heap.size w W → Calls Tryo.prog 31 #[.int .i64 (1 + y % 9999)] W fun e w' => e = .returned (.tuple #[.bool false, .int .i64 0]) ∧ Below W.heap.size W w'))
    (HM : Hid (∀ W : World, Below w.heap.size w W → Calls Tryo.prog 32 #[.int .i64 (1 + y % 9999), .int .i64 1] W fun e w' => e = .returned (.tuple #[.agg #[.int .i64 (md), .int .i64 (mp)], .int .i64 0]) ∧ Below W.heap.size W w'))
    (HD : Hid (∀ W : World, Below w.heap.size w W → Calls Tryo.prog 33 #[.int .i64 a] W fun e w' => e = .returned (.int .i64 b) ∧ Below W.heap.size W w'))
    (HU : Hid (∀ W : World, Below w.heap.size w W → Calls Tryo.prog 35 #[.agg #[.int .i64 (b), .int .i64 (0), .bool (false)]] W fun e w' => e = .returned (.int .i64 nm) ∧ Below W.heap.size W w'))
    (H2 : Hid (∀ W : World, Below w.heap.size w W → Calls Tryo.prog 36 #[.agg #[.int .i64 (b), .int .i64 (0), .bool (false)], .int .i64 2] W fun e w' => e = .returned (.int .i64 29) ∧ Below W.heap.size W w'))
    (H3 : Hid (∀ W : World, Below w.heap.size w W → Calls Tryo.prog 36 #[.agg #[.int .i64 (b), .int .i64 (0), .bool (false)], .int .i64 3] W fun e w' => e = .returned (.int .i64 29) ∧ Below W.heap.size W w'))
    (HW : Hid (∀ W : World, Below w.heap.size w W → Calls Tryo.prog 34 #[] W fun e w' => e = .returned (.bool true) ∧ Below W.heap.size W w')) :
    Calls Tryo.prog 5 #[.int .u16 y] w fun e w' => e = .returned (.bool true) ∧ Below w.heap.size w w' := by
  have HY := Lib.hid (fun w => top_year y hy w)
  obtain ⟨y1, y2⟩ := hy
  have k1 := Int.emod_nonneg y (show (9999 : Int) ≠ 0 by decide)
  have k2 := Int.emod_lt_of_pos y (show (0 : Int) < 9999 by decide)
  obtain ⟨a1, a2⟩ := ha
  obtain ⟨m1, m2⟩ := hm
  have e1 : wrap64 (a - md) = a - md := IntWalk.wrap64_in _ ⟨by omega, by omega⟩
  go_enter Tryo.func5, Tryz.ntmps5
  go_wp2_with fail
  refine (HY.out _).mono ?_
  rintro e w' ⟨rfl, rfl⟩
  go_wp2_with fail
  refine (HA.out _ bel).mono ?_
  rintro e w1 ⟨rfl, hb1⟩
  have hB1 : Below w.heap.size w w1 := bel
  have hZ1 := hB1.size
  obtain ⟨hc1, hf1⟩ := bcell hb1
  have hz1 := hb1.size
  try simp at hz1
  go_wp2_with fail
  refine (HC.out _ bel).mono ?_
  rintro e w2 ⟨rfl, hb2⟩
  have hB2 : Below w.heap.size w w2 := bel
  have hZ2 := hB2.size
  obtain ⟨hc2, hf2⟩ := bcell hb2
  have hz2 := hb2.size
  try simp at hz2
  go_wp2_with fail
  refine (HN.out _ bel).mono ?_
  rintro e w3 ⟨rfl, hb3⟩
  have hB3 : Below w.heap.size w w3 := bel
  have hZ3 := hB3.size
  obtain ⟨hc3, hf3⟩ := bcell hb3
  have hz3 := hb3.size
  try simp at hz3
  go_wp2_with fail
  refine (HO.out _ bel).mono ?_
  rintro e w4 ⟨rfl, hb4⟩
  have hB4 : Below w.heap.size w w4 := bel
  have hZ4 := hB4.size
  obtain ⟨hc4, hf4⟩ := bcell hb4
  have hz4 := hb4.size
  try simp at hz4
  go_wp2_with fail
  refine (HL.out _ bel).mono ?_
  rintro e w5 ⟨rfl, hb5⟩
  have hB5 : Below w.heap.size w w5 := bel
  have hZ5 := hB5.size
  obtain ⟨hc5, hf5⟩ := bcell hb5
  have hz5 := hb5.size
  try simp at hz5
  have hl5w4 : w4.heap.size < w5.heap.size := by omega
  have hm5w4 : w4.heap.size ≤ w5.heap.size := by omega
  have g5x0 : w5.cell? ⟨w4.heap.size, 0, none⟩ = some (.int .i64 (b)) := cel hc5
  have g5x1 : w5.cell? ⟨w4.heap.size, 1, none⟩ = some (.int .i64 (0)) := cel hc5
  have g5x2 : w5.cell? ⟨w4.heap.size, 2, none⟩ = some (.bool (false)) := cel hc5
  go_wp2_with fail
  refine (HM.out _ bel).mono ?_
  rintro e w6 ⟨rfl, hb6⟩
  have hB6 : Below w.heap.size w w6 := bel
  have hZ6 := hB6.size
  obtain ⟨hc6, hf6⟩ := bcell hb6
  have hz6 := hb6.size
  try simp at hz6
  have hl6w4 : w4.heap.size < w6.heap.size := by omega
  have hm6w4 : w4.heap.size ≤ w6.heap.size := by omega
  have g6x0 : w6.cell? ⟨w4.heap.size, 0, none⟩ = some (.int .i64 (b)) := cel hc6
  have g6x1 : w6.cell? ⟨w4.heap.size, 1, none⟩ = some (.int .i64 (0)) := cel hc6
  have g6x2 : w6.cell? ⟨w4.heap.size, 2, none⟩ = some (.bool (false)) := cel hc6
  go_wp2_with fail
  refine (HD.out _ bel).mono ?_
  rintro e w7 ⟨rfl, hb7⟩
  have hB7 : Below w.heap.size w w7 := bel
  have hZ7 := hB7.size
  obtain ⟨hc7, hf7⟩ := bcell hb7
  have hz7 := hb7.size
  try simp at hz7
  have hl7w4 : w4.heap.size < w7.heap.size := by omega
  have hm7w4 : w4.heap.size ≤ w7.heap.size := by omega
  have hl7w6 : w6.heap.size < w7.heap.size := by omega
  have hm7w6 : w6.heap.size ≤ w7.heap.size := by omega
  have g7x0 : w7.cell? ⟨w4.heap.size, 0, none⟩ = some (.int .i64 (b)) := cel hc7
  have g7x1 : w7.cell? ⟨w4.heap.size, 1, none⟩ = some (.int .i64 (0)) := cel hc7
  have g7x2 : w7.cell? ⟨w4.heap.size, 2, none⟩ = some (.bool (false)) := cel hc7
  have g7x3 : w7.cell? ⟨w6.heap.size, 0, none⟩ = some (.int .i64 (md)) := cel hc7
  have g7x4 : w7.cell? ⟨w6.heap.size, 1, none⟩ = some (.int .i64 (mp)) := cel hc7
  go_wp2_with fail
  refine (HW.out _ bel).mono ?_
  rintro e w8 ⟨rfl, hb8⟩
  have hB8 : Below w.heap.size w w8 := bel
  have hZ8 := hB8.size
  obtain ⟨hc8, hf8⟩ := bcell hb8
  have hz8 := hb8.size
  try simp at hz8
  have hl8w4 : w4.heap.size < w8.heap.size := by omega
  have hm8w4 : w4.heap.size ≤ w8.heap.size := by omega
  have hl8w6 : w6.heap.size < w8.heap.size := by omega
  have hm8w6 : w6.heap.size ≤ w8.heap.size := by omega
  have g8x0 : w8.cell? ⟨w4.heap.size, 0, none⟩ = some (.int .i64 (b)) := cel hc8
  have g8x1 : w8.cell? ⟨w4.heap.size, 1, none⟩ = some (.int .i64 (0)) := cel hc8
  have g8x2 : w8.cell? ⟨w4.heap.size, 2, none⟩ = some (.bool (false)) := cel hc8
  have g8x3 : w8.cell? ⟨w6.heap.size, 0, none⟩ = some (.int .i64 (md)) := cel hc8
  have g8x4 : w8.cell? ⟨w6.heap.size, 1, none⟩ = some (.int .i64 (mp)) := cel hc8
  go_wp2_with fail
  refine (HU.out _ bel).mono ?_
  rintro e w9 ⟨rfl, hb9⟩
  have hB9 : Below w.heap.size w w9 := bel
  have hZ9 := hB9.size
  obtain ⟨hc9, hf9⟩ := bcell hb9
  have hz9 := hb9.size
  try simp at hz9
  have hl9w4 : w4.heap.size < w9.heap.size := by omega
  have hm9w4 : w4.heap.size ≤ w9.heap.size := by omega
  have hl9w6 : w6.heap.size < w9.heap.size := by omega
  have hm9w6 : w6.heap.size ≤ w9.heap.size := by omega
  have g9x0 : w9.cell? ⟨w4.heap.size, 0, none⟩ = some (.int .i64 (b)) := cel hc9
  have g9x1 : w9.cell? ⟨w4.heap.size, 1, none⟩ = some (.int .i64 (0)) := cel hc9
  have g9x2 : w9.cell? ⟨w4.heap.size, 2, none⟩ = some (.bool (false)) := cel hc9
  have g9x3 : w9.cell? ⟨w6.heap.size, 0, none⟩ = some (.int .i64 (md)) := cel hc9
  have g9x4 : w9.cell? ⟨w6.heap.size, 1, none⟩ = some (.int .i64 (mp)) := cel hc9
  go_wp2_with fail
  refine (H2.out _ bel).mono ?_
  rintro e w10 ⟨rfl, hb10⟩
  have hB10 : Below w.heap.size w w10 := bel
  have hZ10 := hB10.size
  obtain ⟨hc10, hf10⟩ := bcell hb10
  have hz10 := hb10.size
  try simp at hz10
  have hl10w4 : w4.heap.size < w10.heap.size := by omega
  have hm10w4 : w4.heap.size ≤ w10.heap.size := by omega
  have hl10w6 : w6.heap.size < w10.heap.size := by omega
  have hm10w6 : w6.heap.size ≤ w10.heap.size := by omega
  have g10x0 : w10.cell? ⟨w4.heap.size, 0, none⟩ = some (.int .i64 (b)) := cel hc10
  have g10x1 : w10.cell? ⟨w4.heap.size, 1, none⟩ = some (.int .i64 (0)) := cel hc10
  have g10x2 : w10.cell? ⟨w4.heap.size, 2, none⟩ = some (.bool (false)) := cel hc10
  have g10x3 : w10.cell? ⟨w6.heap.size, 0, none⟩ = some (.int .i64 (md)) := cel hc10
  have g10x4 : w10.cell? ⟨w6.heap.size, 1, none⟩ = some (.int .i64 (mp)) := cel hc10
  go_wp2_with fail
  refine (H3.out _ bel).mono ?_
  rintro e w11 ⟨rfl, hb11⟩
  have hB11 : Below w.heap.size w w11 := bel
  have hZ11 := hB11.size
  obtain ⟨hc11, hf11⟩ := bcell hb11
  have hz11 := hb11.size
  try simp at hz11
  have hl11w4 : w4.heap.size < w11.heap.size := by omega
  have hm11w4 : w4.heap.size ≤ w11.heap.size := by omega
  have hl11w6 : w6.heap.size < w11.heap.size := by omega
  have hm11w6 : w6.heap.size ≤ w11.heap.size := by omega
  have g11x0 : w11.cell? ⟨w4.heap.size, 0, none⟩ = some (.int .i64 (b)) := cel hc11
  have g11x1 : w11.cell? ⟨w4.heap.size, 1, none⟩ = some (.int .i64 (0)) := cel hc11
  have g11x2 : w11.cell? ⟨w4.heap.size, 2, none⟩ = some (.bool (false)) := cel hc11
  have g11x3 : w11.cell? ⟨w6.heap.size, 0, none⟩ = some (.int .i64 (md)) := cel hc11
  have g11x4 : w11.cell? ⟨w6.heap.size, 1, none⟩ = some (.int .i64 (mp)) := cel hc11
  go_wp2_with fail
  go_ret
  refine ⟨by first | rfl | (simp [*]; done), ?_⟩
  exact bel
set_option maxHeartbeats 4000000 in
theorem WholeYears_1f (y a b md mp nm : Int) (hy : 0 ≤ y ∧ y ≤ 65535) (ha : -7300000 ≤ a ∧ a ≤ 4600002) (g1 : (b != 0) = true) (g2 : (b != 3) = true) (g3 : (b != 5) = true) (hm : md ≤ a ∧ a - md ≤ 2) (hn : 1 ≤ nm) (w : World)
    (HA : Hid (∀ W : World, Below w.heap.size w W → Calls Tryo.prog 27 #[.int .i64 (1 + y % 9999)] W fun e w' => e = .returned (.tuple #[.int .i64 a, .int .i64 0]) ∧ Below W.heap.size W w'))
    (HC : Hid (∀ W : World, Below w.heap.size w W → Calls Tryo.prog 28 #[.int .i64 (1 + y % 9999)] W fun e w' => e = .returned (.tuple #[.int .i64 a, .int .i64 0]) ∧ Below W.heap.size W w'))
    (HN : Hid (∀ W : World, Below w.heap.size w W → Calls Tryo.prog 29 #[.int .i64 (1 + y % 9999)] W fun e w' => e = .returned (.tuple #[.int .i64 354, .int .i64 0]) ∧ Below W.heap.size W w'))
    (HO : Hid (∀ W : World, Below w.heap.size w W → Calls Tryo.prog 30 #[.int .i64 (1 + y % 9999)] W fun e w' => e = .returned (.tuple #[.agg #[.int .i64 (b), .int .i64 (1), .bool (false)], .int .i64 0]) ∧ Below W.heap.size W w'))
    (HL : Hid (∀ W : World, Below w.heap.size w W → Calls Tryo.prog 31 #[.int .i64 (1 + y % 9999)] W fun e w' => e = .returned (.tuple #[.bool false, .int .i64 0]) ∧ Below W.heap.size W w'))
    (HM : Hid (∀ W : World, Below w.heap.size w W → Calls Tryo.prog 32 #[.int .i64 (1 + y % 9999), .int .i64 1] W fun e w' => e = .returned (.tuple #[.agg #[.int .i64 (md), .int .i64 (mp)], .int .i64 0]) ∧ Below W.heap.size W w'))
    (HD : Hid (∀ W : World, Below w.heap.size w W → Calls Tryo.prog 33 #[.int .i64 a] W fun e w' => e = .returned (.int .i64 b) ∧ Below W.heap.size W w'))
    (HU : Hid (∀ W : World, Below w.heap.size w W → Calls Tryo.prog 35 #[.agg #[.int .i64 (b), .int .i64 (1), .bool (false)]] W fun e w' => e = .returned (.int .i64 nm) ∧ Below W.heap.size W w'))
    (H2 : Hid (∀ W : World, Below w.heap.size w W → Calls Tryo.prog 36 #[.agg #[.int .i64 (b), .int .i64 (1), .bool (false)], .int .i64 2] W fun e w' => e = .returned (.int .i64 29) ∧ Below W.heap.size W w'))
    (H3 : Hid (∀ W : World, Below w.heap.size w W → Calls Tryo.prog 36 #[.agg #[.int .i64 (b), .int .i64 (1), .bool (false)], .int .i64 3] W fun e w' => e = .returned (.int .i64 30) ∧ Below W.heap.size W w'))
    (HW : Hid (∀ W : World, Below w.heap.size w W → Calls Tryo.prog 34 #[] W fun e w' => e = .returned (.bool true) ∧ Below W.heap.size W w')) :
    Calls Tryo.prog 5 #[.int .u16 y] w fun e w' => e = .returned (.bool true) ∧ Below w.heap.size w w' := by
  have HY := Lib.hid (fun w => top_year y hy w)
  obtain ⟨y1, y2⟩ := hy
  have k1 := Int.emod_nonneg y (show (9999 : Int) ≠ 0 by decide)
  have k2 := Int.emod_lt_of_pos y (show (0 : Int) < 9999 by decide)
  obtain ⟨a1, a2⟩ := ha
  obtain ⟨m1, m2⟩ := hm
  have e1 : wrap64 (a - md) = a - md := IntWalk.wrap64_in _ ⟨by omega, by omega⟩
  go_enter Tryo.func5, Tryz.ntmps5
  go_wp2_with fail
  refine (HY.out _).mono ?_
  rintro e w' ⟨rfl, rfl⟩
  go_wp2_with fail
  refine (HA.out _ bel).mono ?_
  rintro e w1 ⟨rfl, hb1⟩
  have hB1 : Below w.heap.size w w1 := bel
  have hZ1 := hB1.size
  obtain ⟨hc1, hf1⟩ := bcell hb1
  have hz1 := hb1.size
  try simp at hz1
  go_wp2_with fail
  refine (HC.out _ bel).mono ?_
  rintro e w2 ⟨rfl, hb2⟩
  have hB2 : Below w.heap.size w w2 := bel
  have hZ2 := hB2.size
  obtain ⟨hc2, hf2⟩ := bcell hb2
  have hz2 := hb2.size
  try simp at hz2
  go_wp2_with fail
  refine (HN.out _ bel).mono ?_
  rintro e w3 ⟨rfl, hb3⟩
  have hB3 : Below w.heap.size w w3 := bel
  have hZ3 := hB3.size
  obtain ⟨hc3, hf3⟩ := bcell hb3
  have hz3 := hb3.size
  try simp at hz3
  go_wp2_with fail
  refine (HO.out _ bel).mono ?_
  rintro e w4 ⟨rfl, hb4⟩
  have hB4 : Below w.heap.size w w4 := bel
  have hZ4 := hB4.size
  obtain ⟨hc4, hf4⟩ := bcell hb4
  have hz4 := hb4.size
  try simp at hz4
  go_wp2_with fail
  refine (HL.out _ bel).mono ?_
  rintro e w5 ⟨rfl, hb5⟩
  have hB5 : Below w.heap.size w w5 := bel
  have hZ5 := hB5.size
  obtain ⟨hc5, hf5⟩ := bcell hb5
  have hz5 := hb5.size
  try simp at hz5
  have hl5w4 : w4.heap.size < w5.heap.size := by omega
  have hm5w4 : w4.heap.size ≤ w5.heap.size := by omega
  have g5x0 : w5.cell? ⟨w4.heap.size, 0, none⟩ = some (.int .i64 (b)) := cel hc5
  have g5x1 : w5.cell? ⟨w4.heap.size, 1, none⟩ = some (.int .i64 (1)) := cel hc5
  have g5x2 : w5.cell? ⟨w4.heap.size, 2, none⟩ = some (.bool (false)) := cel hc5
  go_wp2_with fail
  refine (HM.out _ bel).mono ?_
  rintro e w6 ⟨rfl, hb6⟩
  have hB6 : Below w.heap.size w w6 := bel
  have hZ6 := hB6.size
  obtain ⟨hc6, hf6⟩ := bcell hb6
  have hz6 := hb6.size
  try simp at hz6
  have hl6w4 : w4.heap.size < w6.heap.size := by omega
  have hm6w4 : w4.heap.size ≤ w6.heap.size := by omega
  have g6x0 : w6.cell? ⟨w4.heap.size, 0, none⟩ = some (.int .i64 (b)) := cel hc6
  have g6x1 : w6.cell? ⟨w4.heap.size, 1, none⟩ = some (.int .i64 (1)) := cel hc6
  have g6x2 : w6.cell? ⟨w4.heap.size, 2, none⟩ = some (.bool (false)) := cel hc6
  go_wp2_with fail
  refine (HD.out _ bel).mono ?_
  rintro e w7 ⟨rfl, hb7⟩
  have hB7 : Below w.heap.size w w7 := bel
  have hZ7 := hB7.size
  obtain ⟨hc7, hf7⟩ := bcell hb7
  have hz7 := hb7.size
  try simp at hz7
  have hl7w4 : w4.heap.size < w7.heap.size := by omega
  have hm7w4 : w4.heap.size ≤ w7.heap.size := by omega
  have hl7w6 : w6.heap.size < w7.heap.size := by omega
  have hm7w6 : w6.heap.size ≤ w7.heap.size := by omega
  have g7x0 : w7.cell? ⟨w4.heap.size, 0, none⟩ = some (.int .i64 (b)) := cel hc7
  have g7x1 : w7.cell? ⟨w4.heap.size, 1, none⟩ = some (.int .i64 (1)) := cel hc7
  have g7x2 : w7.cell? ⟨w4.heap.size, 2, none⟩ = some (.bool (false)) := cel hc7
  have g7x3 : w7.cell? ⟨w6.heap.size, 0, none⟩ = some (.int .i64 (md)) := cel hc7
  have g7x4 : w7.cell? ⟨w6.heap.size, 1, none⟩ = some (.int .i64 (mp)) := cel hc7
  go_wp2_with fail
  refine (HW.out _ bel).mono ?_
  rintro e w8 ⟨rfl, hb8⟩
  have hB8 : Below w.heap.size w w8 := bel
  have hZ8 := hB8.size
  obtain ⟨hc8, hf8⟩ := bcell hb8
  have hz8 := hb8.size
  try simp at hz8
  have hl8w4 : w4.heap.size < w8.heap.size := by omega
  have hm8w4 : w4.heap.size ≤ w8.heap.size := by omega
  have hl8w6 : w6.heap.size < w8.heap.size := by omega
  have hm8w6 : w6.heap.size ≤ w8.heap.size := by omega
  have g8x0 : w8.cell? ⟨w4.heap.size, 0, none⟩ = some (.int .i64 (b)) := cel hc8
  have g8x1 : w8.cell? ⟨w4.heap.size, 1, none⟩ = some (.int .i64 (1)) := cel hc8
  have g8x2 : w8.cell? ⟨w4.heap.size, 2, none⟩ = some (.bool (false)) := cel hc8
  have g8x3 : w8.cell? ⟨w6.heap.size, 0, none⟩ = some (.int .i64 (md)) := cel hc8
  have g8x4 : w8.cell? ⟨w6.heap.size, 1, none⟩ = some (.int .i64 (mp)) := cel hc8
  go_wp2_with fail
  refine (HU.out _ bel).mono ?_
  rintro e w9 ⟨rfl, hb9⟩
  have hB9 : Below w.heap.size w w9 := bel
  have hZ9 := hB9.size
  obtain ⟨hc9, hf9⟩ := bcell hb9
  have hz9 := hb9.size
  try simp at hz9
  have hl9w4 : w4.heap.size < w9.heap.size := by omega
  have hm9w4 : w4.heap.size ≤ w9.heap.size := by omega
  have hl9w6 : w6.heap.size < w9.heap.size := by omega
  have hm9w6 : w6.heap.size ≤ w9.heap.size := by omega
  have g9x0 : w9.cell? ⟨w4.heap.size, 0, none⟩ = some (.int .i64 (b)) := cel hc9
  have g9x1 : w9.cell? ⟨w4.heap.size, 1, none⟩ = some (.int .i64 (1)) := cel hc9
  have g9x2 : w9.cell? ⟨w4.heap.size, 2, none⟩ = some (.bool (false)) := cel hc9
  have g9x3 : w9.cell? ⟨w6.heap.size, 0, none⟩ = some (.int .i64 (md)) := cel hc9
  have g9x4 : w9.cell? ⟨w6.heap.size, 1, none⟩ = some (.int .i64 (mp)) := cel hc9
  go_wp2_with fail
  refine (H2.out _ bel).mono ?_
  rintro e w10 ⟨rfl, hb10⟩
  have hB10 : Below w.heap.size w w10 := bel
  have hZ10 := hB10.size
  obtain ⟨hc10, hf10⟩ := bcell hb10
  have hz10 := hb10.size
  try simp at hz10
  have hl10w4 : w4.heap.size < w10.heap.size := by omega
  have hm10w4 : w4.heap.size ≤ w10.heap.size := by omega
  have hl10w6 : w6.heap.size < w10.heap.size := by omega
  have hm10w6 : w6.heap.size ≤ w10.heap.size := by omega
  have g10x0 : w10.cell? ⟨w4.heap.size, 0, none⟩ = some (.int .i64 (b)) := cel hc10
  have g10x1 : w10.cell? ⟨w4.heap.size, 1, none⟩ = some (.int .i64 (1)) := cel hc10
  have g10x2 : w10.cell? ⟨w4.heap.size, 2, none⟩ = some (.bool (false)) := cel hc10
  have g10x3 : w10.cell? ⟨w6.heap.size, 0, none⟩ = some (.int .i64 (md)) := cel hc10
  have g10x4 : w10.cell? ⟨w6.heap.size, 1, none⟩ = some (.int .i64 (mp)) := cel hc10
  go_wp2_with fail
  refine (H3.out _ bel).mono ?_
  rintro e w11 ⟨rfl, hb11⟩
  have hB11 : Below w.heap.size w w11 := bel
  have hZ11 := hB11.size
  obtain ⟨hc11, hf11⟩ := bcell hb11
  have hz11 := hb11.size
  try simp at hz11
  have hl11w4 : w4.heap.size < w11.heap.size := by omega
  have hm11w4 : w4.heap.size ≤ w11.heap.size := by omega
  have hl11w6 : w6.heap.size < w11.heap.size := by omega
  have hm11w6 : w6.heap.size ≤ w11.heap.size := by omega
  have g11x0 : w11.cell? ⟨w4.heap.size, 0, none⟩ = some (.int .i64 (b)) := cel hc11
  have g11x1 : w11.cell? ⟨w4.heap.size, 1, none⟩ = some (.int .i64 (1)) := cel hc11
  have g11x2 : w11.cell? ⟨w4.heap.size, 2, none⟩ = some (.bool (false)) := cel hc11
  have g11x3 : w11.cell? ⟨w6.heap.size, 0, none⟩ = some (.int .i64 (md)) := cel hc11
  have g11x4 : w11.cell? ⟨w6.heap.size, 1, none⟩ = some (.int .i64 (mp)) := cel hc11
  go_wp2_with fail
  go_ret
  refine ⟨by first | rfl | (simp [*]; done), ?_⟩
  exact bel
set_option maxHeartbeats 4000000 in
theorem WholeYears_2f (y a b md mp nm : Int) (hy : 0 ≤ y ∧ y ≤ 65535) (ha : -7300000 ≤ a ∧ a ≤ 4600002) (g1 : (b != 0) = true) (g2 : (b != 3) = true) (g3 : (b != 5) = true) (hm : md ≤ a ∧ a - md ≤ 2) (hn : 1 ≤ nm) (w : World)
    (HA : Hid (∀ W : World, Below w.heap.size w W → Calls Tryo.prog 27 #[.int .i64 (1 + y % 9999)] W fun e w' => e = .returned (.tuple #[.int .i64 a, .int .i64 0]) ∧ Below W.heap.size W w'))
    (HC : Hid (∀ W : World, Below w.heap.size w W → Calls Tryo.prog 28 #[.int .i64 (1 + y % 9999)] W fun e w' => e = .returned (.tuple #[.int .i64 a, .int .i64 0]) ∧ Below W.heap.size W w'))
    (HN : Hid (∀ W : World, Below w.heap.size w W → Calls Tryo.prog 29 #[.int .i64 (1 + y % 9999)] W fun e w' => e = .returned (.tuple #[.int .i64 355, .int .i64 0]) ∧ Below W.heap.size W w'))
    (HO : Hid (∀ W : World, Below w.heap.size w W → Calls Tryo.prog 30 #[.int .i64 (1 + y % 9999)] W fun e w' => e = .returned (.tuple #[.agg #[.int .i64 (b), .int .i64 (2), .bool (false)], .int .i64 0]) ∧ Below W.heap.size W w'))
    (HL : Hid (∀ W : World, Below w.heap.size w W → Calls Tryo.prog 31 #[.int .i64 (1 + y % 9999)] W fun e w' => e = .returned (.tuple #[.bool false, .int .i64 0]) ∧ Below W.heap.size W w'))
    (HM : Hid (∀ W : World, Below w.heap.size w W → Calls Tryo.prog 32 #[.int .i64 (1 + y % 9999), .int .i64 1] W fun e w' => e = .returned (.tuple #[.agg #[.int .i64 (md), .int .i64 (mp)], .int .i64 0]) ∧ Below W.heap.size W w'))
    (HD : Hid (∀ W : World, Below w.heap.size w W → Calls Tryo.prog 33 #[.int .i64 a] W fun e w' => e = .returned (.int .i64 b) ∧ Below W.heap.size W w'))
    (HU : Hid (∀ W : World, Below w.heap.size w W → Calls Tryo.prog 35 #[.agg #[.int .i64 (b), .int .i64 (2), .bool (false)]] W fun e w' => e = .returned (.int .i64 nm) ∧ Below W.heap.size W w'))
    (H2 : Hid (∀ W : World, Below w.heap.size w W → Calls Tryo.prog 36 #[.agg #[.int .i64 (b), .int .i64 (2), .bool (false)], .int .i64 2] W fun e w' => e = .returned (.int .i64 30) ∧ Below W.heap.size W w'))
    (H3 : Hid (∀ W : World, Below w.heap.size w W → Calls Tryo.prog 36 #[.agg #[.int .i64 (b), .int .i64 (2), .bool (false)], .int .i64 3] W fun e w' => e = .returned (.int .i64 30) ∧ Below W.heap.size W w'))
    (HW : Hid (∀ W : World, Below w.heap.size w W → Calls Tryo.prog 34 #[] W fun e w' => e = .returned (.bool true) ∧ Below W.heap.size W w')) :
    Calls Tryo.prog 5 #[.int .u16 y] w fun e w' => e = .returned (.bool true) ∧ Below w.heap.size w w' := by
  have HY := Lib.hid (fun w => top_year y hy w)
  obtain ⟨y1, y2⟩ := hy
  have k1 := Int.emod_nonneg y (show (9999 : Int) ≠ 0 by decide)
  have k2 := Int.emod_lt_of_pos y (show (0 : Int) < 9999 by decide)
  obtain ⟨a1, a2⟩ := ha
  obtain ⟨m1, m2⟩ := hm
  have e1 : wrap64 (a - md) = a - md := IntWalk.wrap64_in _ ⟨by omega, by omega⟩
  go_enter Tryo.func5, Tryz.ntmps5
  go_wp2_with fail
  refine (HY.out _).mono ?_
  rintro e w' ⟨rfl, rfl⟩
  go_wp2_with fail
  refine (HA.out _ bel).mono ?_
  rintro e w1 ⟨rfl, hb1⟩
  have hB1 : Below w.heap.size w w1 := bel
  have hZ1 := hB1.size
  obtain ⟨hc1, hf1⟩ := bcell hb1
  have hz1 := hb1.size
  try simp at hz1
  go_wp2_with fail
  refine (HC.out _ bel).mono ?_
  rintro e w2 ⟨rfl, hb2⟩
  have hB2 : Below w.heap.size w w2 := bel
  have hZ2 := hB2.size
  obtain ⟨hc2, hf2⟩ := bcell hb2
  have hz2 := hb2.size
  try simp at hz2
  go_wp2_with fail
  refine (HN.out _ bel).mono ?_
  rintro e w3 ⟨rfl, hb3⟩
  have hB3 : Below w.heap.size w w3 := bel
  have hZ3 := hB3.size
  obtain ⟨hc3, hf3⟩ := bcell hb3
  have hz3 := hb3.size
  try simp at hz3
  go_wp2_with fail
  refine (HO.out _ bel).mono ?_
  rintro e w4 ⟨rfl, hb4⟩
  have hB4 : Below w.heap.size w w4 := bel
  have hZ4 := hB4.size
  obtain ⟨hc4, hf4⟩ := bcell hb4
  have hz4 := hb4.size
  try simp at hz4
  go_wp2_with fail
  refine (HL.out _ bel).mono ?_
  rintro e w5 ⟨rfl, hb5⟩
  have hB5 : Below w.heap.size w w5 := bel
  have hZ5 := hB5.size
  obtain ⟨hc5, hf5⟩ := bcell hb5
  have hz5 := hb5.size
  try simp at hz5
  have hl5w4 : w4.heap.size < w5.heap.size := by omega
  have hm5w4 : w4.heap.size ≤ w5.heap.size := by omega
  have g5x0 : w5.cell? ⟨w4.heap.size, 0, none⟩ = some (.int .i64 (b)) := cel hc5
  have g5x1 : w5.cell? ⟨w4.heap.size, 1, none⟩ = some (.int .i64 (2)) := cel hc5
  have g5x2 : w5.cell? ⟨w4.heap.size, 2, none⟩ = some (.bool (false)) := cel hc5
  go_wp2_with fail
  refine (HM.out _ bel).mono ?_
  rintro e w6 ⟨rfl, hb6⟩
  have hB6 : Below w.heap.size w w6 := bel
  have hZ6 := hB6.size
  obtain ⟨hc6, hf6⟩ := bcell hb6
  have hz6 := hb6.size
  try simp at hz6
  have hl6w4 : w4.heap.size < w6.heap.size := by omega
  have hm6w4 : w4.heap.size ≤ w6.heap.size := by omega
  have g6x0 : w6.cell? ⟨w4.heap.size, 0, none⟩ = some (.int .i64 (b)) := cel hc6
  have g6x1 : w6.cell? ⟨w4.heap.size, 1, none⟩ = some (.int .i64 (2)) := cel hc6
  have g6x2 : w6.cell? ⟨w4.heap.size, 2, none⟩ = some (.bool (false)) := cel hc6
  go_wp2_with fail
  refine (HD.out _ bel).mono ?_
  rintro e w7 ⟨rfl, hb7⟩
  have hB7 : Below w.heap.size w w7 := bel
  have hZ7 := hB7.size
  obtain ⟨hc7, hf7⟩ := bcell hb7
  have hz7 := hb7.size
  try simp at hz7
  have hl7w4 : w4.heap.size < w7.heap.size := by omega
  have hm7w4 : w4.heap.size ≤ w7.heap.size := by omega
  have hl7w6 : w6.heap.size < w7.heap.size := by omega
  have hm7w6 : w6.heap.size ≤ w7.heap.size := by omega
  have g7x0 : w7.cell? ⟨w4.heap.size, 0, none⟩ = some (.int .i64 (b)) := cel hc7
  have g7x1 : w7.cell? ⟨w4.heap.size, 1, none⟩ = some (.int .i64 (2)) := cel hc7
  have g7x2 : w7.cell? ⟨w4.heap.size, 2, none⟩ = some (.bool (false)) := cel hc7
  have g7x3 : w7.cell? ⟨w6.heap.size, 0, none⟩ = some (.int .i64 (md)) := cel hc7
  have g7x4 : w7.cell? ⟨w6.heap.size, 1, none⟩ = some (.int .i64 (mp)) := cel hc7
  go_wp2_with fail
  refine (HW.out _ bel).mono ?_
  rintro e w8 ⟨rfl, hb8⟩
  have hB8 : Below w.heap.size w w8 := bel
  have hZ8 := hB8.size
  obtain ⟨hc8, hf8⟩ := bcell hb8
  have hz8 := hb8.size
  try simp at hz8
  have hl8w4 : w4.heap.size < w8.heap.size := by omega
  have hm8w4 : w4.heap.size ≤ w8.heap.size := by omega
  have hl8w6 : w6.heap.size < w8.heap.size := by omega
  have hm8w6 : w6.heap.size ≤ w8.heap.size := by omega
  have g8x0 : w8.cell? ⟨w4.heap.size, 0, none⟩ = some (.int .i64 (b)) := cel hc8
  have g8x1 : w8.cell? ⟨w4.heap.size, 1, none⟩ = some (.int .i64 (2)) := cel hc8
  have g8x2 : w8.cell? ⟨w4.heap.size, 2, none⟩ = some (.bool (false)) := cel hc8
  have g8x3 : w8.cell? ⟨w6.heap.size, 0, none⟩ = some (.int .i64 (md)) := cel hc8
  have g8x4 : w8.cell? ⟨w6.heap.size, 1, none⟩ = some (.int .i64 (mp)) := cel hc8
  go_wp2_with fail
  refine (HU.out _ bel).mono ?_
  rintro e w9 ⟨rfl, hb9⟩
  have hB9 : Below w.heap.size w w9 := bel
  have hZ9 := hB9.size
  obtain ⟨hc9, hf9⟩ := bcell hb9
  have hz9 := hb9.size
  try simp at hz9
  have hl9w4 : w4.heap.size < w9.heap.size := by omega
  have hm9w4 : w4.heap.size ≤ w9.heap.size := by omega
  have hl9w6 : w6.heap.size < w9.heap.size := by omega
  have hm9w6 : w6.heap.size ≤ w9.heap.size := by omega
  have g9x0 : w9.cell? ⟨w4.heap.size, 0, none⟩ = some (.int .i64 (b)) := cel hc9
  have g9x1 : w9.cell? ⟨w4.heap.size, 1, none⟩ = some (.int .i64 (2)) := cel hc9
  have g9x2 : w9.cell? ⟨w4.heap.size, 2, none⟩ = some (.bool (false)) := cel hc9
  have g9x3 : w9.cell? ⟨w6.heap.size, 0, none⟩ = some (.int .i64 (md)) := cel hc9
  have g9x4 : w9.cell? ⟨w6.heap.size, 1, none⟩ = some (.int .i64 (mp)) := cel hc9
  go_wp2_with fail
  refine (H2.out _ bel).mono ?_
  rintro e w10 ⟨rfl, hb10⟩
  have hB10 : Below w.heap.size w w10 := bel
  have hZ10 := hB10.size
  obtain ⟨hc10, hf10⟩ := bcell hb10
  have hz10 := hb10.size
  try simp at hz10
  have hl10w4 : w4.heap.size < w10.heap.size := by omega
  have hm10w4 : w4.heap.size ≤ w10.heap.size := by omega
  have hl10w6 : w6.heap.size < w10.heap.size := by omega
  have hm10w6 : w6.heap.size ≤ w10.heap.size := by omega
  have g10x0 : w10.cell? ⟨w4.heap.size, 0, none⟩ = some (.int .i64 (b)) := cel hc10
  have g10x1 : w10.cell? ⟨w4.heap.size, 1, none⟩ = some (.int .i64 (2)) := cel hc10
  have g10x2 : w10.cell? ⟨w4.heap.size, 2, none⟩ = some (.bool (false)) := cel hc10
  have g10x3 : w10.cell? ⟨w6.heap.size, 0, none⟩ = some (.int .i64 (md)) := cel hc10
  have g10x4 : w10.cell? ⟨w6.heap.size, 1, none⟩ = some (.int .i64 (mp)) := cel hc10
  go_wp2_with fail
  refine (H3.out _ bel).mono ?_
  rintro e w11 ⟨rfl, hb11⟩
  have hB11 : Below w.heap.size w w11 := bel
  have hZ11 := hB11.size
  obtain ⟨hc11, hf11⟩ := bcell hb11
  have hz11 := hb11.size
  try simp at hz11
  have hl11w4 : w4.heap.size < w11.heap.size := by omega
  have hm11w4 : w4.heap.size ≤ w11.heap.size := by omega
  have hl11w6 : w6.heap.size < w11.heap.size := by omega
  have hm11w6 : w6.heap.size ≤ w11.heap.size := by omega
  have g11x0 : w11.cell? ⟨w4.heap.size, 0, none⟩ = some (.int .i64 (b)) := cel hc11
  have g11x1 : w11.cell? ⟨w4.heap.size, 1, none⟩ = some (.int .i64 (2)) := cel hc11
  have g11x2 : w11.cell? ⟨w4.heap.size, 2, none⟩ = some (.bool (false)) := cel hc11
  have g11x3 : w11.cell? ⟨w6.heap.size, 0, none⟩ = some (.int .i64 (md)) := cel hc11
  have g11x4 : w11.cell? ⟨w6.heap.size, 1, none⟩ = some (.int .i64 (mp)) := cel hc11
  go_wp2_with fail
  go_ret
  refine ⟨by first | rfl | (simp [*]; done), ?_⟩
  exact bel
end Go.Proofs.YtaaaalbgjpjgoaaGreatDoor
