/- Through the layers: WholeAnniversaries, by the contracts of its calls. -/
import Derived.Test.YtaaaalbgjpjgoaaGreatDoorVW28q
set_option linter.unusedVariables false
set_option linter.unusedSimpArgs false
set_option maxRecDepth 100000
namespace Go.Proofs.YtaaaalbgjpjgoaaGreatDoor
open Go.ChangeShapes Go.WideShapes Go.ChangeAt Go.RowKit Go.Lib
set_option maxHeartbeats 4000000 in
theorem WholeAnniversaries_err (z n : Int) (l : Bool) (d y : Int) (er : Int) (he : (er != 0) = true) (hy : 0 ≤ y ∧ y ≤ 65535)  (w : World)
    (HA : Hid (∀ W : World, Below w.heap.size w W → Calls Tryo.prog 52 #[.agg #[.int .i64 (z), .int .i64 (n), .bool (l), .int .i64 (d)], .int .i64 (1 + y % 9999)] W fun e w' => e = .returned (.tuple #[.agg #[.int .i64 (0), .int .i64 (0), .bool (false), .int .i64 (0)], .int .i64 er]) ∧ Below W.heap.size W w'))
    (HB : Hid (∀ W : World, Below w.heap.size w W → Calls Tryo.prog 53 #[.agg #[.int .i64 (z), .int .i64 (n), .bool (l), .int .i64 (d)], .int .i64 (1 + y % 9999)] W fun e w' => e = .returned (.tuple #[.agg #[.int .i64 (0), .int .i64 (0), .bool (false), .int .i64 (0)], .int .i64 er]) ∧ Below W.heap.size W w'))
    (HC : Hid (∀ W : World, Below w.heap.size w W → Calls Tryo.prog 43 #[.agg #[.int .i64 (z), .int .i64 (n), .bool (l), .int .i64 (d)]] W fun e w' => e = .returned (.int .i64 er) ∧ Below W.heap.size W w'))
    (HW : Hid (∀ W : World, Below w.heap.size w W → Calls Tryo.prog 34 #[] W fun e w' => e = .returned (.bool true) ∧ Below W.heap.size W w')) :
    Calls Tryo.prog 12 #[.agg #[.int .i64 (z), .int .i64 (n), .bool (l), .int .i64 (d)], .int .u16 y] w fun e w' => e = .returned (.bool true) ∧ Below w.heap.size w w' := by
  have HY := Lib.hid (fun w => top_year y hy w)
  obtain ⟨y1, y2⟩ := hy
  have k1 := Int.emod_nonneg y (show (9999 : Int) ≠ 0 by decide)
  have k2 := Int.emod_lt_of_pos y (show (0 : Int) < 9999 by decide)
  go_enter Tryo.func12, Tryz.ntmps12
  go_wp2_with fail
  refine (HY.out _).mono ?_
  rintro e w' ⟨rfl, rfl⟩
  go_wp2_with fail
  refine (HA.out _ bel28).mono ?_
  rintro e w1 ⟨rfl, hb1⟩
  have hB1 : Below w.heap.size w w1 := bel28
  have hZ1 := hB1.size
  obtain ⟨hc1, hf1⟩ := bcell hb1
  have hz1 := hb1.size
  try simp at hz1
  have hl1w : w.heap.size < w1.heap.size := by omega
  obtain ⟨g1x0, g1x1, g1x2, g1x3⟩ := cel4 (B := w.heap.size) (a := .int .i64 (z)) (b := .int .i64 (n)) (c := .bool (l)) (d := .int .i64 (d)) hc1
  go_wp2_with fail
  refine (HB.out _ bel28).mono ?_
  rintro e w2 ⟨rfl, hb2⟩
  have hB2 : Below w.heap.size w w2 := bel28
  have hZ2 := hB2.size
  obtain ⟨hc2, hf2⟩ := bcell hb2
  have hz2 := hb2.size
  try simp at hz2
  have hl2w : w.heap.size < w2.heap.size := by omega
  have hl2w1 : w1.heap.size < w2.heap.size := by omega
  obtain ⟨g2x0, g2x1, g2x2, g2x3⟩ := cel4 (B := w.heap.size) (a := .int .i64 (z)) (b := .int .i64 (n)) (c := .bool (l)) (d := .int .i64 (d)) hc2
  obtain ⟨g2x4, g2x5, g2x6, g2x7⟩ := cel4 (B := w1.heap.size) (a := .int .i64 (0)) (b := .int .i64 (0)) (c := .bool (false)) (d := .int .i64 (0)) hc2
  go_wp2_with fail
  refine (HW.out _ bel28).mono ?_
  rintro e w3 ⟨rfl, hb3⟩
  have hB3 : Below w.heap.size w w3 := bel28
  have hZ3 := hB3.size
  obtain ⟨hc3, hf3⟩ := bcell hb3
  have hz3 := hb3.size
  try simp at hz3
  have hl3w : w.heap.size < w3.heap.size := by omega
  obtain ⟨g3x0, g3x1, g3x2, g3x3⟩ := cel4 (B := w.heap.size) (a := .int .i64 (z)) (b := .int .i64 (n)) (c := .bool (l)) (d := .int .i64 (d)) hc3
  go_wp2_with fail
  refine (HC.out _ bel28).mono ?_
  rintro e w4 ⟨rfl, hb4⟩
  have hB4 : Below w.heap.size w w4 := bel28
  have hZ4 := hB4.size
  obtain ⟨hc4, hf4⟩ := bcell hb4
  have hz4 := hb4.size
  try simp at hz4
  have hl4w : w.heap.size < w4.heap.size := by omega
  obtain ⟨g4x0, g4x1, g4x2, g4x3⟩ := cel4 (B := w.heap.size) (a := .int .i64 (z)) (b := .int .i64 (n)) (c := .bool (l)) (d := .int .i64 (d)) hc4
  go_wp2_with fail
  go_ret
  refine ⟨by first | rfl | (simp [*]; done), ?_⟩
  exact bel
set_option maxHeartbeats 4000000 in
theorem WholeAnniversaries_arg (z n : Int) (l : Bool) (d y : Int) (hy : 0 ≤ y ∧ y ≤ 65535) (hle : 1 + y % 9999 ≤ z) (w : World)
    (HA : Hid (∀ W : World, Below w.heap.size w W → Calls Tryo.prog 52 #[.agg #[.int .i64 (z), .int .i64 (n), .bool (l), .int .i64 (d)], .int .i64 (1 + y % 9999)] W fun e w' => e = .returned (.tuple #[.agg #[.int .i64 (0), .int .i64 (0), .bool (false), .int .i64 (0)], .int .i64 1]) ∧ Below W.heap.size W w'))
    (HB : Hid (∀ W : World, Below w.heap.size w W → Calls Tryo.prog 53 #[.agg #[.int .i64 (z), .int .i64 (n), .bool (l), .int .i64 (d)], .int .i64 (1 + y % 9999)] W fun e w' => e = .returned (.tuple #[.agg #[.int .i64 (0), .int .i64 (0), .bool (false), .int .i64 (0)], .int .i64 1]) ∧ Below W.heap.size W w'))
    (HC : Hid (∀ W : World, Below w.heap.size w W → Calls Tryo.prog 43 #[.agg #[.int .i64 (z), .int .i64 (n), .bool (l), .int .i64 (d)]] W fun e w' => e = .returned (.int .i64 0) ∧ Below W.heap.size W w'))
    (HW : Hid (∀ W : World, Below w.heap.size w W → Calls Tryo.prog 34 #[] W fun e w' => e = .returned (.bool true) ∧ Below W.heap.size W w')) :
    Calls Tryo.prog 12 #[.agg #[.int .i64 (z), .int .i64 (n), .bool (l), .int .i64 (d)], .int .u16 y] w fun e w' => e = .returned (.bool true) ∧ Below w.heap.size w w' := by
  have HY := Lib.hid (fun w => top_year y hy w)
  obtain ⟨y1, y2⟩ := hy
  have k1 := Int.emod_nonneg y (show (9999 : Int) ≠ 0 by decide)
  have k2 := Int.emod_lt_of_pos y (show (0 : Int) < 9999 by decide)
  go_enter Tryo.func12, Tryz.ntmps12
  go_wp2_with fail
  refine (HY.out _).mono ?_
  rintro e w' ⟨rfl, rfl⟩
  go_wp2_with fail
  refine (HA.out _ bel28).mono ?_
  rintro e w1 ⟨rfl, hb1⟩
  have hB1 : Below w.heap.size w w1 := bel28
  have hZ1 := hB1.size
  obtain ⟨hc1, hf1⟩ := bcell hb1
  have hz1 := hb1.size
  try simp at hz1
  have hl1w : w.heap.size < w1.heap.size := by omega
  obtain ⟨g1x0, g1x1, g1x2, g1x3⟩ := cel4 (B := w.heap.size) (a := .int .i64 (z)) (b := .int .i64 (n)) (c := .bool (l)) (d := .int .i64 (d)) hc1
  go_wp2_with fail
  refine (HB.out _ bel28).mono ?_
  rintro e w2 ⟨rfl, hb2⟩
  have hB2 : Below w.heap.size w w2 := bel28
  have hZ2 := hB2.size
  obtain ⟨hc2, hf2⟩ := bcell hb2
  have hz2 := hb2.size
  try simp at hz2
  have hl2w : w.heap.size < w2.heap.size := by omega
  have hl2w1 : w1.heap.size < w2.heap.size := by omega
  obtain ⟨g2x0, g2x1, g2x2, g2x3⟩ := cel4 (B := w.heap.size) (a := .int .i64 (z)) (b := .int .i64 (n)) (c := .bool (l)) (d := .int .i64 (d)) hc2
  obtain ⟨g2x4, g2x5, g2x6, g2x7⟩ := cel4 (B := w1.heap.size) (a := .int .i64 (0)) (b := .int .i64 (0)) (c := .bool (false)) (d := .int .i64 (0)) hc2
  go_wp2_with fail
  refine (HW.out _ bel28).mono ?_
  rintro e w3 ⟨rfl, hb3⟩
  have hB3 : Below w.heap.size w w3 := bel28
  have hZ3 := hB3.size
  obtain ⟨hc3, hf3⟩ := bcell hb3
  have hz3 := hb3.size
  try simp at hz3
  have hl3w : w.heap.size < w3.heap.size := by omega
  obtain ⟨g3x0, g3x1, g3x2, g3x3⟩ := cel4 (B := w.heap.size) (a := .int .i64 (z)) (b := .int .i64 (n)) (c := .bool (l)) (d := .int .i64 (d)) hc3
  go_wp2_with fail
  refine (HC.out _ bel28).mono ?_
  rintro e w4 ⟨rfl, hb4⟩
  have hB4 : Below w.heap.size w w4 := bel28
  have hZ4 := hB4.size
  obtain ⟨hc4, hf4⟩ := bcell hb4
  have hz4 := hb4.size
  try simp at hz4
  have hl4w : w.heap.size < w4.heap.size := by omega
  obtain ⟨g4x0, g4x1, g4x2, g4x3⟩ := cel4 (B := w.heap.size) (a := .int .i64 (z)) (b := .int .i64 (n)) (c := .bool (l)) (d := .int .i64 (d)) hc4
  go_wp2_with fail
  refine (HC.out _ bel28).mono ?_
  rintro e w5 ⟨rfl, hb5⟩
  have hB5 : Below w.heap.size w w5 := bel28
  have hZ5 := hB5.size
  obtain ⟨hc5, hf5⟩ := bcell hb5
  have hz5 := hb5.size
  try simp at hz5
  have hl5w : w.heap.size < w5.heap.size := by omega
  obtain ⟨g5x0, g5x1, g5x2, g5x3⟩ := cel4 (B := w.heap.size) (a := .int .i64 (z)) (b := .int .i64 (n)) (c := .bool (l)) (d := .int .i64 (d)) hc5
  go_wp2_with fail
  go_ret
  refine ⟨by first | rfl | (simp [*]; done), ?_⟩
  exact bel
set_option maxHeartbeats 4000000 in
theorem WholeAnniversaries_plain (z n d y dn : Int) (hy : 0 ≤ y ∧ y ≤ 65535) (hlt : z < 1 + y % 9999) (hdn : -1373427 ≤ dn ∧ dn ≤ 2278650) (hd : d < 30) (hn : (n != 6) = true) (w : World)
    (HA : Hid (∀ W : World, Below w.heap.size w W → Calls Tryo.prog 52 #[.agg #[.int .i64 (z), .int .i64 (n), .bool (false), .int .i64 (d)], .int .i64 (1 + y % 9999)] W fun e w' => e = .returned (.tuple #[.agg #[.int .i64 (1 + y % 9999), .int .i64 (n), .bool (false), .int .i64 (d)], .int .i64 0]) ∧ Below W.heap.size W w'))
    (HB : Hid (∀ W : World, Below w.heap.size w W → Calls Tryo.prog 53 #[.agg #[.int .i64 (z), .int .i64 (n), .bool (false), .int .i64 (d)], .int .i64 (1 + y % 9999)] W fun e w' => e = .returned (.tuple #[.agg #[.int .i64 (1 + y % 9999), .int .i64 (n), .bool (false), .int .i64 (d)], .int .i64 0]) ∧ Below W.heap.size W w'))
    (HC : Hid (∀ W : World, Below w.heap.size w W → Calls Tryo.prog 40 #[.agg #[.int .i64 (1 + y % 9999), .int .i64 (n), .bool (false), .int .i64 (d)]] W fun e w' => e = .returned (.tuple #[.int .i64 (dn), .int .i64 0]) ∧ Below W.heap.size W w'))
    (HD : Hid (∀ W : World, Below w.heap.size w W → Calls Tryo.prog 40 #[.agg #[.int .i64 (1 + y % 9999), .int .i64 (n), .bool (false), .int .i64 (d)]] W fun e w' => e = .returned (.tuple #[.int .i64 dn, .int .i64 0]) ∧ Below W.heap.size W w'))
    (HW : Hid (∀ W : World, Below w.heap.size w W → Calls Tryo.prog 34 #[] W fun e w' => e = .returned (.bool true) ∧ Below W.heap.size W w')) :
    Calls Tryo.prog 12 #[.agg #[.int .i64 (z), .int .i64 (n), .bool (false), .int .i64 (d)], .int .u16 y] w fun e w' => e = .returned (.bool true) ∧ Below w.heap.size w w' := by
  have HY := Lib.hid (fun w => top_year y hy w)
  obtain ⟨y1, y2⟩ := hy
  have k1 := Int.emod_nonneg y (show (9999 : Int) ≠ 0 by decide)
  have k2 := Int.emod_lt_of_pos y (show (0 : Int) < 9999 by decide)
  go_enter Tryo.func12, Tryz.ntmps12
  go_wp2_with fail
  refine (HY.out _).mono ?_
  rintro e w' ⟨rfl, rfl⟩
  go_wp2_with fail
  refine (HA.out _ bel28).mono ?_
  rintro e w1 ⟨rfl, hb1⟩
  have hB1 : Below w.heap.size w w1 := bel28
  have hZ1 := hB1.size
  obtain ⟨hc1, hf1⟩ := bcell hb1
  have hz1 := hb1.size
  try simp at hz1
  have hl1w : w.heap.size < w1.heap.size := by omega
  obtain ⟨g1x0, g1x1, g1x2, g1x3⟩ := cel4 (B := w.heap.size) (a := .int .i64 (z)) (b := .int .i64 (n)) (c := .bool (false)) (d := .int .i64 (d)) hc1
  go_wp2_with fail
  refine (HB.out _ bel28).mono ?_
  rintro e w2 ⟨rfl, hb2⟩
  have hB2 : Below w.heap.size w w2 := bel28
  have hZ2 := hB2.size
  obtain ⟨hc2, hf2⟩ := bcell hb2
  have hz2 := hb2.size
  try simp at hz2
  have hl2w : w.heap.size < w2.heap.size := by omega
  have hl2w1 : w1.heap.size < w2.heap.size := by omega
  obtain ⟨g2x0, g2x1, g2x2, g2x3⟩ := cel4 (B := w.heap.size) (a := .int .i64 (z)) (b := .int .i64 (n)) (c := .bool (false)) (d := .int .i64 (d)) hc2
  obtain ⟨g2x4, g2x5, g2x6, g2x7⟩ := cel4 (B := w1.heap.size) (a := .int .i64 (1 + y % 9999)) (b := .int .i64 (n)) (c := .bool (false)) (d := .int .i64 (d)) hc2
  go_wp2_with fail
  refine (HC.out _ bel28).mono ?_
  rintro e w3 ⟨rfl, hb3⟩
  have hB3 : Below w.heap.size w w3 := bel28
  have hZ3 := hB3.size
  obtain ⟨hc3, hf3⟩ := bcell hb3
  have hz3 := hb3.size
  try simp at hz3
  have hl3w : w.heap.size < w3.heap.size := by omega
  have hl3w1 : w1.heap.size < w3.heap.size := by omega
  have hl3w2 : w2.heap.size < w3.heap.size := by omega
  obtain ⟨g3x0, g3x1, g3x2, g3x3⟩ := cel4 (B := w.heap.size) (a := .int .i64 (z)) (b := .int .i64 (n)) (c := .bool (false)) (d := .int .i64 (d)) hc3
  obtain ⟨g3x4, g3x5, g3x6, g3x7⟩ := cel4 (B := w1.heap.size) (a := .int .i64 (1 + y % 9999)) (b := .int .i64 (n)) (c := .bool (false)) (d := .int .i64 (d)) hc3
  obtain ⟨g3x8, g3x9, g3x10, g3x11⟩ := cel4 (B := w2.heap.size) (a := .int .i64 (1 + y % 9999)) (b := .int .i64 (n)) (c := .bool (false)) (d := .int .i64 (d)) hc3
  go_wp2_with fail
  refine (HD.out _ bel28).mono ?_
  rintro e w4 ⟨rfl, hb4⟩
  have hB4 : Below w.heap.size w w4 := bel28
  have hZ4 := hB4.size
  obtain ⟨hc4, hf4⟩ := bcell hb4
  have hz4 := hb4.size
  try simp at hz4
  have hl4w : w.heap.size < w4.heap.size := by omega
  have hl4w1 : w1.heap.size < w4.heap.size := by omega
  have hl4w2 : w2.heap.size < w4.heap.size := by omega
  obtain ⟨g4x0, g4x1, g4x2, g4x3⟩ := cel4 (B := w.heap.size) (a := .int .i64 (z)) (b := .int .i64 (n)) (c := .bool (false)) (d := .int .i64 (d)) hc4
  obtain ⟨g4x4, g4x5, g4x6, g4x7⟩ := cel4 (B := w1.heap.size) (a := .int .i64 (1 + y % 9999)) (b := .int .i64 (n)) (c := .bool (false)) (d := .int .i64 (d)) hc4
  obtain ⟨g4x8, g4x9, g4x10, g4x11⟩ := cel4 (B := w2.heap.size) (a := .int .i64 (1 + y % 9999)) (b := .int .i64 (n)) (c := .bool (false)) (d := .int .i64 (d)) hc4
  go_wp2_with fail
  refine (HW.out _ bel28).mono ?_
  rintro e w5 ⟨rfl, hb5⟩
  have hB5 : Below w.heap.size w w5 := bel28
  have hZ5 := hB5.size
  obtain ⟨hc5, hf5⟩ := bcell hb5
  have hz5 := hb5.size
  try simp at hz5
  have hl5w : w.heap.size < w5.heap.size := by omega
  have hl5w1 : w1.heap.size < w5.heap.size := by omega
  have hl5w2 : w2.heap.size < w5.heap.size := by omega
  obtain ⟨g5x0, g5x1, g5x2, g5x3⟩ := cel4 (B := w.heap.size) (a := .int .i64 (z)) (b := .int .i64 (n)) (c := .bool (false)) (d := .int .i64 (d)) hc5
  obtain ⟨g5x4, g5x5, g5x6, g5x7⟩ := cel4 (B := w1.heap.size) (a := .int .i64 (1 + y % 9999)) (b := .int .i64 (n)) (c := .bool (false)) (d := .int .i64 (d)) hc5
  obtain ⟨g5x8, g5x9, g5x10, g5x11⟩ := cel4 (B := w2.heap.size) (a := .int .i64 (1 + y % 9999)) (b := .int .i64 (n)) (c := .bool (false)) (d := .int .i64 (d)) hc5
  go_wp2_with fail
  go_ret
  refine ⟨by first | rfl | (simp [*]; done), ?_⟩
  exact bel
set_option maxHeartbeats 4000000 in
theorem WholeAnniversaries_two2a (z : Int) (l : Bool) (d y dn : Int) (an : Int) (al : Bool) (ad bn : Int) (bl : Bool) (bd : Int) (hy : 0 ≤ y ∧ y ≤ 65535) (hlt : z < 1 + y % 9999) (hdn : -1373427 ≤ dn ∧ dn ≤ 2278650) (hd : 30 ≤ d) (w : World)
    (HA : Hid (∀ W : World, Below w.heap.size w W → Calls Tryo.prog 52 #[.agg #[.int .i64 (z), .int .i64 (2), .bool (l), .int .i64 (d)], .int .i64 (1 + y % 9999)] W fun e w' => e = .returned (.tuple #[.agg #[.int .i64 (1 + y % 9999), .int .i64 (an), .bool (al), .int .i64 (ad)], .int .i64 0]) ∧ Below W.heap.size W w'))
    (HB : Hid (∀ W : World, Below w.heap.size w W → Calls Tryo.prog 53 #[.agg #[.int .i64 (z), .int .i64 (2), .bool (l), .int .i64 (d)], .int .i64 (1 + y % 9999)] W fun e w' => e = .returned (.tuple #[.agg #[.int .i64 (1 + y % 9999), .int .i64 (bn), .bool (bl), .int .i64 (bd)], .int .i64 0]) ∧ Below W.heap.size W w'))
    (HC : Hid (∀ W : World, Below w.heap.size w W → Calls Tryo.prog 40 #[.agg #[.int .i64 (1 + y % 9999), .int .i64 (an), .bool (al), .int .i64 (ad)]] W fun e w' => e = .returned (.tuple #[.int .i64 (dn), .int .i64 0]) ∧ Below W.heap.size W w'))
    (HD : Hid (∀ W : World, Below w.heap.size w W → Calls Tryo.prog 40 #[.agg #[.int .i64 (1 + y % 9999), .int .i64 (bn), .bool (bl), .int .i64 (bd)]] W fun e w' => e = .returned (.tuple #[.int .i64 dn, .int .i64 0]) ∧ Below W.heap.size W w'))
    (HW : Hid (∀ W : World, Below w.heap.size w W → Calls Tryo.prog 34 #[] W fun e w' => e = .returned (.bool true) ∧ Below W.heap.size W w')) :
    Calls Tryo.prog 12 #[.agg #[.int .i64 (z), .int .i64 (2), .bool (l), .int .i64 (d)], .int .u16 y] w fun e w' => e = .returned (.bool true) ∧ Below w.heap.size w w' := by
  have HY := Lib.hid (fun w => top_year y hy w)
  obtain ⟨y1, y2⟩ := hy
  have k1 := Int.emod_nonneg y (show (9999 : Int) ≠ 0 by decide)
  have k2 := Int.emod_lt_of_pos y (show (0 : Int) < 9999 by decide)
  go_enter Tryo.func12, Tryz.ntmps12
  go_wp2_with fail
  refine (HY.out _).mono ?_
  rintro e w' ⟨rfl, rfl⟩
  go_wp2_with fail
  refine (HA.out _ bel28).mono ?_
  rintro e w1 ⟨rfl, hb1⟩
  have hB1 : Below w.heap.size w w1 := bel28
  have hZ1 := hB1.size
  obtain ⟨hc1, hf1⟩ := bcell hb1
  have hz1 := hb1.size
  try simp at hz1
  have hl1w : w.heap.size < w1.heap.size := by omega
  obtain ⟨g1x0, g1x1, g1x2, g1x3⟩ := cel4 (B := w.heap.size) (a := .int .i64 (z)) (b := .int .i64 (2)) (c := .bool (l)) (d := .int .i64 (d)) hc1
  go_wp2_with fail
  refine (HB.out _ bel28).mono ?_
  rintro e w2 ⟨rfl, hb2⟩
  have hB2 : Below w.heap.size w w2 := bel28
  have hZ2 := hB2.size
  obtain ⟨hc2, hf2⟩ := bcell hb2
  have hz2 := hb2.size
  try simp at hz2
  have hl2w : w.heap.size < w2.heap.size := by omega
  have hl2w1 : w1.heap.size < w2.heap.size := by omega
  obtain ⟨g2x0, g2x1, g2x2, g2x3⟩ := cel4 (B := w.heap.size) (a := .int .i64 (z)) (b := .int .i64 (2)) (c := .bool (l)) (d := .int .i64 (d)) hc2
  obtain ⟨g2x4, g2x5, g2x6, g2x7⟩ := cel4 (B := w1.heap.size) (a := .int .i64 (1 + y % 9999)) (b := .int .i64 (an)) (c := .bool (al)) (d := .int .i64 (ad)) hc2
  go_wp2_with fail
  refine (HC.out _ bel28).mono ?_
  rintro e w3 ⟨rfl, hb3⟩
  have hB3 : Below w.heap.size w w3 := bel28
  have hZ3 := hB3.size
  obtain ⟨hc3, hf3⟩ := bcell hb3
  have hz3 := hb3.size
  try simp at hz3
  have hl3w : w.heap.size < w3.heap.size := by omega
  have hl3w1 : w1.heap.size < w3.heap.size := by omega
  have hl3w2 : w2.heap.size < w3.heap.size := by omega
  obtain ⟨g3x0, g3x1, g3x2, g3x3⟩ := cel4 (B := w.heap.size) (a := .int .i64 (z)) (b := .int .i64 (2)) (c := .bool (l)) (d := .int .i64 (d)) hc3
  obtain ⟨g3x4, g3x5, g3x6, g3x7⟩ := cel4 (B := w1.heap.size) (a := .int .i64 (1 + y % 9999)) (b := .int .i64 (an)) (c := .bool (al)) (d := .int .i64 (ad)) hc3
  obtain ⟨g3x8, g3x9, g3x10, g3x11⟩ := cel4 (B := w2.heap.size) (a := .int .i64 (1 + y % 9999)) (b := .int .i64 (bn)) (c := .bool (bl)) (d := .int .i64 (bd)) hc3
  go_wp2_with fail
  refine (HD.out _ bel28).mono ?_
  rintro e w4 ⟨rfl, hb4⟩
  have hB4 : Below w.heap.size w w4 := bel28
  have hZ4 := hB4.size
  obtain ⟨hc4, hf4⟩ := bcell hb4
  have hz4 := hb4.size
  try simp at hz4
  have hl4w : w.heap.size < w4.heap.size := by omega
  have hl4w1 : w1.heap.size < w4.heap.size := by omega
  have hl4w2 : w2.heap.size < w4.heap.size := by omega
  obtain ⟨g4x0, g4x1, g4x2, g4x3⟩ := cel4 (B := w.heap.size) (a := .int .i64 (z)) (b := .int .i64 (2)) (c := .bool (l)) (d := .int .i64 (d)) hc4
  obtain ⟨g4x4, g4x5, g4x6, g4x7⟩ := cel4 (B := w1.heap.size) (a := .int .i64 (1 + y % 9999)) (b := .int .i64 (an)) (c := .bool (al)) (d := .int .i64 (ad)) hc4
  obtain ⟨g4x8, g4x9, g4x10, g4x11⟩ := cel4 (B := w2.heap.size) (a := .int .i64 (1 + y % 9999)) (b := .int .i64 (bn)) (c := .bool (bl)) (d := .int .i64 (bd)) hc4
  go_wp2_with fail
  refine (HW.out _ bel28).mono ?_
  rintro e w5 ⟨rfl, hb5⟩
  have hB5 : Below w.heap.size w w5 := bel28
  have hZ5 := hB5.size
  obtain ⟨hc5, hf5⟩ := bcell hb5
  have hz5 := hb5.size
  try simp at hz5
  have hl5w : w.heap.size < w5.heap.size := by omega
  have hl5w1 : w1.heap.size < w5.heap.size := by omega
  have hl5w2 : w2.heap.size < w5.heap.size := by omega
  obtain ⟨g5x0, g5x1, g5x2, g5x3⟩ := cel4 (B := w.heap.size) (a := .int .i64 (z)) (b := .int .i64 (2)) (c := .bool (l)) (d := .int .i64 (d)) hc5
  obtain ⟨g5x4, g5x5, g5x6, g5x7⟩ := cel4 (B := w1.heap.size) (a := .int .i64 (1 + y % 9999)) (b := .int .i64 (an)) (c := .bool (al)) (d := .int .i64 (ad)) hc5
  obtain ⟨g5x8, g5x9, g5x10, g5x11⟩ := cel4 (B := w2.heap.size) (a := .int .i64 (1 + y % 9999)) (b := .int .i64 (bn)) (c := .bool (bl)) (d := .int .i64 (bd)) hc5
  go_wp2_with fail
  go_ret
  refine ⟨by first | rfl | (simp [*]; done), ?_⟩
  exact bel
set_option maxHeartbeats 4000000 in
theorem WholeAnniversaries_two2b (z : Int) (l : Bool) (d y dn : Int) (an : Int) (al : Bool) (ad bn : Int) (bl : Bool) (bd : Int) (hy : 0 ≤ y ∧ y ≤ 65535) (hlt : z < 1 + y % 9999) (hdn : -1373427 ≤ dn ∧ dn ≤ 2278650) (hd : 30 ≤ d) (w : World)
    (HA : Hid (∀ W : World, Below w.heap.size w W → Calls Tryo.prog 52 #[.agg #[.int .i64 (z), .int .i64 (2), .bool (l), .int .i64 (d)], .int .i64 (1 + y % 9999)] W fun e w' => e = .returned (.tuple #[.agg #[.int .i64 (1 + y % 9999), .int .i64 (an), .bool (al), .int .i64 (ad)], .int .i64 0]) ∧ Below W.heap.size W w'))
    (HB : Hid (∀ W : World, Below w.heap.size w W → Calls Tryo.prog 53 #[.agg #[.int .i64 (z), .int .i64 (2), .bool (l), .int .i64 (d)], .int .i64 (1 + y % 9999)] W fun e w' => e = .returned (.tuple #[.agg #[.int .i64 (1 + y % 9999), .int .i64 (bn), .bool (bl), .int .i64 (bd)], .int .i64 0]) ∧ Below W.heap.size W w'))
    (HC : Hid (∀ W : World, Below w.heap.size w W → Calls Tryo.prog 40 #[.agg #[.int .i64 (1 + y % 9999), .int .i64 (an), .bool (al), .int .i64 (ad)]] W fun e w' => e = .returned (.tuple #[.int .i64 (dn + 1), .int .i64 0]) ∧ Below W.heap.size W w'))
    (HD : Hid (∀ W : World, Below w.heap.size w W → Calls Tryo.prog 40 #[.agg #[.int .i64 (1 + y % 9999), .int .i64 (bn), .bool (bl), .int .i64 (bd)]] W fun e w' => e = .returned (.tuple #[.int .i64 dn, .int .i64 0]) ∧ Below W.heap.size W w'))
    (HW : Hid (∀ W : World, Below w.heap.size w W → Calls Tryo.prog 34 #[] W fun e w' => e = .returned (.bool true) ∧ Below W.heap.size W w')) :
    Calls Tryo.prog 12 #[.agg #[.int .i64 (z), .int .i64 (2), .bool (l), .int .i64 (d)], .int .u16 y] w fun e w' => e = .returned (.bool true) ∧ Below w.heap.size w w' := by
  have HY := Lib.hid (fun w => top_year y hy w)
  obtain ⟨y1, y2⟩ := hy
  have k1 := Int.emod_nonneg y (show (9999 : Int) ≠ 0 by decide)
  have k2 := Int.emod_lt_of_pos y (show (0 : Int) < 9999 by decide)
  obtain ⟨dn1, dn2⟩ := hdn
  have ew : wrap64 (dn + 1) = dn + 1 := IntWalk.wrap64_in _ ⟨by omega, by omega⟩
  have en : (dn + 1 == dn) = false := by rw [beq_eq_false_iff_ne]; omega
  go_enter Tryo.func12, Tryz.ntmps12
  go_wp2_with fail
  refine (HY.out _).mono ?_
  rintro e w' ⟨rfl, rfl⟩
  go_wp2_with fail
  refine (HA.out _ bel28).mono ?_
  rintro e w1 ⟨rfl, hb1⟩
  have hB1 : Below w.heap.size w w1 := bel28
  have hZ1 := hB1.size
  obtain ⟨hc1, hf1⟩ := bcell hb1
  have hz1 := hb1.size
  try simp at hz1
  have hl1w : w.heap.size < w1.heap.size := by omega
  obtain ⟨g1x0, g1x1, g1x2, g1x3⟩ := cel4 (B := w.heap.size) (a := .int .i64 (z)) (b := .int .i64 (2)) (c := .bool (l)) (d := .int .i64 (d)) hc1
  go_wp2_with fail
  refine (HB.out _ bel28).mono ?_
  rintro e w2 ⟨rfl, hb2⟩
  have hB2 : Below w.heap.size w w2 := bel28
  have hZ2 := hB2.size
  obtain ⟨hc2, hf2⟩ := bcell hb2
  have hz2 := hb2.size
  try simp at hz2
  have hl2w : w.heap.size < w2.heap.size := by omega
  have hl2w1 : w1.heap.size < w2.heap.size := by omega
  obtain ⟨g2x0, g2x1, g2x2, g2x3⟩ := cel4 (B := w.heap.size) (a := .int .i64 (z)) (b := .int .i64 (2)) (c := .bool (l)) (d := .int .i64 (d)) hc2
  obtain ⟨g2x4, g2x5, g2x6, g2x7⟩ := cel4 (B := w1.heap.size) (a := .int .i64 (1 + y % 9999)) (b := .int .i64 (an)) (c := .bool (al)) (d := .int .i64 (ad)) hc2
  go_wp2_with fail
  refine (HC.out _ bel28).mono ?_
  rintro e w3 ⟨rfl, hb3⟩
  have hB3 : Below w.heap.size w w3 := bel28
  have hZ3 := hB3.size
  obtain ⟨hc3, hf3⟩ := bcell hb3
  have hz3 := hb3.size
  try simp at hz3
  have hl3w : w.heap.size < w3.heap.size := by omega
  have hl3w1 : w1.heap.size < w3.heap.size := by omega
  have hl3w2 : w2.heap.size < w3.heap.size := by omega
  obtain ⟨g3x0, g3x1, g3x2, g3x3⟩ := cel4 (B := w.heap.size) (a := .int .i64 (z)) (b := .int .i64 (2)) (c := .bool (l)) (d := .int .i64 (d)) hc3
  obtain ⟨g3x4, g3x5, g3x6, g3x7⟩ := cel4 (B := w1.heap.size) (a := .int .i64 (1 + y % 9999)) (b := .int .i64 (an)) (c := .bool (al)) (d := .int .i64 (ad)) hc3
  obtain ⟨g3x8, g3x9, g3x10, g3x11⟩ := cel4 (B := w2.heap.size) (a := .int .i64 (1 + y % 9999)) (b := .int .i64 (bn)) (c := .bool (bl)) (d := .int .i64 (bd)) hc3
  go_wp2_with fail
  refine (HD.out _ bel28).mono ?_
  rintro e w4 ⟨rfl, hb4⟩
  have hB4 : Below w.heap.size w w4 := bel28
  have hZ4 := hB4.size
  obtain ⟨hc4, hf4⟩ := bcell hb4
  have hz4 := hb4.size
  try simp at hz4
  have hl4w : w.heap.size < w4.heap.size := by omega
  have hl4w1 : w1.heap.size < w4.heap.size := by omega
  have hl4w2 : w2.heap.size < w4.heap.size := by omega
  obtain ⟨g4x0, g4x1, g4x2, g4x3⟩ := cel4 (B := w.heap.size) (a := .int .i64 (z)) (b := .int .i64 (2)) (c := .bool (l)) (d := .int .i64 (d)) hc4
  obtain ⟨g4x4, g4x5, g4x6, g4x7⟩ := cel4 (B := w1.heap.size) (a := .int .i64 (1 + y % 9999)) (b := .int .i64 (an)) (c := .bool (al)) (d := .int .i64 (ad)) hc4
  obtain ⟨g4x8, g4x9, g4x10, g4x11⟩ := cel4 (B := w2.heap.size) (a := .int .i64 (1 + y % 9999)) (b := .int .i64 (bn)) (c := .bool (bl)) (d := .int .i64 (bd)) hc4
  go_wp2_with fail
  refine (HW.out _ bel28).mono ?_
  rintro e w5 ⟨rfl, hb5⟩
  have hB5 : Below w.heap.size w w5 := bel28
  have hZ5 := hB5.size
  obtain ⟨hc5, hf5⟩ := bcell hb5
  have hz5 := hb5.size
  try simp at hz5
  have hl5w : w.heap.size < w5.heap.size := by omega
  have hl5w1 : w1.heap.size < w5.heap.size := by omega
  have hl5w2 : w2.heap.size < w5.heap.size := by omega
  obtain ⟨g5x0, g5x1, g5x2, g5x3⟩ := cel4 (B := w.heap.size) (a := .int .i64 (z)) (b := .int .i64 (2)) (c := .bool (l)) (d := .int .i64 (d)) hc5
  obtain ⟨g5x4, g5x5, g5x6, g5x7⟩ := cel4 (B := w1.heap.size) (a := .int .i64 (1 + y % 9999)) (b := .int .i64 (an)) (c := .bool (al)) (d := .int .i64 (ad)) hc5
  obtain ⟨g5x8, g5x9, g5x10, g5x11⟩ := cel4 (B := w2.heap.size) (a := .int .i64 (1 + y % 9999)) (b := .int .i64 (bn)) (c := .bool (bl)) (d := .int .i64 (bd)) hc5
  go_wp2_with fail
  go_ret
  refine ⟨by first | rfl | (simp [*]; done), ?_⟩
  exact bel
set_option maxHeartbeats 4000000 in
theorem WholeAnniversaries_two3a (z : Int) (l : Bool) (d y dn : Int) (an : Int) (al : Bool) (ad bn : Int) (bl : Bool) (bd : Int) (hy : 0 ≤ y ∧ y ≤ 65535) (hlt : z < 1 + y % 9999) (hdn : -1373427 ≤ dn ∧ dn ≤ 2278650) (hd : 30 ≤ d) (w : World)
    (HA : Hid (∀ W : World, Below w.heap.size w W → Calls Tryo.prog 52 #[.agg #[.int .i64 (z), .int .i64 (3), .bool (l), .int .i64 (d)], .int .i64 (1 + y % 9999)] W fun e w' => e = .returned (.tuple #[.agg #[.int .i64 (1 + y % 9999), .int .i64 (an), .bool (al), .int .i64 (ad)], .int .i64 0]) ∧ Below W.heap.size W w'))
    (HB : Hid (∀ W : World, Below w.heap.size w W → Calls Tryo.prog 53 #[.agg #[.int .i64 (z), .int .i64 (3), .bool (l), .int .i64 (d)], .int .i64 (1 + y % 9999)] W fun e w' => e = .returned (.tuple #[.agg #[.int .i64 (1 + y % 9999), .int .i64 (bn), .bool (bl), .int .i64 (bd)], .int .i64 0]) ∧ Below W.heap.size W w'))
    (HC : Hid (∀ W : World, Below w.heap.size w W → Calls Tryo.prog 40 #[.agg #[.int .i64 (1 + y % 9999), .int .i64 (an), .bool (al), .int .i64 (ad)]] W fun e w' => e = .returned (.tuple #[.int .i64 (dn), .int .i64 0]) ∧ Below W.heap.size W w'))
    (HD : Hid (∀ W : World, Below w.heap.size w W → Calls Tryo.prog 40 #[.agg #[.int .i64 (1 + y % 9999), .int .i64 (bn), .bool (bl), .int .i64 (bd)]] W fun e w' => e = .returned (.tuple #[.int .i64 dn, .int .i64 0]) ∧ Below W.heap.size W w'))
    (HW : Hid (∀ W : World, Below w.heap.size w W → Calls Tryo.prog 34 #[] W fun e w' => e = .returned (.bool true) ∧ Below W.heap.size W w')) :
    Calls Tryo.prog 12 #[.agg #[.int .i64 (z), .int .i64 (3), .bool (l), .int .i64 (d)], .int .u16 y] w fun e w' => e = .returned (.bool true) ∧ Below w.heap.size w w' := by
  have HY := Lib.hid (fun w => top_year y hy w)
  obtain ⟨y1, y2⟩ := hy
  have k1 := Int.emod_nonneg y (show (9999 : Int) ≠ 0 by decide)
  have k2 := Int.emod_lt_of_pos y (show (0 : Int) < 9999 by decide)
  go_enter Tryo.func12, Tryz.ntmps12
  go_wp2_with fail
  refine (HY.out _).mono ?_
  rintro e w' ⟨rfl, rfl⟩
  go_wp2_with fail
  refine (HA.out _ bel28).mono ?_
  rintro e w1 ⟨rfl, hb1⟩
  have hB1 : Below w.heap.size w w1 := bel28
  have hZ1 := hB1.size
  obtain ⟨hc1, hf1⟩ := bcell hb1
  have hz1 := hb1.size
  try simp at hz1
  have hl1w : w.heap.size < w1.heap.size := by omega
  obtain ⟨g1x0, g1x1, g1x2, g1x3⟩ := cel4 (B := w.heap.size) (a := .int .i64 (z)) (b := .int .i64 (3)) (c := .bool (l)) (d := .int .i64 (d)) hc1
  go_wp2_with fail
  refine (HB.out _ bel28).mono ?_
  rintro e w2 ⟨rfl, hb2⟩
  have hB2 : Below w.heap.size w w2 := bel28
  have hZ2 := hB2.size
  obtain ⟨hc2, hf2⟩ := bcell hb2
  have hz2 := hb2.size
  try simp at hz2
  have hl2w : w.heap.size < w2.heap.size := by omega
  have hl2w1 : w1.heap.size < w2.heap.size := by omega
  obtain ⟨g2x0, g2x1, g2x2, g2x3⟩ := cel4 (B := w.heap.size) (a := .int .i64 (z)) (b := .int .i64 (3)) (c := .bool (l)) (d := .int .i64 (d)) hc2
  obtain ⟨g2x4, g2x5, g2x6, g2x7⟩ := cel4 (B := w1.heap.size) (a := .int .i64 (1 + y % 9999)) (b := .int .i64 (an)) (c := .bool (al)) (d := .int .i64 (ad)) hc2
  go_wp2_with fail
  refine (HC.out _ bel28).mono ?_
  rintro e w3 ⟨rfl, hb3⟩
  have hB3 : Below w.heap.size w w3 := bel28
  have hZ3 := hB3.size
  obtain ⟨hc3, hf3⟩ := bcell hb3
  have hz3 := hb3.size
  try simp at hz3
  have hl3w : w.heap.size < w3.heap.size := by omega
  have hl3w1 : w1.heap.size < w3.heap.size := by omega
  have hl3w2 : w2.heap.size < w3.heap.size := by omega
  obtain ⟨g3x0, g3x1, g3x2, g3x3⟩ := cel4 (B := w.heap.size) (a := .int .i64 (z)) (b := .int .i64 (3)) (c := .bool (l)) (d := .int .i64 (d)) hc3
  obtain ⟨g3x4, g3x5, g3x6, g3x7⟩ := cel4 (B := w1.heap.size) (a := .int .i64 (1 + y % 9999)) (b := .int .i64 (an)) (c := .bool (al)) (d := .int .i64 (ad)) hc3
  obtain ⟨g3x8, g3x9, g3x10, g3x11⟩ := cel4 (B := w2.heap.size) (a := .int .i64 (1 + y % 9999)) (b := .int .i64 (bn)) (c := .bool (bl)) (d := .int .i64 (bd)) hc3
  go_wp2_with fail
  refine (HD.out _ bel28).mono ?_
  rintro e w4 ⟨rfl, hb4⟩
  have hB4 : Below w.heap.size w w4 := bel28
  have hZ4 := hB4.size
  obtain ⟨hc4, hf4⟩ := bcell hb4
  have hz4 := hb4.size
  try simp at hz4
  have hl4w : w.heap.size < w4.heap.size := by omega
  have hl4w1 : w1.heap.size < w4.heap.size := by omega
  have hl4w2 : w2.heap.size < w4.heap.size := by omega
  obtain ⟨g4x0, g4x1, g4x2, g4x3⟩ := cel4 (B := w.heap.size) (a := .int .i64 (z)) (b := .int .i64 (3)) (c := .bool (l)) (d := .int .i64 (d)) hc4
  obtain ⟨g4x4, g4x5, g4x6, g4x7⟩ := cel4 (B := w1.heap.size) (a := .int .i64 (1 + y % 9999)) (b := .int .i64 (an)) (c := .bool (al)) (d := .int .i64 (ad)) hc4
  obtain ⟨g4x8, g4x9, g4x10, g4x11⟩ := cel4 (B := w2.heap.size) (a := .int .i64 (1 + y % 9999)) (b := .int .i64 (bn)) (c := .bool (bl)) (d := .int .i64 (bd)) hc4
  go_wp2_with fail
  refine (HW.out _ bel28).mono ?_
  rintro e w5 ⟨rfl, hb5⟩
  have hB5 : Below w.heap.size w w5 := bel28
  have hZ5 := hB5.size
  obtain ⟨hc5, hf5⟩ := bcell hb5
  have hz5 := hb5.size
  try simp at hz5
  have hl5w : w.heap.size < w5.heap.size := by omega
  have hl5w1 : w1.heap.size < w5.heap.size := by omega
  have hl5w2 : w2.heap.size < w5.heap.size := by omega
  obtain ⟨g5x0, g5x1, g5x2, g5x3⟩ := cel4 (B := w.heap.size) (a := .int .i64 (z)) (b := .int .i64 (3)) (c := .bool (l)) (d := .int .i64 (d)) hc5
  obtain ⟨g5x4, g5x5, g5x6, g5x7⟩ := cel4 (B := w1.heap.size) (a := .int .i64 (1 + y % 9999)) (b := .int .i64 (an)) (c := .bool (al)) (d := .int .i64 (ad)) hc5
  obtain ⟨g5x8, g5x9, g5x10, g5x11⟩ := cel4 (B := w2.heap.size) (a := .int .i64 (1 + y % 9999)) (b := .int .i64 (bn)) (c := .bool (bl)) (d := .int .i64 (bd)) hc5
  go_wp2_with fail
  go_ret
  refine ⟨by first | rfl | (simp [*]; done), ?_⟩
  exact bel
set_option maxHeartbeats 4000000 in
theorem WholeAnniversaries_two3b (z : Int) (l : Bool) (d y dn : Int) (an : Int) (al : Bool) (ad bn : Int) (bl : Bool) (bd : Int) (hy : 0 ≤ y ∧ y ≤ 65535) (hlt : z < 1 + y % 9999) (hdn : -1373427 ≤ dn ∧ dn ≤ 2278650) (hd : 30 ≤ d) (w : World)
    (HA : Hid (∀ W : World, Below w.heap.size w W → Calls Tryo.prog 52 #[.agg #[.int .i64 (z), .int .i64 (3), .bool (l), .int .i64 (d)], .int .i64 (1 + y % 9999)] W fun e w' => e = .returned (.tuple #[.agg #[.int .i64 (1 + y % 9999), .int .i64 (an), .bool (al), .int .i64 (ad)], .int .i64 0]) ∧ Below W.heap.size W w'))
    (HB : Hid (∀ W : World, Below w.heap.size w W → Calls Tryo.prog 53 #[.agg #[.int .i64 (z), .int .i64 (3), .bool (l), .int .i64 (d)], .int .i64 (1 + y % 9999)] W fun e w' => e = .returned (.tuple #[.agg #[.int .i64 (1 + y % 9999), .int .i64 (bn), .bool (bl), .int .i64 (bd)], .int .i64 0]) ∧ Below W.heap.size W w'))
    (HC : Hid (∀ W : World, Below w.heap.size w W → Calls Tryo.prog 40 #[.agg #[.int .i64 (1 + y % 9999), .int .i64 (an), .bool (al), .int .i64 (ad)]] W fun e w' => e = .returned (.tuple #[.int .i64 (dn + 1), .int .i64 0]) ∧ Below W.heap.size W w'))
    (HD : Hid (∀ W : World, Below w.heap.size w W → Calls Tryo.prog 40 #[.agg #[.int .i64 (1 + y % 9999), .int .i64 (bn), .bool (bl), .int .i64 (bd)]] W fun e w' => e = .returned (.tuple #[.int .i64 dn, .int .i64 0]) ∧ Below W.heap.size W w'))
    (HW : Hid (∀ W : World, Below w.heap.size w W → Calls Tryo.prog 34 #[] W fun e w' => e = .returned (.bool true) ∧ Below W.heap.size W w')) :
    Calls Tryo.prog 12 #[.agg #[.int .i64 (z), .int .i64 (3), .bool (l), .int .i64 (d)], .int .u16 y] w fun e w' => e = .returned (.bool true) ∧ Below w.heap.size w w' := by
  have HY := Lib.hid (fun w => top_year y hy w)
  obtain ⟨y1, y2⟩ := hy
  have k1 := Int.emod_nonneg y (show (9999 : Int) ≠ 0 by decide)
  have k2 := Int.emod_lt_of_pos y (show (0 : Int) < 9999 by decide)
  obtain ⟨dn1, dn2⟩ := hdn
  have ew : wrap64 (dn + 1) = dn + 1 := IntWalk.wrap64_in _ ⟨by omega, by omega⟩
  have en : (dn + 1 == dn) = false := by rw [beq_eq_false_iff_ne]; omega
  go_enter Tryo.func12, Tryz.ntmps12
  go_wp2_with fail
  refine (HY.out _).mono ?_
  rintro e w' ⟨rfl, rfl⟩
  go_wp2_with fail
  refine (HA.out _ bel28).mono ?_
  rintro e w1 ⟨rfl, hb1⟩
  have hB1 : Below w.heap.size w w1 := bel28
  have hZ1 := hB1.size
  obtain ⟨hc1, hf1⟩ := bcell hb1
  have hz1 := hb1.size
  try simp at hz1
  have hl1w : w.heap.size < w1.heap.size := by omega
  obtain ⟨g1x0, g1x1, g1x2, g1x3⟩ := cel4 (B := w.heap.size) (a := .int .i64 (z)) (b := .int .i64 (3)) (c := .bool (l)) (d := .int .i64 (d)) hc1
  go_wp2_with fail
  refine (HB.out _ bel28).mono ?_
  rintro e w2 ⟨rfl, hb2⟩
  have hB2 : Below w.heap.size w w2 := bel28
  have hZ2 := hB2.size
  obtain ⟨hc2, hf2⟩ := bcell hb2
  have hz2 := hb2.size
  try simp at hz2
  have hl2w : w.heap.size < w2.heap.size := by omega
  have hl2w1 : w1.heap.size < w2.heap.size := by omega
  obtain ⟨g2x0, g2x1, g2x2, g2x3⟩ := cel4 (B := w.heap.size) (a := .int .i64 (z)) (b := .int .i64 (3)) (c := .bool (l)) (d := .int .i64 (d)) hc2
  obtain ⟨g2x4, g2x5, g2x6, g2x7⟩ := cel4 (B := w1.heap.size) (a := .int .i64 (1 + y % 9999)) (b := .int .i64 (an)) (c := .bool (al)) (d := .int .i64 (ad)) hc2
  go_wp2_with fail
  refine (HC.out _ bel28).mono ?_
  rintro e w3 ⟨rfl, hb3⟩
  have hB3 : Below w.heap.size w w3 := bel28
  have hZ3 := hB3.size
  obtain ⟨hc3, hf3⟩ := bcell hb3
  have hz3 := hb3.size
  try simp at hz3
  have hl3w : w.heap.size < w3.heap.size := by omega
  have hl3w1 : w1.heap.size < w3.heap.size := by omega
  have hl3w2 : w2.heap.size < w3.heap.size := by omega
  obtain ⟨g3x0, g3x1, g3x2, g3x3⟩ := cel4 (B := w.heap.size) (a := .int .i64 (z)) (b := .int .i64 (3)) (c := .bool (l)) (d := .int .i64 (d)) hc3
  obtain ⟨g3x4, g3x5, g3x6, g3x7⟩ := cel4 (B := w1.heap.size) (a := .int .i64 (1 + y % 9999)) (b := .int .i64 (an)) (c := .bool (al)) (d := .int .i64 (ad)) hc3
  obtain ⟨g3x8, g3x9, g3x10, g3x11⟩ := cel4 (B := w2.heap.size) (a := .int .i64 (1 + y % 9999)) (b := .int .i64 (bn)) (c := .bool (bl)) (d := .int .i64 (bd)) hc3
  go_wp2_with fail
  refine (HD.out _ bel28).mono ?_
  rintro e w4 ⟨rfl, hb4⟩
  have hB4 : Below w.heap.size w w4 := bel28
  have hZ4 := hB4.size
  obtain ⟨hc4, hf4⟩ := bcell hb4
  have hz4 := hb4.size
  try simp at hz4
  have hl4w : w.heap.size < w4.heap.size := by omega
  have hl4w1 : w1.heap.size < w4.heap.size := by omega
  have hl4w2 : w2.heap.size < w4.heap.size := by omega
  obtain ⟨g4x0, g4x1, g4x2, g4x3⟩ := cel4 (B := w.heap.size) (a := .int .i64 (z)) (b := .int .i64 (3)) (c := .bool (l)) (d := .int .i64 (d)) hc4
  obtain ⟨g4x4, g4x5, g4x6, g4x7⟩ := cel4 (B := w1.heap.size) (a := .int .i64 (1 + y % 9999)) (b := .int .i64 (an)) (c := .bool (al)) (d := .int .i64 (ad)) hc4
  obtain ⟨g4x8, g4x9, g4x10, g4x11⟩ := cel4 (B := w2.heap.size) (a := .int .i64 (1 + y % 9999)) (b := .int .i64 (bn)) (c := .bool (bl)) (d := .int .i64 (bd)) hc4
  go_wp2_with fail
  refine (HW.out _ bel28).mono ?_
  rintro e w5 ⟨rfl, hb5⟩
  have hB5 : Below w.heap.size w w5 := bel28
  have hZ5 := hB5.size
  obtain ⟨hc5, hf5⟩ := bcell hb5
  have hz5 := hb5.size
  try simp at hz5
  have hl5w : w.heap.size < w5.heap.size := by omega
  have hl5w1 : w1.heap.size < w5.heap.size := by omega
  have hl5w2 : w2.heap.size < w5.heap.size := by omega
  obtain ⟨g5x0, g5x1, g5x2, g5x3⟩ := cel4 (B := w.heap.size) (a := .int .i64 (z)) (b := .int .i64 (3)) (c := .bool (l)) (d := .int .i64 (d)) hc5
  obtain ⟨g5x4, g5x5, g5x6, g5x7⟩ := cel4 (B := w1.heap.size) (a := .int .i64 (1 + y % 9999)) (b := .int .i64 (an)) (c := .bool (al)) (d := .int .i64 (ad)) hc5
  obtain ⟨g5x8, g5x9, g5x10, g5x11⟩ := cel4 (B := w2.heap.size) (a := .int .i64 (1 + y % 9999)) (b := .int .i64 (bn)) (c := .bool (bl)) (d := .int .i64 (bd)) hc5
  go_wp2_with fail
  go_ret
  refine ⟨by first | rfl | (simp [*]; done), ?_⟩
  exact bel
set_option maxHeartbeats 4000000 in
theorem WholeAnniversaries_elseA (z n : Int) (l : Bool) (d y dn dm : Int) (an : Int) (al : Bool) (ad bn : Int) (bl : Bool) (bd : Int) (hy : 0 ≤ y ∧ y ≤ 65535) (hlt : z < 1 + y % 9999) (hdn : -1373427 ≤ dn ∧ dn ≤ 2278650) (hd : 30 ≤ d) (hn2 : (n == 2) = false) (hn3 : (n == 3) = false) (hm : dn ≤ dm) (w : World)
    (HA : Hid (∀ W : World, Below w.heap.size w W → Calls Tryo.prog 52 #[.agg #[.int .i64 (z), .int .i64 (n), .bool (l), .int .i64 (d)], .int .i64 (1 + y % 9999)] W fun e w' => e = .returned (.tuple #[.agg #[.int .i64 (1 + y % 9999), .int .i64 (an), .bool (al), .int .i64 (ad)], .int .i64 0]) ∧ Below W.heap.size W w'))
    (HB : Hid (∀ W : World, Below w.heap.size w W → Calls Tryo.prog 53 #[.agg #[.int .i64 (z), .int .i64 (n), .bool (l), .int .i64 (d)], .int .i64 (1 + y % 9999)] W fun e w' => e = .returned (.tuple #[.agg #[.int .i64 (1 + y % 9999), .int .i64 (bn), .bool (bl), .int .i64 (bd)], .int .i64 0]) ∧ Below W.heap.size W w'))
    (HC : Hid (∀ W : World, Below w.heap.size w W → Calls Tryo.prog 40 #[.agg #[.int .i64 (1 + y % 9999), .int .i64 (an), .bool (al), .int .i64 (ad)]] W fun e w' => e = .returned (.tuple #[.int .i64 (dm), .int .i64 0]) ∧ Below W.heap.size W w'))
    (HD : Hid (∀ W : World, Below w.heap.size w W → Calls Tryo.prog 40 #[.agg #[.int .i64 (1 + y % 9999), .int .i64 (bn), .bool (bl), .int .i64 (bd)]] W fun e w' => e = .returned (.tuple #[.int .i64 dn, .int .i64 0]) ∧ Below W.heap.size W w'))
    (HW : Hid (∀ W : World, Below w.heap.size w W → Calls Tryo.prog 34 #[] W fun e w' => e = .returned (.bool true) ∧ Below W.heap.size W w')) :
    Calls Tryo.prog 12 #[.agg #[.int .i64 (z), .int .i64 (n), .bool (l), .int .i64 (d)], .int .u16 y] w fun e w' => e = .returned (.bool true) ∧ Below w.heap.size w w' := by
  have HY := Lib.hid (fun w => top_year y hy w)
  obtain ⟨y1, y2⟩ := hy
  have k1 := Int.emod_nonneg y (show (9999 : Int) ≠ 0 by decide)
  have k2 := Int.emod_lt_of_pos y (show (0 : Int) < 9999 by decide)
  go_enter Tryo.func12, Tryz.ntmps12
  go_wp2_with fail
  refine (HY.out _).mono ?_
  rintro e w' ⟨rfl, rfl⟩
  go_wp2_with fail
  refine (HA.out _ bel28).mono ?_
  rintro e w1 ⟨rfl, hb1⟩
  have hB1 : Below w.heap.size w w1 := bel28
  have hZ1 := hB1.size
  obtain ⟨hc1, hf1⟩ := bcell hb1
  have hz1 := hb1.size
  try simp at hz1
  have hl1w : w.heap.size < w1.heap.size := by omega
  obtain ⟨g1x0, g1x1, g1x2, g1x3⟩ := cel4 (B := w.heap.size) (a := .int .i64 (z)) (b := .int .i64 (n)) (c := .bool (l)) (d := .int .i64 (d)) hc1
  go_wp2_with fail
  refine (HB.out _ bel28).mono ?_
  rintro e w2 ⟨rfl, hb2⟩
  have hB2 : Below w.heap.size w w2 := bel28
  have hZ2 := hB2.size
  obtain ⟨hc2, hf2⟩ := bcell hb2
  have hz2 := hb2.size
  try simp at hz2
  have hl2w : w.heap.size < w2.heap.size := by omega
  have hl2w1 : w1.heap.size < w2.heap.size := by omega
  obtain ⟨g2x0, g2x1, g2x2, g2x3⟩ := cel4 (B := w.heap.size) (a := .int .i64 (z)) (b := .int .i64 (n)) (c := .bool (l)) (d := .int .i64 (d)) hc2
  obtain ⟨g2x4, g2x5, g2x6, g2x7⟩ := cel4 (B := w1.heap.size) (a := .int .i64 (1 + y % 9999)) (b := .int .i64 (an)) (c := .bool (al)) (d := .int .i64 (ad)) hc2
  go_wp2_with fail
  refine (HC.out _ bel28).mono ?_
  rintro e w3 ⟨rfl, hb3⟩
  have hB3 : Below w.heap.size w w3 := bel28
  have hZ3 := hB3.size
  obtain ⟨hc3, hf3⟩ := bcell hb3
  have hz3 := hb3.size
  try simp at hz3
  have hl3w : w.heap.size < w3.heap.size := by omega
  have hl3w1 : w1.heap.size < w3.heap.size := by omega
  have hl3w2 : w2.heap.size < w3.heap.size := by omega
  obtain ⟨g3x0, g3x1, g3x2, g3x3⟩ := cel4 (B := w.heap.size) (a := .int .i64 (z)) (b := .int .i64 (n)) (c := .bool (l)) (d := .int .i64 (d)) hc3
  obtain ⟨g3x4, g3x5, g3x6, g3x7⟩ := cel4 (B := w1.heap.size) (a := .int .i64 (1 + y % 9999)) (b := .int .i64 (an)) (c := .bool (al)) (d := .int .i64 (ad)) hc3
  obtain ⟨g3x8, g3x9, g3x10, g3x11⟩ := cel4 (B := w2.heap.size) (a := .int .i64 (1 + y % 9999)) (b := .int .i64 (bn)) (c := .bool (bl)) (d := .int .i64 (bd)) hc3
  go_wp2_with fail
  refine (HD.out _ bel28).mono ?_
  rintro e w4 ⟨rfl, hb4⟩
  have hB4 : Below w.heap.size w w4 := bel28
  have hZ4 := hB4.size
  obtain ⟨hc4, hf4⟩ := bcell hb4
  have hz4 := hb4.size
  try simp at hz4
  have hl4w : w.heap.size < w4.heap.size := by omega
  have hl4w1 : w1.heap.size < w4.heap.size := by omega
  have hl4w2 : w2.heap.size < w4.heap.size := by omega
  obtain ⟨g4x0, g4x1, g4x2, g4x3⟩ := cel4 (B := w.heap.size) (a := .int .i64 (z)) (b := .int .i64 (n)) (c := .bool (l)) (d := .int .i64 (d)) hc4
  obtain ⟨g4x4, g4x5, g4x6, g4x7⟩ := cel4 (B := w1.heap.size) (a := .int .i64 (1 + y % 9999)) (b := .int .i64 (an)) (c := .bool (al)) (d := .int .i64 (ad)) hc4
  obtain ⟨g4x8, g4x9, g4x10, g4x11⟩ := cel4 (B := w2.heap.size) (a := .int .i64 (1 + y % 9999)) (b := .int .i64 (bn)) (c := .bool (bl)) (d := .int .i64 (bd)) hc4
  go_wp2_with fail
  refine (HW.out _ bel28).mono ?_
  rintro e w5 ⟨rfl, hb5⟩
  have hB5 : Below w.heap.size w w5 := bel28
  have hZ5 := hB5.size
  obtain ⟨hc5, hf5⟩ := bcell hb5
  have hz5 := hb5.size
  try simp at hz5
  have hl5w : w.heap.size < w5.heap.size := by omega
  have hl5w1 : w1.heap.size < w5.heap.size := by omega
  have hl5w2 : w2.heap.size < w5.heap.size := by omega
  obtain ⟨g5x0, g5x1, g5x2, g5x3⟩ := cel4 (B := w.heap.size) (a := .int .i64 (z)) (b := .int .i64 (n)) (c := .bool (l)) (d := .int .i64 (d)) hc5
  obtain ⟨g5x4, g5x5, g5x6, g5x7⟩ := cel4 (B := w1.heap.size) (a := .int .i64 (1 + y % 9999)) (b := .int .i64 (an)) (c := .bool (al)) (d := .int .i64 (ad)) hc5
  obtain ⟨g5x8, g5x9, g5x10, g5x11⟩ := cel4 (B := w2.heap.size) (a := .int .i64 (1 + y % 9999)) (b := .int .i64 (bn)) (c := .bool (bl)) (d := .int .i64 (bd)) hc5
  go_wp2_with fail
  go_ret
  refine ⟨by first | rfl | (simp [*]; done), ?_⟩
  exact bel
set_option maxHeartbeats 4000000 in
theorem WholeAnniversaries_elseB (z : Int) (l : Bool) (d y dn dm : Int) (an : Int) (al : Bool) (ad bn : Int) (bl : Bool) (bd : Int) (hy : 0 ≤ y ∧ y ≤ 65535) (hlt : z < 1 + y % 9999) (hdn : -1373427 ≤ dn ∧ dn ≤ 2278650) (hd : d < 30) (hm : dn ≤ dm) (w : World)
    (HA : Hid (∀ W : World, Below w.heap.size w W → Calls Tryo.prog 52 #[.agg #[.int .i64 (z), .int .i64 (6), .bool (l), .int .i64 (d)], .int .i64 (1 + y % 9999)] W fun e w' => e = .returned (.tuple #[.agg #[.int .i64 (1 + y % 9999), .int .i64 (an), .bool (al), .int .i64 (ad)], .int .i64 0]) ∧ Below W.heap.size W w'))
    (HB : Hid (∀ W : World, Below w.heap.size w W → Calls Tryo.prog 53 #[.agg #[.int .i64 (z), .int .i64 (6), .bool (l), .int .i64 (d)], .int .i64 (1 + y % 9999)] W fun e w' => e = .returned (.tuple #[.agg #[.int .i64 (1 + y % 9999), .int .i64 (bn), .bool (bl), .int .i64 (bd)], .int .i64 0]) ∧ Below W.heap.size W w'))
    (HC : Hid (∀ W : World, Below w.heap.size w W → Calls Tryo.prog 40 #[.agg #[.int .i64 (1 + y % 9999), .int .i64 (an), .bool (al), .int .i64 (ad)]] W fun e w' => e = .returned (.tuple #[.int .i64 (dm), .int .i64 0]) ∧ Below W.heap.size W w'))
    (HD : Hid (∀ W : World, Below w.heap.size w W → Calls Tryo.prog 40 #[.agg #[.int .i64 (1 + y % 9999), .int .i64 (bn), .bool (bl), .int .i64 (bd)]] W fun e w' => e = .returned (.tuple #[.int .i64 dn, .int .i64 0]) ∧ Below W.heap.size W w'))
    (HW : Hid (∀ W : World, Below w.heap.size w W → Calls Tryo.prog 34 #[] W fun e w' => e = .returned (.bool true) ∧ Below W.heap.size W w')) :
    Calls Tryo.prog 12 #[.agg #[.int .i64 (z), .int .i64 (6), .bool (l), .int .i64 (d)], .int .u16 y] w fun e w' => e = .returned (.bool true) ∧ Below w.heap.size w w' := by
  have HY := Lib.hid (fun w => top_year y hy w)
  obtain ⟨y1, y2⟩ := hy
  have k1 := Int.emod_nonneg y (show (9999 : Int) ≠ 0 by decide)
  have k2 := Int.emod_lt_of_pos y (show (0 : Int) < 9999 by decide)
  go_enter Tryo.func12, Tryz.ntmps12
  go_wp2_with fail
  refine (HY.out _).mono ?_
  rintro e w' ⟨rfl, rfl⟩
  go_wp2_with fail
  refine (HA.out _ bel28).mono ?_
  rintro e w1 ⟨rfl, hb1⟩
  have hB1 : Below w.heap.size w w1 := bel28
  have hZ1 := hB1.size
  obtain ⟨hc1, hf1⟩ := bcell hb1
  have hz1 := hb1.size
  try simp at hz1
  have hl1w : w.heap.size < w1.heap.size := by omega
  obtain ⟨g1x0, g1x1, g1x2, g1x3⟩ := cel4 (B := w.heap.size) (a := .int .i64 (z)) (b := .int .i64 (6)) (c := .bool (l)) (d := .int .i64 (d)) hc1
  go_wp2_with fail
  refine (HB.out _ bel28).mono ?_
  rintro e w2 ⟨rfl, hb2⟩
  have hB2 : Below w.heap.size w w2 := bel28
  have hZ2 := hB2.size
  obtain ⟨hc2, hf2⟩ := bcell hb2
  have hz2 := hb2.size
  try simp at hz2
  have hl2w : w.heap.size < w2.heap.size := by omega
  have hl2w1 : w1.heap.size < w2.heap.size := by omega
  obtain ⟨g2x0, g2x1, g2x2, g2x3⟩ := cel4 (B := w.heap.size) (a := .int .i64 (z)) (b := .int .i64 (6)) (c := .bool (l)) (d := .int .i64 (d)) hc2
  obtain ⟨g2x4, g2x5, g2x6, g2x7⟩ := cel4 (B := w1.heap.size) (a := .int .i64 (1 + y % 9999)) (b := .int .i64 (an)) (c := .bool (al)) (d := .int .i64 (ad)) hc2
  go_wp2_with fail
  refine (HC.out _ bel28).mono ?_
  rintro e w3 ⟨rfl, hb3⟩
  have hB3 : Below w.heap.size w w3 := bel28
  have hZ3 := hB3.size
  obtain ⟨hc3, hf3⟩ := bcell hb3
  have hz3 := hb3.size
  try simp at hz3
  have hl3w : w.heap.size < w3.heap.size := by omega
  have hl3w1 : w1.heap.size < w3.heap.size := by omega
  have hl3w2 : w2.heap.size < w3.heap.size := by omega
  obtain ⟨g3x0, g3x1, g3x2, g3x3⟩ := cel4 (B := w.heap.size) (a := .int .i64 (z)) (b := .int .i64 (6)) (c := .bool (l)) (d := .int .i64 (d)) hc3
  obtain ⟨g3x4, g3x5, g3x6, g3x7⟩ := cel4 (B := w1.heap.size) (a := .int .i64 (1 + y % 9999)) (b := .int .i64 (an)) (c := .bool (al)) (d := .int .i64 (ad)) hc3
  obtain ⟨g3x8, g3x9, g3x10, g3x11⟩ := cel4 (B := w2.heap.size) (a := .int .i64 (1 + y % 9999)) (b := .int .i64 (bn)) (c := .bool (bl)) (d := .int .i64 (bd)) hc3
  go_wp2_with fail
  refine (HD.out _ bel28).mono ?_
  rintro e w4 ⟨rfl, hb4⟩
  have hB4 : Below w.heap.size w w4 := bel28
  have hZ4 := hB4.size
  obtain ⟨hc4, hf4⟩ := bcell hb4
  have hz4 := hb4.size
  try simp at hz4
  have hl4w : w.heap.size < w4.heap.size := by omega
  have hl4w1 : w1.heap.size < w4.heap.size := by omega
  have hl4w2 : w2.heap.size < w4.heap.size := by omega
  obtain ⟨g4x0, g4x1, g4x2, g4x3⟩ := cel4 (B := w.heap.size) (a := .int .i64 (z)) (b := .int .i64 (6)) (c := .bool (l)) (d := .int .i64 (d)) hc4
  obtain ⟨g4x4, g4x5, g4x6, g4x7⟩ := cel4 (B := w1.heap.size) (a := .int .i64 (1 + y % 9999)) (b := .int .i64 (an)) (c := .bool (al)) (d := .int .i64 (ad)) hc4
  obtain ⟨g4x8, g4x9, g4x10, g4x11⟩ := cel4 (B := w2.heap.size) (a := .int .i64 (1 + y % 9999)) (b := .int .i64 (bn)) (c := .bool (bl)) (d := .int .i64 (bd)) hc4
  go_wp2_with fail
  refine (HW.out _ bel28).mono ?_
  rintro e w5 ⟨rfl, hb5⟩
  have hB5 : Below w.heap.size w w5 := bel28
  have hZ5 := hB5.size
  obtain ⟨hc5, hf5⟩ := bcell hb5
  have hz5 := hb5.size
  try simp at hz5
  have hl5w : w.heap.size < w5.heap.size := by omega
  have hl5w1 : w1.heap.size < w5.heap.size := by omega
  have hl5w2 : w2.heap.size < w5.heap.size := by omega
  obtain ⟨g5x0, g5x1, g5x2, g5x3⟩ := cel4 (B := w.heap.size) (a := .int .i64 (z)) (b := .int .i64 (6)) (c := .bool (l)) (d := .int .i64 (d)) hc5
  obtain ⟨g5x4, g5x5, g5x6, g5x7⟩ := cel4 (B := w1.heap.size) (a := .int .i64 (1 + y % 9999)) (b := .int .i64 (an)) (c := .bool (al)) (d := .int .i64 (ad)) hc5
  obtain ⟨g5x8, g5x9, g5x10, g5x11⟩ := cel4 (B := w2.heap.size) (a := .int .i64 (1 + y % 9999)) (b := .int .i64 (bn)) (c := .bool (bl)) (d := .int .i64 (bd)) hc5
  go_wp2_with fail
  go_ret
  refine ⟨by first | rfl | (simp [*]; done), ?_⟩
  exact bel
set_option maxHeartbeats 4000000 in
theorem WholeAnniversaries_elseC (z n d y dn dm : Int) (an : Int) (al : Bool) (ad bn : Int) (bl : Bool) (bd : Int) (hy : 0 ≤ y ∧ y ≤ 65535) (hlt : z < 1 + y % 9999) (hdn : -1373427 ≤ dn ∧ dn ≤ 2278650) (hd : d < 30) (hn6 : (n != 6) = true) (hn2 : (n == 2) = false) (hn3 : (n == 3) = false) (hm : dn ≤ dm) (w : World)
    (HA : Hid (∀ W : World, Below w.heap.size w W → Calls Tryo.prog 52 #[.agg #[.int .i64 (z), .int .i64 (n), .bool (true), .int .i64 (d)], .int .i64 (1 + y % 9999)] W fun e w' => e = .returned (.tuple #[.agg #[.int .i64 (1 + y % 9999), .int .i64 (an), .bool (al), .int .i64 (ad)], .int .i64 0]) ∧ Below W.heap.size W w'))
    (HB : Hid (∀ W : World, Below w.heap.size w W → Calls Tryo.prog 53 #[.agg #[.int .i64 (z), .int .i64 (n), .bool (true), .int .i64 (d)], .int .i64 (1 + y % 9999)] W fun e w' => e = .returned (.tuple #[.agg #[.int .i64 (1 + y % 9999), .int .i64 (bn), .bool (bl), .int .i64 (bd)], .int .i64 0]) ∧ Below W.heap.size W w'))
    (HC : Hid (∀ W : World, Below w.heap.size w W → Calls Tryo.prog 40 #[.agg #[.int .i64 (1 + y % 9999), .int .i64 (an), .bool (al), .int .i64 (ad)]] W fun e w' => e = .returned (.tuple #[.int .i64 (dm), .int .i64 0]) ∧ Below W.heap.size W w'))
    (HD : Hid (∀ W : World, Below w.heap.size w W → Calls Tryo.prog 40 #[.agg #[.int .i64 (1 + y % 9999), .int .i64 (bn), .bool (bl), .int .i64 (bd)]] W fun e w' => e = .returned (.tuple #[.int .i64 dn, .int .i64 0]) ∧ Below W.heap.size W w'))
    (HW : Hid (∀ W : World, Below w.heap.size w W → Calls Tryo.prog 34 #[] W fun e w' => e = .returned (.bool true) ∧ Below W.heap.size W w')) :
    Calls Tryo.prog 12 #[.agg #[.int .i64 (z), .int .i64 (n), .bool (true), .int .i64 (d)], .int .u16 y] w fun e w' => e = .returned (.bool true) ∧ Below w.heap.size w w' := by
  have HY := Lib.hid (fun w => top_year y hy w)
  obtain ⟨y1, y2⟩ := hy
  have k1 := Int.emod_nonneg y (show (9999 : Int) ≠ 0 by decide)
  have k2 := Int.emod_lt_of_pos y (show (0 : Int) < 9999 by decide)
  go_enter Tryo.func12, Tryz.ntmps12
  go_wp2_with fail
  refine (HY.out _).mono ?_
  rintro e w' ⟨rfl, rfl⟩
  go_wp2_with fail
  refine (HA.out _ bel28).mono ?_
  rintro e w1 ⟨rfl, hb1⟩
  have hB1 : Below w.heap.size w w1 := bel28
  have hZ1 := hB1.size
  obtain ⟨hc1, hf1⟩ := bcell hb1
  have hz1 := hb1.size
  try simp at hz1
  have hl1w : w.heap.size < w1.heap.size := by omega
  obtain ⟨g1x0, g1x1, g1x2, g1x3⟩ := cel4 (B := w.heap.size) (a := .int .i64 (z)) (b := .int .i64 (n)) (c := .bool (true)) (d := .int .i64 (d)) hc1
  go_wp2_with fail
  refine (HB.out _ bel28).mono ?_
  rintro e w2 ⟨rfl, hb2⟩
  have hB2 : Below w.heap.size w w2 := bel28
  have hZ2 := hB2.size
  obtain ⟨hc2, hf2⟩ := bcell hb2
  have hz2 := hb2.size
  try simp at hz2
  have hl2w : w.heap.size < w2.heap.size := by omega
  have hl2w1 : w1.heap.size < w2.heap.size := by omega
  obtain ⟨g2x0, g2x1, g2x2, g2x3⟩ := cel4 (B := w.heap.size) (a := .int .i64 (z)) (b := .int .i64 (n)) (c := .bool (true)) (d := .int .i64 (d)) hc2
  obtain ⟨g2x4, g2x5, g2x6, g2x7⟩ := cel4 (B := w1.heap.size) (a := .int .i64 (1 + y % 9999)) (b := .int .i64 (an)) (c := .bool (al)) (d := .int .i64 (ad)) hc2
  go_wp2_with fail
  refine (HC.out _ bel28).mono ?_
  rintro e w3 ⟨rfl, hb3⟩
  have hB3 : Below w.heap.size w w3 := bel28
  have hZ3 := hB3.size
  obtain ⟨hc3, hf3⟩ := bcell hb3
  have hz3 := hb3.size
  try simp at hz3
  have hl3w : w.heap.size < w3.heap.size := by omega
  have hl3w1 : w1.heap.size < w3.heap.size := by omega
  have hl3w2 : w2.heap.size < w3.heap.size := by omega
  obtain ⟨g3x0, g3x1, g3x2, g3x3⟩ := cel4 (B := w.heap.size) (a := .int .i64 (z)) (b := .int .i64 (n)) (c := .bool (true)) (d := .int .i64 (d)) hc3
  obtain ⟨g3x4, g3x5, g3x6, g3x7⟩ := cel4 (B := w1.heap.size) (a := .int .i64 (1 + y % 9999)) (b := .int .i64 (an)) (c := .bool (al)) (d := .int .i64 (ad)) hc3
  obtain ⟨g3x8, g3x9, g3x10, g3x11⟩ := cel4 (B := w2.heap.size) (a := .int .i64 (1 + y % 9999)) (b := .int .i64 (bn)) (c := .bool (bl)) (d := .int .i64 (bd)) hc3
  go_wp2_with fail
  refine (HD.out _ bel28).mono ?_
  rintro e w4 ⟨rfl, hb4⟩
  have hB4 : Below w.heap.size w w4 := bel28
  have hZ4 := hB4.size
  obtain ⟨hc4, hf4⟩ := bcell hb4
  have hz4 := hb4.size
  try simp at hz4
  have hl4w : w.heap.size < w4.heap.size := by omega
  have hl4w1 : w1.heap.size < w4.heap.size := by omega
  have hl4w2 : w2.heap.size < w4.heap.size := by omega
  obtain ⟨g4x0, g4x1, g4x2, g4x3⟩ := cel4 (B := w.heap.size) (a := .int .i64 (z)) (b := .int .i64 (n)) (c := .bool (true)) (d := .int .i64 (d)) hc4
  obtain ⟨g4x4, g4x5, g4x6, g4x7⟩ := cel4 (B := w1.heap.size) (a := .int .i64 (1 + y % 9999)) (b := .int .i64 (an)) (c := .bool (al)) (d := .int .i64 (ad)) hc4
  obtain ⟨g4x8, g4x9, g4x10, g4x11⟩ := cel4 (B := w2.heap.size) (a := .int .i64 (1 + y % 9999)) (b := .int .i64 (bn)) (c := .bool (bl)) (d := .int .i64 (bd)) hc4
  go_wp2_with fail
  refine (HW.out _ bel28).mono ?_
  rintro e w5 ⟨rfl, hb5⟩
  have hB5 : Below w.heap.size w w5 := bel28
  have hZ5 := hB5.size
  obtain ⟨hc5, hf5⟩ := bcell hb5
  have hz5 := hb5.size
  try simp at hz5
  have hl5w : w.heap.size < w5.heap.size := by omega
  have hl5w1 : w1.heap.size < w5.heap.size := by omega
  have hl5w2 : w2.heap.size < w5.heap.size := by omega
  obtain ⟨g5x0, g5x1, g5x2, g5x3⟩ := cel4 (B := w.heap.size) (a := .int .i64 (z)) (b := .int .i64 (n)) (c := .bool (true)) (d := .int .i64 (d)) hc5
  obtain ⟨g5x4, g5x5, g5x6, g5x7⟩ := cel4 (B := w1.heap.size) (a := .int .i64 (1 + y % 9999)) (b := .int .i64 (an)) (c := .bool (al)) (d := .int .i64 (ad)) hc5
  obtain ⟨g5x8, g5x9, g5x10, g5x11⟩ := cel4 (B := w2.heap.size) (a := .int .i64 (1 + y % 9999)) (b := .int .i64 (bn)) (c := .bool (bl)) (d := .int .i64 (bd)) hc5
  go_wp2_with fail
  go_ret
  refine ⟨by first | rfl | (simp [*]; done), ?_⟩
  exact bel
end Go.Proofs.YtaaaalbgjpjgoaaGreatDoor
