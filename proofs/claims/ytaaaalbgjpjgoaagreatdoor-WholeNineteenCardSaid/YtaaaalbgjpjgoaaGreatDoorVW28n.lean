/- Through the layers: WholeNineteen, by the contracts of its calls. -/
import Derived.Test.YtaaaalbgjpjgoaaGreatDoorVW28k
set_option linter.unusedVariables false
set_option linter.unusedSimpArgs false
set_option maxRecDepth 100000
namespace Go.Proofs.YtaaaalbgjpjgoaaGreatDoor
open Go.ChangeShapes Go.WideShapes Go.ChangeAt Go.RowKit Go.Lib
set_option maxHeartbeats 4000000 in
theorem WholeNineteen_go (y ad ap bd bp : Int) (hy : 0 ≤ y ∧ y ≤ 65535) (ha : -7300000 ≤ ad ∧ ad ≤ 4600002) (hb : -7300000 ≤ bd ∧ bd ≤ 4600002) (hp : 0 ≤ ap ∧ ap < 25920) (hq : 0 ≤ bp ∧ bp < 25920) (hE : 25920 * (bd - ad) + bp - ap = 179876755) (w : World)
    (HA : Hid (∀ W : World, Below w.heap.size w W → Calls Tryo.prog 32 #[.int .i64 (1 + y % 9980), .int .i64 1] W fun e w' => e = .returned (.tuple #[.agg #[.int .i64 (ad), .int .i64 (ap)], .int .i64 0]) ∧ Below W.heap.size W w'))
    (HC : Hid (∀ W : World, Below w.heap.size w W → Calls Tryo.prog 32 #[.int .i64 (1 + y % 9980 + 19), .int .i64 1] W fun e w' => e = .returned (.tuple #[.agg #[.int .i64 (bd), .int .i64 (bp)], .int .i64 0]) ∧ Below W.heap.size W w'))
    (HW : Hid (∀ W : World, Below w.heap.size w W → Calls Tryo.prog 34 #[] W fun e w' => e = .returned (.bool true) ∧ Below W.heap.size W w')) :
    Calls Tryo.prog 13 #[.int .u16 y] w fun e w' => e = .returned (.bool true) ∧ Below w.heap.size w w' := by
  obtain ⟨y1, y2⟩ := hy
  have k0 : y.tmod 9980 = y % 9980 := Int.tmod_eq_emod_of_nonneg y1
  have k1 := Int.emod_nonneg y (show (9980 : Int) ≠ 0 by decide)
  have k2 := Int.emod_lt_of_pos y (show (0 : Int) < 9980 by decide)
  obtain ⟨a1, a2⟩ := ha
  obtain ⟨b1, b2⟩ := hb
  obtain ⟨p1, p2⟩ := hp
  obtain ⟨q1, q2⟩ := hq
  go_enter Tryo.func13, Tryz.ntmps13
  go_wp2_with fail
  refine (HA.out _ bel).mono ?_
  rintro e w1 ⟨rfl, hb1⟩
  have hB1 : Below w.heap.size w w1 := bel
  have hZ1 := hB1.size
  obtain ⟨hc1, hf1⟩ := bcell hb1
  have hz1 := hb1.size
  try simp at hz1
  go_wp2_with fail
  refine (HC.out _ bel).mono ?_
  rintro e w2 ⟨rfl, hb2⟩
  have hB2 : Below w.heap.size w w2 := bel
  have hZ2 := hB2.size
  obtain ⟨hc2, hf2⟩ := bcell hb2
  have hz2 := hb2.size
  try simp at hz2
  have hl2w1 : w1.heap.size < w2.heap.size := by omega
  have hm2w1 : w1.heap.size ≤ w2.heap.size := by omega
  have g2x0 : w2.cell? ⟨w1.heap.size, 0, none⟩ = some (.int .i64 (ad)) := cel hc2
  have g2x1 : w2.cell? ⟨w1.heap.size, 1, none⟩ = some (.int .i64 (ap)) := cel hc2
  go_wp2_with fail
  refine (HW.out _ bel).mono ?_
  rintro e w3 ⟨rfl, hb3⟩
  have hB3 : Below w.heap.size w w3 := bel
  have hZ3 := hB3.size
  obtain ⟨hc3, hf3⟩ := bcell hb3
  have hz3 := hb3.size
  try simp at hz3
  have hl3w1 : w1.heap.size < w3.heap.size := by omega
  have hm3w1 : w1.heap.size ≤ w3.heap.size := by omega
  have hl3w2 : w2.heap.size < w3.heap.size := by omega
  have hm3w2 : w2.heap.size ≤ w3.heap.size := by omega
  have g3x0 : w3.cell? ⟨w1.heap.size, 0, none⟩ = some (.int .i64 (ad)) := cel hc3
  have g3x1 : w3.cell? ⟨w1.heap.size, 1, none⟩ = some (.int .i64 (ap)) := cel hc3
  have g3x2 : w3.cell? ⟨w2.heap.size, 0, none⟩ = some (.int .i64 (bd)) := cel hc3
  have g3x3 : w3.cell? ⟨w2.heap.size, 1, none⟩ = some (.int .i64 (bp)) := cel hc3
  go_wp2_with fail
  go_ret
  refine ⟨by first | rfl | (simp [*]; done), ?_⟩
  exact bel
end Go.Proofs.YtaaaalbgjpjgoaaGreatDoor
