/- Layer 4: the walks of its laws. -/
import Derived.Test.YtemkngkaaabghaaMolad
import Derived.Deep.Light
import Derived.Deep.QuietTactic
import Derived.BigQuiet
namespace Go.Proofs.Ytemkngkaaabghaa
open Go.ChangeShapes Go.WideShapes Go.ChangeAt Go.RowKit
set_option linter.unusedVariables false

theorem molad_Of_at (y m n : Int) (w : World) (h0 : 0 ≤ y) (h1 : y ≤ 10001) (m1 : 1 ≤ m) (m2 : m ≤ Cal.months y) (hn : Cal.before y + m - 1 = n) :
    Calls Try.prog 51 #[.int .i64 y, .int .i64 m] w fun e w' => e = .returned (.tuple #[.agg #[.int .i64 (Cal.moonDay n), .int .i64 (Cal.moonPart n)], .int .i64 0]) ∧ Below w.heap.size w w' := by
  have := molad_Of y m w (by obtain ⟨b1, b2⟩ := months_bd y; exact ⟨by omega, by omega⟩)
  rwa [(of_yes y m h0 h1 m1 m2).1, (of_yes y m h0 h1 m1 m2).2.1, (of_yes y m h0 h1 m1 m2).2.2, hn] at this
theorem molad_Of_month (y m : Int) (w : World) (h0 : 0 ≤ y) (h1 : y ≤ 10001) (hm : I64 m) (h : m < 1 ∨ Cal.months y < m) :
    Calls Try.prog 51 #[.int .i64 y, .int .i64 m] w fun e w' => e = .returned (.tuple #[.agg #[.int .i64 0, .int .i64 0], .int .i64 3]) ∧ Below w.heap.size w w' := by
  have := molad_Of y m w hm
  rwa [(of_month y m h0 h1 h).1, (of_month y m h0 h1 h).2.1, (of_month y m h0 h1 h).2.2] at this
theorem molad_Of_first (w : World) :
    Calls Try.prog 51 #[.int .i64 1, .int .i64 1] w fun e w' => e = .returned (.tuple #[.agg #[.int .i64 (-1373427), .int .i64 5604], .int .i64 0]) ∧ Below w.heap.size w w' := by
  have := molad_Of_at 1 1 0 w (by omega) (by omega) (by omega) (by decide) (by decide)
  rwa [show Cal.moonDay 0 = -1373427 by decide, show Cal.moonPart 0 = 5604 by decide] at this
theorem awake4 (w : World) : Calls Try.prog 53 #[] w fun e w' => e = .returned (.bool true) ∧ Below w.heap.size w w' := by
  go_enter Try.func53, Try.ntmps53
  go_wp2_with fail
  refine (molad_Of_first _).mono ?_
  rintro e w1 ⟨rfl, hb1⟩
  obtain ⟨hc1, hf1⟩ := bcell hb1
  have hz1 := hb1.size
  try simp at hz1
  go_wp2_with fail
  refine (molad_Of_month 5785 13 _ (by omega) (by omega) ⟨by omega, by omega⟩ (by decide)).mono ?_
  rintro e w2 ⟨rfl, hb2⟩
  obtain ⟨hc2, hf2⟩ := bcell hb2
  have hz2 := hb2.size
  try simp at hz2
  have hl2w1 : w1.heap.size < w2.heap.size := by omega
  have hm2w1 : w1.heap.size ≤ w2.heap.size := by omega
  have g2x0 : w2.cell? ⟨w1.heap.size, 0, none⟩ = some (.int .i64 (-1373427)) := (hc2 _ _ (by simp; try omega)).trans (by first | assumption | simp [go_sem] | simp [go_sem, *])
  have g2x1 : w2.cell? ⟨w1.heap.size, 1, none⟩ = some (.int .i64 5604) := (hc2 _ _ (by simp; try omega)).trans (by first | assumption | simp [go_sem] | simp [go_sem, *])
  go_wp2_with fail
  refine (molad_Weekday (-1373427) _ ⟨by omega, by omega⟩).mono ?_
  rintro e w' ⟨rfl, rfl⟩
  go_wp2_with fail
  go_ret
  exact ⟨rfl, baa (bt (baa hb1 _) hb2) _⟩
theorem MoladWeek_walk (d : Int) (hd : -2147483648 ≤ d ∧ d ≤ 2147483647) (w : World) :
    Calls Try.prog 15 #[.int .i32 d] w fun e w' => e = .returned (.bool true) ∧ Below w.heap.size w w' := by
  obtain ⟨d1, d2⟩ := hd
  have k1 : 0 ≤ d % 7 := by omega
  have k2 : d % 7 < 7 := by omega
  have h1 := fun w => molad_Weekday d w ⟨by omega, by omega⟩
  have h2 := fun w => molad_Weekday (d + 1) w ⟨by omega, by omega⟩
  have h3 := fun w => molad_Weekday (d - 7) w ⟨by omega, by omega⟩
  rw [show (d + 1) % 7 = (d % 7 + 1) % 7 by omega] at h2
  rw [show (d - 7) % 7 = d % 7 by omega] at h3
  generalize d % 7 = r at *
  have H1 := Lib.hid h1
  have H2 := Lib.hid h2
  have H3 := Lib.hid h3
  clear h1 h2 h3
  go_enter Try.func15, Try.ntmps15
  go_wp2_with fail
  refine (H1.out _).mono ?_
  rintro e w' ⟨rfl, rfl⟩
  go_wp2_with fail
  refine (awake4 _).mono ?_
  rintro e w1 ⟨rfl, hb1⟩
  obtain ⟨hc1, hf1⟩ := bcell hb1
  have hz1 := hb1.size
  try simp at hz1
  go_wp2_with fail
  refine (H2.out _).mono ?_
  rintro e w' ⟨rfl, rfl⟩
  go_wp2_with fail
  refine (H3.out _).mono ?_
  rintro e w' ⟨rfl, rfl⟩
  go_wp2_with fail
  go_ret
  exact ⟨rfl, hb1⟩
theorem bdn {a b : World} (h : Below a.heap.size a b) (n : Nat) : Below a.heap.size a (b.drewN n) := h.trans ⟨rfl, rfl, rfl, Nat.le_refl _, fun _ _ => rfl⟩
theorem MoladTells_walk (a n y m : Int) (ha : I64 a) (hn : I64 n) (hy : I64 y) (hm : I64 m) (w : World) :
    Calls Try.prog 13 #[.agg #[.int .i64 a, .int .i64 n, .int .i64 y, .int .i64 m]] w fun e w' => e = .returned (.bool true) ∧ Below w.heap.size w w' := by
  have H1 := Lib.hid (fun w => molad_Weekday a w ha)
  go_enter Try.func13, Try.ntmps13
  go_wp2_with fail
  go_quiet (fail)
  go_wp2_with fail
  refine (molad_Moon n _).mono ?_
  rintro e w1 ⟨rfl, hb1⟩
  obtain ⟨hc1, hf1⟩ := bcell hb1
  have hz1 := hb1.size
  try simp at hz1
  go_wp2_with fail
  refine (ref4_Moon n _).mono ?_
  rintro e w2 ⟨rfl, hb2⟩
  obtain ⟨hc2, hf2⟩ := bcell hb2
  have hz2 := hb2.size
  try simp at hz2
  have hl2w1 : w1.heap.size < w2.heap.size := by omega
  have hm2w1 : w1.heap.size ≤ w2.heap.size := by omega
  have g2x0 : w2.cell? ⟨w1.heap.size, 0, none⟩ = some (.int .i64 (Cal.moonD n)) := (hc2 _ _ (by simp; try omega)).trans (by first | assumption | simp [go_sem] | simp [go_sem, *])
  have g2x1 : w2.cell? ⟨w1.heap.size, 1, none⟩ = some (.int .i64 (Cal.moonP n)) := (hc2 _ _ (by simp; try omega)).trans (by first | assumption | simp [go_sem] | simp [go_sem, *])
  go_wp2_with fail
  refine (molad_Of y m _ hm).mono ?_
  rintro e w3 ⟨rfl, hb3⟩
  obtain ⟨hc3, hf3⟩ := bcell hb3
  have hz3 := hb3.size
  try simp at hz3
  have hl3w1 : w1.heap.size < w3.heap.size := by omega
  have hm3w1 : w1.heap.size ≤ w3.heap.size := by omega
  have hl3w2 : w2.heap.size < w3.heap.size := by omega
  have hm3w2 : w2.heap.size ≤ w3.heap.size := by omega
  have g3x0 : w3.cell? ⟨w1.heap.size, 0, none⟩ = some (.int .i64 (Cal.moonD n)) := (hc3 _ _ (by simp; try omega)).trans (by first | assumption | simp [go_sem] | simp [go_sem, *])
  have g3x1 : w3.cell? ⟨w1.heap.size, 1, none⟩ = some (.int .i64 (Cal.moonP n)) := (hc3 _ _ (by simp; try omega)).trans (by first | assumption | simp [go_sem] | simp [go_sem, *])
  have g3x2 : w3.cell? ⟨w2.heap.size, 0, none⟩ = some (.int .i64 (Cal.moonD n)) := (hc3 _ _ (by simp; try omega)).trans (by first | assumption | simp [go_sem] | simp [go_sem, *])
  have g3x3 : w3.cell? ⟨w2.heap.size, 1, none⟩ = some (.int .i64 (Cal.moonP n)) := (hc3 _ _ (by simp; try omega)).trans (by first | assumption | simp [go_sem] | simp [go_sem, *])
  go_wp2_with fail
  refine (ref4_Of y m _ hm).mono ?_
  rintro e w4 ⟨rfl, hb4⟩
  obtain ⟨hc4, hf4⟩ := bcell hb4
  have hz4 := hb4.size
  try simp at hz4
  have hl4w1 : w1.heap.size < w4.heap.size := by omega
  have hm4w1 : w1.heap.size ≤ w4.heap.size := by omega
  have hl4w2 : w2.heap.size < w4.heap.size := by omega
  have hm4w2 : w2.heap.size ≤ w4.heap.size := by omega
  have hl4w3 : w3.heap.size < w4.heap.size := by omega
  have hm4w3 : w3.heap.size ≤ w4.heap.size := by omega
  have g4x0 : w4.cell? ⟨w1.heap.size, 0, none⟩ = some (.int .i64 (Cal.moonD n)) := (hc4 _ _ (by simp; try omega)).trans (by first | assumption | simp [go_sem] | simp [go_sem, *])
  have g4x1 : w4.cell? ⟨w1.heap.size, 1, none⟩ = some (.int .i64 (Cal.moonP n)) := (hc4 _ _ (by simp; try omega)).trans (by first | assumption | simp [go_sem] | simp [go_sem, *])
  have g4x2 : w4.cell? ⟨w2.heap.size, 0, none⟩ = some (.int .i64 (Cal.moonD n)) := (hc4 _ _ (by simp; try omega)).trans (by first | assumption | simp [go_sem] | simp [go_sem, *])
  have g4x3 : w4.cell? ⟨w2.heap.size, 1, none⟩ = some (.int .i64 (Cal.moonP n)) := (hc4 _ _ (by simp; try omega)).trans (by first | assumption | simp [go_sem] | simp [go_sem, *])
  have g4x4 : w4.cell? ⟨w3.heap.size, 0, none⟩ = some (.int .i64 (Cal.ofD y m)) := (hc4 _ _ (by simp; try omega)).trans (by first | assumption | simp [go_sem] | simp [go_sem, *])
  have g4x5 : w4.cell? ⟨w3.heap.size, 1, none⟩ = some (.int .i64 (Cal.ofP y m)) := (hc4 _ _ (by simp; try omega)).trans (by first | assumption | simp [go_sem] | simp [go_sem, *])
  go_wp2_with fail
  refine (awake4 _).mono ?_
  rintro e w5 ⟨rfl, hb5⟩
  obtain ⟨hc5, hf5⟩ := bcell hb5
  have hz5 := hb5.size
  try simp at hz5
  have hl5w1 : w1.heap.size < w5.heap.size := by omega
  have hm5w1 : w1.heap.size ≤ w5.heap.size := by omega
  have hl5w2 : w2.heap.size < w5.heap.size := by omega
  have hm5w2 : w2.heap.size ≤ w5.heap.size := by omega
  have hl5w3 : w3.heap.size < w5.heap.size := by omega
  have hm5w3 : w3.heap.size ≤ w5.heap.size := by omega
  have hl5w4 : w4.heap.size < w5.heap.size := by omega
  have hm5w4 : w4.heap.size ≤ w5.heap.size := by omega
  have g5x0 : w5.cell? ⟨w1.heap.size, 0, none⟩ = some (.int .i64 (Cal.moonD n)) := (hc5 _ _ (by simp; try omega)).trans (by first | assumption | simp [go_sem] | simp [go_sem, *])
  have g5x1 : w5.cell? ⟨w1.heap.size, 1, none⟩ = some (.int .i64 (Cal.moonP n)) := (hc5 _ _ (by simp; try omega)).trans (by first | assumption | simp [go_sem] | simp [go_sem, *])
  have g5x2 : w5.cell? ⟨w2.heap.size, 0, none⟩ = some (.int .i64 (Cal.moonD n)) := (hc5 _ _ (by simp; try omega)).trans (by first | assumption | simp [go_sem] | simp [go_sem, *])
  have g5x3 : w5.cell? ⟨w2.heap.size, 1, none⟩ = some (.int .i64 (Cal.moonP n)) := (hc5 _ _ (by simp; try omega)).trans (by first | assumption | simp [go_sem] | simp [go_sem, *])
  have g5x4 : w5.cell? ⟨w3.heap.size, 0, none⟩ = some (.int .i64 (Cal.ofD y m)) := (hc5 _ _ (by simp; try omega)).trans (by first | assumption | simp [go_sem] | simp [go_sem, *])
  have g5x5 : w5.cell? ⟨w3.heap.size, 1, none⟩ = some (.int .i64 (Cal.ofP y m)) := (hc5 _ _ (by simp; try omega)).trans (by first | assumption | simp [go_sem] | simp [go_sem, *])
  have g5x6 : w5.cell? ⟨w4.heap.size, 0, none⟩ = some (.int .i64 (Cal.ofD y m)) := (hc5 _ _ (by simp; try omega)).trans (by first | assumption | simp [go_sem] | simp [go_sem, *])
  have g5x7 : w5.cell? ⟨w4.heap.size, 1, none⟩ = some (.int .i64 (Cal.ofP y m)) := (hc5 _ _ (by simp; try omega)).trans (by first | assumption | simp [go_sem] | simp [go_sem, *])
  go_wp2_with fail
  refine (H1.out _).mono ?_
  rintro e w' ⟨rfl, rfl⟩
  go_wp2_with fail
  refine (ref4_Weekday a _).mono ?_
  rintro e w' ⟨rfl, rfl⟩
  go_wp2_with fail
  go_ret
  exact ⟨rfl, bt (baa (bt (baa (bt (baa (bt (baa (bt (bdn (ba _ _) _) hb1) _) hb2) _) hb3) _) hb4) _) hb5⟩
end Go.Proofs.Ytemkngkaaabghaa
