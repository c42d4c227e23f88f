/- Layer 5: the walks of its laws. -/
import Derived.Test.YtemkngkaaabghaaFirst
import Derived.Deep.Light
import Derived.Deep.QuietTactic
import Derived.BigQuiet
namespace Go.Proofs.Ytemkngkaaabghaa
open Go.ChangeShapes Go.WideShapes Go.ChangeAt Go.RowKit
set_option linter.unusedVariables false

theorem tmod7 (a : Int) : (wrap64 (a.tmod 7 + 7)).tmod 7 = a % 7 := by
  have h1 := Int.tmod_lt_of_pos a (show (0 : Int) < 7 by omega)
  have h2 := Int.lt_tmod_of_pos a (show (0 : Int) < 7 by omega)
  rw [IntWalk.wrap64_in _ ⟨by omega, by omega⟩]
  by_cases h : a.tmod 7 < 0
  · have := (Cal.div_down a 7 (by omega) h).2
    rw [Int.tmod_eq_emod_of_nonneg (by omega)]
    omega
  · have := (Cal.div_down' a 7 (by omega) (by omega)).2
    rw [Int.tmod_eq_emod_of_nonneg (by omega)]
    omega
theorem newyear_First_5785 (w : World) : Calls Try.prog 56 #[.int .i64 5785] w fun e w' => e = .returned (.tuple #[.int .i64 739162, .int .i64 0]) ∧ Below w.heap.size w w' := by
  have := newyear_First_ok 5785 w (by omega) (by omega)
  rwa [show Cal.first 5785 = 739162 by decide +kernel] at this
theorem awake5 (w : World) : Calls Try.prog 58 #[] w fun e w' => e = .returned (.bool true) ∧ Below w.heap.size w w' := by
  go_enter Try.func58, Try.ntmps58
  go_wp2_with fail
  refine (newyear_First_5785 _).mono ?_
  rintro e w1 ⟨rfl, hb1⟩
  obtain ⟨hc1, hf1⟩ := bcell hb1
  have hz1 := hb1.size
  try simp at hz1
  go_wp2_with fail
  refine (newyear_First_no 10002 _ ⟨by omega, by omega⟩ (by omega)).mono ?_
  rintro e w2 ⟨rfl, hb2⟩
  obtain ⟨hc2, hf2⟩ := bcell hb2
  have hz2 := hb2.size
  try simp at hz2
  go_wp2_with fail
  go_ret
  exact ⟨rfl, bt hb1 hb2⟩
theorem NewyearDays_walk (y : Int) (hy : 0 ≤ y ∧ y ≤ 65535) (w : World) :
    Calls Try.prog 17 #[.int .u16 y] w fun e w' => e = .returned (.bool true) ∧ Below w.heap.size w w' := by
  obtain ⟨y0, y1⟩ := hy
  have k1 : 0 ≤ y % 10001 := by omega
  have k2 : y % 10001 < 10001 := by omega
  have f1 := Cal.year_long (y % 10001) (by omega) (by omega)
  have f2 := Cal.year_begins (y % 10001) (by omega) (by omega)
  have b1 := first_bd (y % 10001) (by omega) (by omega)
  have b2 := first_bd (y % 10001 + 1) (by omega) (by omega)
  have HA := Lib.hid (fun w => newyear_First_ok (y % 10001) w (by omega) (by omega))
  have HB := Lib.hid (fun w => newyear_First_ok (y % 10001 + 1) w (by omega) (by omega))
  have HI := Lib.hid (fun w => ref3_Is (y % 10001) w (by omega) (by omega))
  generalize Cal.first (y % 10001) = a at *
  generalize Cal.first (y % 10001 + 1) = b at *
  obtain ⟨a1, a2⟩ := b1
  obtain ⟨b1, b2⟩ := b2
  have ew := tmod7 a
  have g1 : (a % 7 != 0) = true := by rw [bne_iff_ne]; exact f2.1
  have g2 : (a % 7 != 3) = true := by rw [bne_iff_ne]; exact f2.2.1
  have g3 : (a % 7 != 5) = true := by rw [bne_iff_ne]; exact f2.2.2
  clear f2
  cases hl : Cal.leap (y % 10001)
  · rw [hl] at f1 HI
    simp only [Bool.false_eq_true, if_false] at f1
    have n1 : 353 ≤ b - a := by omega
    have n2 : b - a ≤ 355 := by omega
    clear f1 hl
    go_enter Try.func17, Try.ntmps17
    go_wp2_with fail
    refine (HA.out _).mono ?_
    rintro e w1 ⟨rfl, hb1⟩
    obtain ⟨hc1, hf1⟩ := bcell hb1
    have hz1 := hb1.size
    try simp at hz1
    go_wp2_with fail
    refine (HB.out _).mono ?_
    rintro e w2 ⟨rfl, hb2⟩
    obtain ⟨hc2, hf2⟩ := bcell hb2
    have hz2 := hb2.size
    try simp at hz2
    go_wp2_with fail
    refine (HI.out _).mono ?_
    rintro e w' ⟨rfl, rfl⟩
    go_wp2_with fail
    refine (awake5 _).mono ?_
    rintro e w3 ⟨rfl, hb3⟩
    obtain ⟨hc3, hf3⟩ := bcell hb3
    have hz3 := hb3.size
    try simp at hz3
    go_wp2_with fail
    go_ret
    exact ⟨rfl, bt (bt hb1 hb2) hb3⟩
  · rw [hl] at f1 HI
    simp only [if_true] at f1
    have n1 : 353 ≤ b - a - 30 := by omega
    have n2 : b - a - 30 ≤ 355 := by omega
    clear f1 hl
    go_enter Try.func17, Try.ntmps17
    go_wp2_with fail
    refine (HA.out _).mono ?_
    rintro e w1 ⟨rfl, hb1⟩
    obtain ⟨hc1, hf1⟩ := bcell hb1
    have hz1 := hb1.size
    try simp at hz1
    go_wp2_with fail
    refine (HB.out _).mono ?_
    rintro e w2 ⟨rfl, hb2⟩
    obtain ⟨hc2, hf2⟩ := bcell hb2
    have hz2 := hb2.size
    try simp at hz2
    go_wp2_with fail
    refine (HI.out _).mono ?_
    rintro e w' ⟨rfl, rfl⟩
    go_wp2_with fail
    refine (awake5 _).mono ?_
    rintro e w3 ⟨rfl, hb3⟩
    obtain ⟨hc3, hf3⟩ := bcell hb3
    have hz3 := hb3.size
    try simp at hz3
    go_wp2_with fail
    go_ret
    exact ⟨rfl, bt (bt hb1 hb2) hb3⟩
end Go.Proofs.Ytemkngkaaabghaa
