/- Layer 6: the walks of its laws. -/
import Derived.Test.YtemkngkaaabghaaYear2
namespace Go.Proofs.Ytemkngkaaabghaa
open Go.ChangeShapes Go.WideShapes Go.ChangeAt Go.RowKit
set_option linter.unusedVariables false

theorem first_5784 : Cal.first 5784 ≤ 739161 ∧ 739161 < Cal.first (5784 + 1) := by decide +kernel
theorem first_5785 : Cal.first 5785 ≤ 739162 ∧ 739162 < Cal.first (5785 + 1) := by decide +kernel
theorem closed_First_5785 (w : World) : Calls Try.prog 64 #[.int .i64 5785] w fun e w' => e = .returned (.tuple #[.int .i64 739162, .int .i64 0]) ∧ w = w' := by
  have := closed_First_ok 5785 w (by omega) (by omega)
  rwa [show Cal.first 5785 = 739162 by decide +kernel] at this
theorem awake6 (w : World) : Calls Try.prog 68 #[] w fun e w' => e = .returned (.bool true) ∧ Below w.heap.size w w' := by
  go_enter Try.func68, Try.ntmps68
  go_wp2_with fail
  refine (closed_Year_at 739162 5785 _ (by omega) (by omega) first_5785.1 first_5785.2 (by omega) (by omega)).mono ?_
  rintro e w1 ⟨rfl, hb1⟩
  obtain ⟨hc1, hf1⟩ := bcell hb1
  have hz1 := hb1.size
  try simp at hz1
  go_wp2_with fail
  refine (closed_Year_at 739161 5784 _ (by omega) (by omega) first_5784.1 first_5784.2 (by omega) (by omega)).mono ?_
  rintro e w2 ⟨rfl, hb2⟩
  obtain ⟨hc2, hf2⟩ := bcell hb2
  have hz2 := hb2.size
  try simp at hz2
  go_wp2_with fail
  refine (closed_First_5785 _).mono ?_
  rintro e w' ⟨rfl, rfl⟩
  go_wp2_with fail
  refine (closed_Year_no (-1373428) _ (by omega)).mono ?_
  rintro e w3 ⟨rfl, hb3⟩
  obtain ⟨hc3, hf3⟩ := bcell hb3
  have hz3 := hb3.size
  try simp at hz3
  go_wp2_with fail
  go_ret
  exact ⟨rfl, bt (bt hb1 hb2) hb3⟩
theorem ClosedSame_walk (y : Int) (hy : 0 ≤ y ∧ y ≤ 65535) (w : World) :
    Calls Try.prog 20 #[.int .u16 y] w fun e w' => e = .returned (.bool true) ∧ Below w.heap.size w w' := by
  obtain ⟨y0, y1⟩ := hy
  have k1 : 0 ≤ y % 10002 := by omega
  have k2 : y % 10002 < 10002 := by omega
  have HA := Lib.hid (fun w => closed_First_ok (y % 10002) w (by omega) (by omega))
  have HB := Lib.hid (fun w => ref5_First_ok (y % 10002) w (by omega) (by omega))
  go_enter Try.func20, Try.ntmps20
  go_wp2_with fail
  refine (HA.out _).mono ?_
  rintro e w' ⟨rfl, rfl⟩
  go_wp2_with fail
  refine (HB.out _).mono ?_
  rintro e w1 ⟨rfl, hb1⟩
  obtain ⟨hc1, hf1⟩ := bcell hb1
  have hz1 := hb1.size
  try simp at hz1
  go_wp2_with fail
  refine (awake6 _).mono ?_
  rintro e w2 ⟨rfl, hb2⟩
  obtain ⟨hc2, hf2⟩ := bcell hb2
  have hz2 := hb2.size
  try simp at hz2
  go_wp2_with fail
  go_ret
  exact ⟨rfl, bt hb1 hb2⟩
theorem ClosedTells_walk (y d : Int) (hy : I64 y) (hd : I64 d) (w : World) :
    Calls Try.prog 19 #[.int .i64 y, .int .i64 d] w fun e w' => e = .returned (.bool true) ∧ Below w.heap.size w w' := by
  by_cases c : -1373427 ≤ d ∧ d ≤ 2278650
  · obtain ⟨c1, c2⟩ := c
    obtain ⟨z, z1, z2, z3, z4⟩ := year_of d c1 c2
    have HA := Lib.hid (fun w => closed_Year_at d z w z1 z2 z3 z4 c1 c2)
    have HB := Lib.hid (fun w => ref6_Year_at d z w z1 z2 z3 z4 c1 c2)
    clear z1 z2 z3 z4
    go_enter Try.func19, Try.ntmps19
    go_wp2_with fail
    refine (closed_Nearly y _).mono ?_
    rintro e w' ⟨rfl, rfl⟩
    go_wp2_with fail
    refine (ref6_Nearly y _).mono ?_
    rintro e w' ⟨rfl, rfl⟩
    go_wp2_with fail
    refine (closed_First y _).mono ?_
    rintro e w' ⟨rfl, rfl⟩
    go_wp2_with fail
    refine (ref6_First y _).mono ?_
    rintro e w' ⟨rfl, rfl⟩
    go_wp2_with fail
    refine (HA.out _).mono ?_
    rintro e w1 ⟨rfl, hb1⟩
    obtain ⟨hc1, hf1⟩ := bcell hb1
    have hz1 := hb1.size
    try simp at hz1
    go_wp2_with fail
    refine (HB.out _).mono ?_
    rintro e w2 ⟨rfl, hb2⟩
    obtain ⟨hc2, hf2⟩ := bcell hb2
    have hz2 := hb2.size
    try simp at hz2
    go_wp2_with fail
    refine (awake6 _).mono ?_
    rintro e w3 ⟨rfl, hb3⟩
    obtain ⟨hc3, hf3⟩ := bcell hb3
    have hz3 := hb3.size
    try simp at hz3
    go_wp2_with fail
    refine (closed_Last _).mono ?_
    rintro e w' ⟨rfl, rfl⟩
    go_wp2_with fail
    refine (ref6_Last _).mono ?_
    rintro e w4 ⟨rfl, hb4⟩
    obtain ⟨hc4, hf4⟩ := bcell hb4
    have hz4 := hb4.size
    try simp at hz4
    go_wp2_with fail
    go_ret
    exact ⟨rfl, bt (bt (bt hb1 hb2) hb3) hb4⟩
  · have HA := Lib.hid (fun w => closed_Year_no d w (by omega))
    have HB := Lib.hid (fun w => ref6_Year_no d w (by omega))
    go_enter Try.func19, Try.ntmps19
    go_wp2_with fail
    refine (closed_Nearly y _).mono ?_
    rintro e w' ⟨rfl, rfl⟩
    go_wp2_with fail
    refine (ref6_Nearly y _).mono ?_
    rintro e w' ⟨rfl, rfl⟩
    go_wp2_with fail
    refine (closed_First y _).mono ?_
    rintro e w' ⟨rfl, rfl⟩
    go_wp2_with fail
    refine (ref6_First y _).mono ?_
    rintro e w' ⟨rfl, rfl⟩
    go_wp2_with fail
    refine (HA.out _).mono ?_
    rintro e w1 ⟨rfl, hb1⟩
    obtain ⟨hc1, hf1⟩ := bcell hb1
    have hz1 := hb1.size
    try simp at hz1
    go_wp2_with fail
    refine (HB.out _).mono ?_
    rintro e w2 ⟨rfl, hb2⟩
    obtain ⟨hc2, hf2⟩ := bcell hb2
    have hz2 := hb2.size
    try simp at hz2
    go_wp2_with fail
    refine (awake6 _).mono ?_
    rintro e w3 ⟨rfl, hb3⟩
    obtain ⟨hc3, hf3⟩ := bcell hb3
    have hz3 := hb3.size
    try simp at hz3
    go_wp2_with fail
    refine (closed_Last _).mono ?_
    rintro e w' ⟨rfl, rfl⟩
    go_wp2_with fail
    refine (ref6_Last _).mono ?_
    rintro e w4 ⟨rfl, hb4⟩
    obtain ⟨hc4, hf4⟩ := bcell hb4
    have hz4 := hb4.size
    try simp at hz4
    go_wp2_with fail
    go_ret
    exact ⟨rfl, bt (bt (bt hb1 hb2) hb3) hb4⟩
theorem ClosedYears_walk (x : Int) (hx : 0 ≤ x ∧ x ≤ 4294967295) (w : World) :
    Calls Try.prog 21 #[.int .u32 x] w fun e w' => e = .returned (.bool true) ∧ Below w.heap.size w w' := by
  obtain ⟨x0, x1⟩ := hx
  have k1 : 0 ≤ x % 3652078 := by omega
  have k2 : x % 3652078 < 3652078 := by omega
  obtain ⟨y, z1, z2, z3, z4⟩ := year_of (x % 3652078 - 1373427) (by omega) (by omega)
  have HY := Lib.hid (fun w => closed_Year_at (x % 3652078 - 1373427) y w z1 z2 z3 z4 (by omega) (by omega))
  have HA := Lib.hid (fun w => ref5_First_ok y w (by omega) (by omega))
  have HB := Lib.hid (fun w => ref5_First_ok (y + 1) w (by omega) (by omega))
  have f1 := first_one
  have b1 := first_mono 1 y (by omega) z1 (by omega)
  have b2 := first_bd y (by omega) (by omega)
  have HL := Lib.hid (fun w => ref6_Last w)
  rcases (show y = 1 ∨ 1 < y by omega) with c | c
  · subst c
    have HZ := Lib.hid (fun w => closed_Year_no (Cal.first 1 - 1) w (by omega))
    generalize Cal.first (1 + 1) = b at *
    have F1 := Lib.hid f1
    clear f1
    generalize Cal.first 1 = a at *
    go_enter Try.func21, Try.ntmps21
    go_wp2_with fail
    refine (HL.out _).mono ?_
    rintro e w1 ⟨rfl, hb1⟩
    obtain ⟨hc1, hf1⟩ := bcell hb1
    have hz1 := hb1.size
    try simp at hz1
    go_wp2_with fail
    refine (HY.out _).mono ?_
    rintro e w2 ⟨rfl, hb2⟩
    obtain ⟨hc2, hf2⟩ := bcell hb2
    have hz2 := hb2.size
    try simp at hz2
    go_wp2_with fail
    refine (HA.out _).mono ?_
    rintro e w3 ⟨rfl, hb3⟩
    obtain ⟨hc3, hf3⟩ := bcell hb3
    have hz3 := hb3.size
    try simp at hz3
    go_wp2_with fail
    refine (HB.out _).mono ?_
    rintro e w4 ⟨rfl, hb4⟩
    obtain ⟨hc4, hf4⟩ := bcell hb4
    have hz4 := hb4.size
    try simp at hz4
    go_wp2_with fail
    refine (HZ.out _).mono ?_
    rintro e w5 ⟨rfl, hb5⟩
    obtain ⟨hc5, hf5⟩ := bcell hb5
    have hz5 := hb5.size
    try simp at hz5
    go_wp2_with fail
    refine (awake6 _).mono ?_
    rintro e w6 ⟨rfl, hb6⟩
    obtain ⟨hc6, hf6⟩ := bcell hb6
    have hz6 := hb6.size
    try simp at hz6
    go_wp2_with fail
    go_ret
    exact ⟨rfl, bt (bt (bt (bt (bt hb1 hb2) hb3) hb4) hb5) hb6⟩
  · have s1 := first_step (y - 1) (by omega) (by omega)
    rw [show y - 1 + 1 = y by omega] at s1
    have HZ := Lib.hid (fun w => closed_Year_at (Cal.first y - 1) (y - 1) w (by omega) (by omega) (by omega) (by rw [show y - 1 + 1 = y by omega]; omega) (by have := first_mono 1 (y - 1) (by omega) (by omega) (by omega); omega) (by omega))
    clear s1 f1
    generalize Cal.first (y + 1) = b at *
    generalize Cal.first y = a at *
    go_enter Try.func21, Try.ntmps21
    go_wp2_with fail
    refine (HL.out _).mono ?_
    rintro e w1 ⟨rfl, hb1⟩
    obtain ⟨hc1, hf1⟩ := bcell hb1
    have hz1 := hb1.size
    try simp at hz1
    go_wp2_with fail
    refine (HY.out _).mono ?_
    rintro e w2 ⟨rfl, hb2⟩
    obtain ⟨hc2, hf2⟩ := bcell hb2
    have hz2 := hb2.size
    try simp at hz2
    go_wp2_with fail
    refine (HA.out _).mono ?_
    rintro e w3 ⟨rfl, hb3⟩
    obtain ⟨hc3, hf3⟩ := bcell hb3
    have hz3 := hb3.size
    try simp at hz3
    go_wp2_with fail
    refine (HB.out _).mono ?_
    rintro e w4 ⟨rfl, hb4⟩
    obtain ⟨hc4, hf4⟩ := bcell hb4
    have hz4 := hb4.size
    try simp at hz4
    go_wp2_with fail
    refine (HZ.out _).mono ?_
    rintro e w5 ⟨rfl, hb5⟩
    obtain ⟨hc5, hf5⟩ := bcell hb5
    have hz5 := hb5.size
    try simp at hz5
    go_wp2_with fail
    refine (awake6 _).mono ?_
    rintro e w6 ⟨rfl, hb6⟩
    obtain ⟨hc6, hf6⟩ := bcell hb6
    have hz6 := hb6.size
    try simp at hz6
    go_wp2_with fail
    go_ret
    exact ⟨rfl, bt (bt (bt (bt (bt hb1 hb2) hb3) hb4) hb5) hb6⟩
end Go.Proofs.Ytemkngkaaabghaa
