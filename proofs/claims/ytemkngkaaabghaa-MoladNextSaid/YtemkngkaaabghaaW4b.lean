/- Layer 4: from month to month. -/
import Derived.Test.YtemkngkaaabghaaW4
import Derived.Test.YtemkngkaaabghaaW3b
namespace Go.Proofs.Ytemkngkaaabghaa
open Go.ChangeShapes Go.WideShapes Go.ChangeAt Go.RowKit
set_option linter.unusedVariables false
theorem ref_Join_moon (n : Int) (w : World) (h1 : -200000 ≤ n) (h2 : n ≤ 200000) :
    Calls Try.prog 34 #[.agg #[.int .i64 (Cal.moonDay n), .int .i64 (Cal.moonPart n)]] w fun e w' => e = .returned (.tuple #[.int .i64 (5604 + 765433 * n - 35599227840), .int .i64 0]) ∧ Below w.heap.size w w' := by
  have hd := moonDay_bd n h1 h2
  have hp := moonPart_bd n
  have e1 : Cal.moonDay n = (5604 + 765433 * n - 35599227840) / 25920 := by unfold Cal.moonDay; omega
  have e2 : Cal.moonPart n = (5604 + 765433 * n - 35599227840) % 25920 := by unfold Cal.moonPart; omega
  have := ref_Join (Cal.moonDay n) (Cal.moonPart n) w ⟨by omega, by omega⟩ ⟨by omega, by omega⟩
  have hj := join_split (5604 + 765433 * n - 35599227840) ⟨by omega, by omega⟩
  rw [← e1, ← e2] at hj
  rwa [hj.1, hj.2] at this

set_option maxHeartbeats 1000000 in
theorem MoladNext_12 (y m : Int) (hy : 0 ≤ y ∧ y ≤ 65535) (hm : 0 ≤ m ∧ m ≤ 255) (w : World) (hn : Cal.months (1 + y % 9998) = 12) :
    Calls Try.prog 14 #[.int .u16 y, .int .u8 m] w fun e w' => e = .returned (.bool true) ∧ Below w.heap.size w w' := by
  obtain ⟨y0, y1⟩ := hy
  obtain ⟨m0, m1⟩ := hm
  have k1 : 0 ≤ y % 9998 := by omega
  have k2 : y % 9998 < 9998 := by omega
  have k3 : 0 ≤ m % 12 := by omega
  have k4 : m % 12 < 12 := by omega
  have hb := C19.before_next (1 + y % 9998)
  have hbd := before_bd (1 + y % 9998) (by omega) (by omega)
  have hI := fun w => ref3_In_ok (1 + y % 9998) w (by omega) (by omega)
  rw [hn] at hI hb
  obtain ⟨n2, n3⟩ := months_bd (1 + y % 9998 + 1)
  have HI := Lib.hid hI
  have H1 := Lib.hid (fun w => molad_Of_at (1 + y % 9998) (1 + m % 12) (Cal.before (1 + y % 9998) + m % 12) w (by omega) (by omega) (by omega) (by omega) (by omega))
  have J1 := Lib.hid (fun w => ref_Join_moon (Cal.before (1 + y % 9998) + m % 12) w (by omega) (by omega))
  have J2 := Lib.hid (fun w => ref_Join_moon (Cal.before (1 + y % 9998) + m % 12 + 1) w (by omega) (by omega))
  rcases (show m % 12 = 11 ∨ m % 12 < 11 by omega) with c | c
  · have H2 := Lib.hid (fun w => molad_Of_at (1 + y % 9998 + 1) 1 (Cal.before (1 + y % 9998) + m % 12 + 1) w (by omega) (by omega) (by omega) (by omega) (by omega))
    have ci : (1 + m % 12 == 12) = true := by rw [beq_iff_eq]; omega
    have C := Lib.hid c
    have HN := Lib.hid hn
    have HBB := Lib.hid hb
    clear c hn hb hI
    go_enter Try.func14, Try.ntmps14
    go_wp2_with fail
    generalize hb0 : Cal.before (1 + y % 9998) + m % 12 = N at *
    clear hb0
    refine (HI.out _).mono ?_
    rintro e w' ⟨rfl, rfl⟩
    go_wp2_with fail
    refine (H1.out _).mono ?_
    rintro e w1 ⟨rfl, hb1⟩
    obtain ⟨hc1, hf1⟩ := bcell hb1
    have hz1 := hb1.size
    try simp at hz1
    go_wp2_with fail
    refine (H2.out _).mono ?_
    rintro e w2 ⟨rfl, hb2⟩
    obtain ⟨hc2, hf2⟩ := bcell hb2
    have hz2 := hb2.size
    try simp at hz2
    have hl2w1 : w1.heap.size < w2.heap.size := by omega
    have hm2w1 : w1.heap.size ≤ w2.heap.size := by omega
    have g2x0 : w2.cell? ⟨w1.heap.size, 0, none⟩ = some (.int .i64 (Cal.moonDay N)) := (hc2 _ _ (by first | omega | (simp; done) | (simp; omega))).trans (by first | assumption | simp [go_sem] | simp [go_sem, *])
    have g2x1 : w2.cell? ⟨w1.heap.size, 1, none⟩ = some (.int .i64 (Cal.moonPart N)) := (hc2 _ _ (by first | omega | (simp; done) | (simp; omega))).trans (by first | assumption | simp [go_sem] | simp [go_sem, *])
    go_wp2_with fail
    refine (J1.out _).mono ?_
    rintro e w3 ⟨rfl, hb3⟩
    obtain ⟨hc3, hf3⟩ := bcell hb3
    have hz3 := hb3.size
    try simp at hz3
    have hl3w2 : w2.heap.size < w3.heap.size := by omega
    have hm3w2 : w2.heap.size ≤ w3.heap.size := by omega
    have g3x0 : w3.cell? ⟨w2.heap.size, 0, none⟩ = some (.int .i64 (Cal.moonDay (N + 1))) := (hc3 _ _ (by first | omega | (simp; done) | (simp; omega))).trans (by first | assumption | simp [go_sem] | simp [go_sem, *])
    have g3x1 : w3.cell? ⟨w2.heap.size, 1, none⟩ = some (.int .i64 (Cal.moonPart (N + 1))) := (hc3 _ _ (by first | omega | (simp; done) | (simp; omega))).trans (by first | assumption | simp [go_sem] | simp [go_sem, *])
    go_wp2_with fail
    refine (J2.out _).mono ?_
    rintro e w4 ⟨rfl, hb4⟩
    obtain ⟨hc4, hf4⟩ := bcell hb4
    have hz4 := hb4.size
    try simp at hz4
    go_wp2_with fail
    refine (awake4 _).mono ?_
    rintro e w5 ⟨rfl, hb5⟩
    obtain ⟨hc5, hf5⟩ := bcell hb5
    have hz5 := hb5.size
    try simp at hz5
    go_wp2_with fail
    go_ret
    exact ⟨ret_b (beq_iff_eq.2 (by omega)), bt (bt (bt (baa (bt (baa hb1 _) hb2) _) hb3) hb4) hb5⟩
  · have H2 := Lib.hid (fun w => molad_Of_at (1 + y % 9998) (1 + m % 12 + 1) (Cal.before (1 + y % 9998) + m % 12 + 1) w (by omega) (by omega) (by omega) (by omega) (by omega))
    have ci : (1 + m % 12 == 12) = false := by rw [beq_eq_false_iff_ne]; omega
    have HN := Lib.hid hn
    have HBB := Lib.hid hb
    clear hn hb hI
    go_enter Try.func14, Try.ntmps14
    go_wp2_with fail
    generalize hb0 : Cal.before (1 + y % 9998) + m % 12 = N at *
    clear hb0
    refine (HI.out _).mono ?_
    rintro e w' ⟨rfl, rfl⟩
    go_wp2_with fail
    refine (H1.out _).mono ?_
    rintro e w1 ⟨rfl, hb1⟩
    obtain ⟨hc1, hf1⟩ := bcell hb1
    have hz1 := hb1.size
    try simp at hz1
    go_wp2_with fail
    refine (H2.out _).mono ?_
    rintro e w2 ⟨rfl, hb2⟩
    obtain ⟨hc2, hf2⟩ := bcell hb2
    have hz2 := hb2.size
    try simp at hz2
    have hl2w1 : w1.heap.size < w2.heap.size := by omega
    have hm2w1 : w1.heap.size ≤ w2.heap.size := by omega
    have g2x0 : w2.cell? ⟨w1.heap.size, 0, none⟩ = some (.int .i64 (Cal.moonDay N)) := (hc2 _ _ (by first | omega | (simp; done) | (simp; omega))).trans (by first | assumption | simp [go_sem] | simp [go_sem, *])
    have g2x1 : w2.cell? ⟨w1.heap.size, 1, none⟩ = some (.int .i64 (Cal.moonPart N)) := (hc2 _ _ (by first | omega | (simp; done) | (simp; omega))).trans (by first | assumption | simp [go_sem] | simp [go_sem, *])
    go_wp2_with fail
    refine (J1.out _).mono ?_
    rintro e w3 ⟨rfl, hb3⟩
    obtain ⟨hc3, hf3⟩ := bcell hb3
    have hz3 := hb3.size
    try simp at hz3
    have hl3w2 : w2.heap.size < w3.heap.size := by omega
    have hm3w2 : w2.heap.size ≤ w3.heap.size := by omega
    have g3x0 : w3.cell? ⟨w2.heap.size, 0, none⟩ = some (.int .i64 (Cal.moonDay (N + 1))) := (hc3 _ _ (by first | omega | (simp; done) | (simp; omega))).trans (by first | assumption | simp [go_sem] | simp [go_sem, *])
    have g3x1 : w3.cell? ⟨w2.heap.size, 1, none⟩ = some (.int .i64 (Cal.moonPart (N + 1))) := (hc3 _ _ (by first | omega | (simp; done) | (simp; omega))).trans (by first | assumption | simp [go_sem] | simp [go_sem, *])
    go_wp2_with fail
    refine (J2.out _).mono ?_
    rintro e w4 ⟨rfl, hb4⟩
    obtain ⟨hc4, hf4⟩ := bcell hb4
    have hz4 := hb4.size
    try simp at hz4
    go_wp2_with fail
    refine (awake4 _).mono ?_
    rintro e w5 ⟨rfl, hb5⟩
    obtain ⟨hc5, hf5⟩ := bcell hb5
    have hz5 := hb5.size
    try simp at hz5
    go_wp2_with fail
    go_ret
    exact ⟨ret_b (beq_iff_eq.2 (by omega)), bt (bt (bt (baa (bt (baa hb1 _) hb2) _) hb3) hb4) hb5⟩

set_option maxHeartbeats 1000000 in
theorem MoladNext_13 (y m : Int) (hy : 0 ≤ y ∧ y ≤ 65535) (hm : 0 ≤ m ∧ m ≤ 255) (w : World) (hn : Cal.months (1 + y % 9998) = 13) :
    Calls Try.prog 14 #[.int .u16 y, .int .u8 m] w fun e w' => e = .returned (.bool true) ∧ Below w.heap.size w w' := by
  obtain ⟨y0, y1⟩ := hy
  obtain ⟨m0, m1⟩ := hm
  have k1 : 0 ≤ y % 9998 := by omega
  have k2 : y % 9998 < 9998 := by omega
  have k3 : 0 ≤ m % 13 := by omega
  have k4 : m % 13 < 13 := by omega
  have hb := C19.before_next (1 + y % 9998)
  have hbd := before_bd (1 + y % 9998) (by omega) (by omega)
  have hI := fun w => ref3_In_ok (1 + y % 9998) w (by omega) (by omega)
  rw [hn] at hI hb
  obtain ⟨n2, n3⟩ := months_bd (1 + y % 9998 + 1)
  have HI := Lib.hid hI
  have H1 := Lib.hid (fun w => molad_Of_at (1 + y % 9998) (1 + m % 13) (Cal.before (1 + y % 9998) + m % 13) w (by omega) (by omega) (by omega) (by omega) (by omega))
  have J1 := Lib.hid (fun w => ref_Join_moon (Cal.before (1 + y % 9998) + m % 13) w (by omega) (by omega))
  have J2 := Lib.hid (fun w => ref_Join_moon (Cal.before (1 + y % 9998) + m % 13 + 1) w (by omega) (by omega))
  rcases (show m % 13 = 12 ∨ m % 13 < 12 by omega) with c | c
  · have H2 := Lib.hid (fun w => molad_Of_at (1 + y % 9998 + 1) 1 (Cal.before (1 + y % 9998) + m % 13 + 1) w (by omega) (by omega) (by omega) (by omega) (by omega))
    have ci : (1 + m % 13 == 13) = true := by rw [beq_iff_eq]; omega
    have C := Lib.hid c
    have HN := Lib.hid hn
    have HBB := Lib.hid hb
    clear c hn hb hI
    go_enter Try.func14, Try.ntmps14
    go_wp2_with fail
    generalize hb0 : Cal.before (1 + y % 9998) + m % 13 = N at *
    clear hb0
    refine (HI.out _).mono ?_
    rintro e w' ⟨rfl, rfl⟩
    go_wp2_with fail
    refine (H1.out _).mono ?_
    rintro e w1 ⟨rfl, hb1⟩
    obtain ⟨hc1, hf1⟩ := bcell hb1
    have hz1 := hb1.size
    try simp at hz1
    go_wp2_with fail
    refine (H2.out _).mono ?_
    rintro e w2 ⟨rfl, hb2⟩
    obtain ⟨hc2, hf2⟩ := bcell hb2
    have hz2 := hb2.size
    try simp at hz2
    have hl2w1 : w1.heap.size < w2.heap.size := by omega
    have hm2w1 : w1.heap.size ≤ w2.heap.size := by omega
    have g2x0 : w2.cell? ⟨w1.heap.size, 0, none⟩ = some (.int .i64 (Cal.moonDay N)) := (hc2 _ _ (by first | omega | (simp; done) | (simp; omega))).trans (by first | assumption | simp [go_sem] | simp [go_sem, *])
    have g2x1 : w2.cell? ⟨w1.heap.size, 1, none⟩ = some (.int .i64 (Cal.moonPart N)) := (hc2 _ _ (by first | omega | (simp; done) | (simp; omega))).trans (by first | assumption | simp [go_sem] | simp [go_sem, *])
    go_wp2_with fail
    refine (J1.out _).mono ?_
    rintro e w3 ⟨rfl, hb3⟩
    obtain ⟨hc3, hf3⟩ := bcell hb3
    have hz3 := hb3.size
    try simp at hz3
    have hl3w2 : w2.heap.size < w3.heap.size := by omega
    have hm3w2 : w2.heap.size ≤ w3.heap.size := by omega
    have g3x0 : w3.cell? ⟨w2.heap.size, 0, none⟩ = some (.int .i64 (Cal.moonDay (N + 1))) := (hc3 _ _ (by first | omega | (simp; done) | (simp; omega))).trans (by first | assumption | simp [go_sem] | simp [go_sem, *])
    have g3x1 : w3.cell? ⟨w2.heap.size, 1, none⟩ = some (.int .i64 (Cal.moonPart (N + 1))) := (hc3 _ _ (by first | omega | (simp; done) | (simp; omega))).trans (by first | assumption | simp [go_sem] | simp [go_sem, *])
    go_wp2_with fail
    refine (J2.out _).mono ?_
    rintro e w4 ⟨rfl, hb4⟩
    obtain ⟨hc4, hf4⟩ := bcell hb4
    have hz4 := hb4.size
    try simp at hz4
    go_wp2_with fail
    refine (awake4 _).mono ?_
    rintro e w5 ⟨rfl, hb5⟩
    obtain ⟨hc5, hf5⟩ := bcell hb5
    have hz5 := hb5.size
    try simp at hz5
    go_wp2_with fail
    go_ret
    exact ⟨ret_b (beq_iff_eq.2 (by omega)), bt (bt (bt (baa (bt (baa hb1 _) hb2) _) hb3) hb4) hb5⟩
  · have H2 := Lib.hid (fun w => molad_Of_at (1 + y % 9998) (1 + m % 13 + 1) (Cal.before (1 + y % 9998) + m % 13 + 1) w (by omega) (by omega) (by omega) (by omega) (by omega))
    have ci : (1 + m % 13 == 13) = false := by rw [beq_eq_false_iff_ne]; omega
    have HN := Lib.hid hn
    have HBB := Lib.hid hb
    clear hn hb hI
    go_enter Try.func14, Try.ntmps14
    go_wp2_with fail
    generalize hb0 : Cal.before (1 + y % 9998) + m % 13 = N at *
    clear hb0
    refine (HI.out _).mono ?_
    rintro e w' ⟨rfl, rfl⟩
    go_wp2_with fail
    refine (H1.out _).mono ?_
    rintro e w1 ⟨rfl, hb1⟩
    obtain ⟨hc1, hf1⟩ := bcell hb1
    have hz1 := hb1.size
    try simp at hz1
    go_wp2_with fail
    refine (H2.out _).mono ?_
    rintro e w2 ⟨rfl, hb2⟩
    obtain ⟨hc2, hf2⟩ := bcell hb2
    have hz2 := hb2.size
    try simp at hz2
    have hl2w1 : w1.heap.size < w2.heap.size := by omega
    have hm2w1 : w1.heap.size ≤ w2.heap.size := by omega
    have g2x0 : w2.cell? ⟨w1.heap.size, 0, none⟩ = some (.int .i64 (Cal.moonDay N)) := (hc2 _ _ (by first | omega | (simp; done) | (simp; omega))).trans (by first | assumption | simp [go_sem] | simp [go_sem, *])
    have g2x1 : w2.cell? ⟨w1.heap.size, 1, none⟩ = some (.int .i64 (Cal.moonPart N)) := (hc2 _ _ (by first | omega | (simp; done) | (simp; omega))).trans (by first | assumption | simp [go_sem] | simp [go_sem, *])
    go_wp2_with fail
    refine (J1.out _).mono ?_
    rintro e w3 ⟨rfl, hb3⟩
    obtain ⟨hc3, hf3⟩ := bcell hb3
    have hz3 := hb3.size
    try simp at hz3
    have hl3w2 : w2.heap.size < w3.heap.size := by omega
    have hm3w2 : w2.heap.size ≤ w3.heap.size := by omega
    have g3x0 : w3.cell? ⟨w2.heap.size, 0, none⟩ = some (.int .i64 (Cal.moonDay (N + 1))) := (hc3 _ _ (by first | omega | (simp; done) | (simp; omega))).trans (by first | assumption | simp [go_sem] | simp [go_sem, *])
    have g3x1 : w3.cell? ⟨w2.heap.size, 1, none⟩ = some (.int .i64 (Cal.moonPart (N + 1))) := (hc3 _ _ (by first | omega | (simp; done) | (simp; omega))).trans (by first | assumption | simp [go_sem] | simp [go_sem, *])
    go_wp2_with fail
    refine (J2.out _).mono ?_
    rintro e w4 ⟨rfl, hb4⟩
    obtain ⟨hc4, hf4⟩ := bcell hb4
    have hz4 := hb4.size
    try simp at hz4
    go_wp2_with fail
    refine (awake4 _).mono ?_
    rintro e w5 ⟨rfl, hb5⟩
    obtain ⟨hc5, hf5⟩ := bcell hb5
    have hz5 := hb5.size
    try simp at hz5
    go_wp2_with fail
    go_ret
    exact ⟨ret_b (beq_iff_eq.2 (by omega)), bt (bt (bt (baa (bt (baa hb1 _) hb2) _) hb3) hb4) hb5⟩

theorem MoladNext_walk (y m : Int) (hy : 0 ≤ y ∧ y ≤ 65535) (hm : 0 ≤ m ∧ m ≤ 255) (w : World) :
    Calls Try.prog 14 #[.int .u16 y, .int .u8 m] w fun e w' => e = .returned (.bool true) ∧ Below w.heap.size w w' := by
  have h := months_bd (1 + y % 9998)
  rcases (show Cal.months (1 + y % 9998) = 12 ∨ Cal.months (1 + y % 9998) = 13 by omega) with c | c
  · exact MoladNext_12 y m hy hm w c
  · exact MoladNext_13 y m hy hm w c
end Go.Proofs.Ytemkngkaaabghaa
