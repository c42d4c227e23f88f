/- Layer 6: the first day, and the last one. -/
import Derived.Test.YtncckpfenjokmaaDoorClosed
namespace Go.Proofs.YtncckpfenjokmaaDoor
open Go.ChangeShapes Go.WideShapes Go.ChangeAt Go.RowKit
set_option linter.unusedVariables false
theorem nearly_bd (y : Int) (h0 : -1 ≤ y) (h1 : y ≤ 10002) : -1000 ≤ Cal.nearly y ∧ Cal.nearly y ≤ 3700001 := by
  obtain ⟨b3, b4⟩ := near0_bd y h0 h1
  by_cases c : (3 * Cal.nearly0 (Cal.before y) + 3) % 7 < 3
  · rw [nearly_up y c]; omega
  · rw [nearly_flat y c]; omega
theorem first_V (y : Int) (h0 : 0 ≤ y) (h1 : y ≤ 10001) : Cal.firstV y = Cal.first2 y ∧ Cal.reckE y = 0 := by
  rw [Cal.firstV, Cal.reckE, reck_yes y h0 h1, Cal.year_same y h0 h1]; exact ⟨rfl, rfl⟩

theorem closed_Nearly_ok (y : Int) (w : World) (h0 : -1 ≤ y) (h1 : y ≤ 10002) :
    Calls Tryd.prog 140 #[.int .i64 y] w fun e w' => e = .returned (.tuple #[.int .i64 (Cal.nearly y), .int .i64 0]) ∧ w = w' := by
  have := closed_Nearly y w
  rwa [(near_yes y h0 h1).1, (near_yes y h0 h1).2] at this
set_option maxHeartbeats 400000 in
theorem closed_First (y : Int) (w : World) :
    Calls Tryd.prog 108 #[.int .i64 y] w fun e w' => e = .returned (.tuple #[.int .i64 (Cal.firstV y), .int .i64 (Cal.reckE y)]) ∧ w = w' := by
  by_cases c : 0 ≤ y ∧ y ≤ 10001
  · obtain ⟨c1, c2⟩ := c
    have hs := first_V y c1 c2
    unfold Cal.first2 at hs
    have H0 := Lib.hid (fun w => closed_Nearly_ok (y - 1) w (by omega) (by omega))
    have H1 := Lib.hid (fun w => closed_Nearly_ok y w (by omega) (by omega))
    have H2 := Lib.hid (fun w => closed_Nearly_ok (y + 1) w (by omega) (by omega))
    obtain ⟨b1, b2⟩ := nearly_bd (y - 1) (by omega) (by omega)
    obtain ⟨b3, b4⟩ := nearly_bd y (by omega) (by omega)
    obtain ⟨b5, b6⟩ := nearly_bd (y + 1) (by omega) (by omega)
    generalize Cal.nearly (y - 1) = n0 at *
    generalize Cal.nearly (y + 1) = n2 at *
    generalize Cal.nearly y = n1 at *
    by_cases d1 : n2 - n1 = 356
    · rw [if_pos d1] at hs
      have HS := Lib.hid hs
      have d1' : (n2 - n1 == 356) = true := by rw [beq_iff_eq]; exact d1
      have D1 := Lib.hid d1
      clear hs d1
      go_enter Tryd.func108, Tryd.ntmps108
      go_wp2_with fail
      refine (cycle_Leap_ok y _ c1 c2).mono ?_
      rintro e w' ⟨rfl, rfl⟩
      go_wp2_with fail
      refine (H0.out _).mono ?_
      rintro e w' ⟨rfl, rfl⟩
      go_wp2_with fail
      refine (H1.out _).mono ?_
      rintro e w' ⟨rfl, rfl⟩
      go_wp2_with fail
      refine (H2.out _).mono ?_
      rintro e w' ⟨rfl, rfl⟩
      go_wp2_with fail
      go_ret2
      exact ⟨ret_ii (Eq.trans (by omega) HS.out.1.symm) HS.out.2.symm, rfl⟩
    · rw [if_neg d1] at hs
      have d1' : (n2 - n1 == 356) = false := by rw [beq_eq_false_iff_ne]; exact d1
      by_cases d2 : n1 - n0 = 382
      · rw [if_pos d2] at hs
        have HS := Lib.hid hs
        have d2' : (n1 - n0 == 382) = true := by rw [beq_iff_eq]; exact d2
        have D2 := Lib.hid d2
        have D1 := Lib.hid d1
        clear hs d1 d2
        go_enter Tryd.func108, Tryd.ntmps108
        go_wp2_with fail
        refine (cycle_Leap_ok y _ c1 c2).mono ?_
        rintro e w' ⟨rfl, rfl⟩
        go_wp2_with fail
        refine (H0.out _).mono ?_
        rintro e w' ⟨rfl, rfl⟩
        go_wp2_with fail
        refine (H1.out _).mono ?_
        rintro e w' ⟨rfl, rfl⟩
        go_wp2_with fail
        refine (H2.out _).mono ?_
        rintro e w' ⟨rfl, rfl⟩
        go_wp2_with fail
        go_ret2
        exact ⟨ret_ii (Eq.trans (by omega) HS.out.1.symm) HS.out.2.symm, rfl⟩
      · rw [if_neg d2] at hs
        have HS := Lib.hid hs
        have d2' : (n1 - n0 == 382) = false := by rw [beq_eq_false_iff_ne]; exact d2
        have D2 := Lib.hid d2
        have D1 := Lib.hid d1
        clear hs d1 d2
        go_enter Tryd.func108, Tryd.ntmps108
        go_wp2_with fail
        refine (cycle_Leap_ok y _ c1 c2).mono ?_
        rintro e w' ⟨rfl, rfl⟩
        go_wp2_with fail
        refine (H0.out _).mono ?_
        rintro e w' ⟨rfl, rfl⟩
        go_wp2_with fail
        refine (H1.out _).mono ?_
        rintro e w' ⟨rfl, rfl⟩
        go_wp2_with fail
        refine (H2.out _).mono ?_
        rintro e w' ⟨rfl, rfl⟩
        go_wp2_with fail
        go_ret2
        exact ⟨ret_ii (Eq.trans (by omega) HS.out.1.symm) HS.out.2.symm, rfl⟩
  · have HS := Lib.hid (first_no y (by omega))
    go_enter Tryd.func108, Tryd.ntmps108
    go_wp2_with fail
    refine (cycle_Leap_no y _ (by omega)).mono ?_
    rintro e w' ⟨rfl, rfl⟩
    go_wp2_with fail
    go_ret2
    exact ⟨ret_ii HS.out.1.symm HS.out.2.symm, rfl⟩

theorem closed_First_ok (y : Int) (w : World) (h0 : 0 ≤ y) (h1 : y ≤ 10001) :
    Calls Tryd.prog 108 #[.int .i64 y] w fun e w' => e = .returned (.tuple #[.int .i64 (Cal.first y), .int .i64 0]) ∧ w = w' := by
  have := closed_First y w
  rwa [Cal.firstV, Cal.reckE, reck_yes y h0 h1, if_pos rfl, if_pos rfl] at this
theorem first_last : Cal.first 10000 = 2278651 := by decide +kernel
theorem closed_Last (w : World) : Calls Tryd.prog 106 #[] w fun e w' => e = .returned (.int .i64 2278650) ∧ w = w' := by
  have h := fun w => closed_First_ok 10000 w (by omega) (by omega)
  rw [first_last] at h
  have H := Lib.hid h
  clear h
  go_enter Tryd.func106, Tryd.ntmps106
  go_wp2_with fail
  refine (H.out _).mono ?_
  rintro e w' ⟨rfl, rfl⟩
  go_wp2_with fail
  go_ret
  exact ⟨rfl, rfl⟩
theorem ref6_Last (w : World) : Calls Tryd.prog 30 #[] w fun e w' => e = .returned (.int .i64 2278650) ∧ Below w.heap.size w w' := by
  have h := fun w => ref5_First_ok 10000 w (by omega) (by omega)
  rw [first_last] at h
  have H := Lib.hid h
  clear h
  go_enter Tryd.func30, Tryd.ntmps30
  go_wp2_with fail
  refine (H.out _).mono ?_
  rintro e w1 ⟨rfl, hb1⟩
  obtain ⟨hc1, hf1⟩ := bcell hb1
  have hz1 := hb1.size
  try simp at hz1
  go_wp2_with fail
  go_ret
  exact ⟨rfl, hb1⟩
end Go.Proofs.YtncckpfenjokmaaDoor
