/- Layer 5: the first day. -/
import Derived.Test.YtncckpfenjokmaaDoorNew
import Derived.Deep.RegionHeld3
namespace Go.Proofs.YtncckpfenjokmaaDoor
open Go.ChangeShapes Go.WideShapes Go.ChangeAt Go.RowKit
set_option linter.unusedVariables false

theorem bdw {a b : World} (h : Below a.heap.size a b) : Below a.heap.size a b.drew := h.drew
theorem molad_Of_one (y : Int) (w : World) (h0 : 0 ≤ y) (h1 : y ≤ 10001) :
    Calls Tryd.prog 177 #[.int .i64 y, .int .i64 1] w fun e w' => e = .returned (.tuple #[.agg #[.int .i64 (Cal.moonDay (Cal.before y)), .int .i64 (Cal.moonPart (Cal.before y))], .int .i64 0]) ∧ Below w.heap.size w w' :=
  molad_Of_at y 1 (Cal.before y) w h0 h1 (by omega) (by obtain ⟨b1, b2⟩ := months_bd y; omega) (by omega)
theorem molad_Of_none (y : Int) (w : World) (h : y < 0 ∨ 10001 < y) :
    Calls Tryd.prog 177 #[.int .i64 y, .int .i64 1] w fun e w' => e = .returned (.tuple #[.agg #[.int .i64 0, .int .i64 0], .int .i64 2]) ∧ Below w.heap.size w w' := by
  have := molad_Of y 1 w ⟨by omega, by omega⟩
  rwa [(of_no y 1 h).1, (of_no y 1 h).2.1, (of_no y 1 h).2.2] at this
theorem ref4_Of_one (y : Int) (w : World) (h0 : 0 ≤ y) (h1 : y ≤ 10001) :
    Calls Tryd.prog 109 #[.int .i64 y, .int .i64 1] w fun e w' => e = .returned (.tuple #[.agg #[.int .i64 (Cal.moonDay (Cal.before y)), .int .i64 (Cal.moonPart (Cal.before y))], .int .i64 0]) ∧ Below w.heap.size w w' := by
  have := ref4_Of y 1 w ⟨by omega, by omega⟩
  obtain ⟨b1, b2⟩ := months_bd y
  have k := of_yes y 1 h0 h1 (by omega) (by omega)
  rwa [k.1, k.2.1, k.2.2, show Cal.before y + 1 - 1 = Cal.before y by omega] at this
theorem ref4_Of_none (y : Int) (w : World) (h : y < 0 ∨ 10001 < y) :
    Calls Tryd.prog 109 #[.int .i64 y, .int .i64 1] w fun e w' => e = .returned (.tuple #[.agg #[.int .i64 0, .int .i64 0], .int .i64 2]) ∧ Below w.heap.size w w' := by
  have := ref4_Of y 1 w ⟨by omega, by omega⟩
  rwa [(of_no y 1 h).1, (of_no y 1 h).2.1, (of_no y 1 h).2.2] at this
theorem cycle_Leap_ahead (y : Int) (w : World) (h0 : 0 ≤ y) (h1 : y ≤ 10001) :
    Calls Tryd.prog 77 #[.int .i64 (y - 1)] w fun e w' => (∃ k : Int, e = .returned (.tuple #[.bool (Cal.leap (y - 1)), .int .i64 k])) ∧ w = w' := by
  by_cases c : y = 0
  · have := cycle_Leap_no (y - 1) w (by omega)
    rw [show Cal.leap (y - 1) = false by subst c; decide]
    exact this.mono fun e w' h => ⟨⟨_, h.1⟩, h.2⟩
  · exact (cycle_Leap_ok (y - 1) w (by omega) (by omega)).mono fun e w' h => ⟨⟨_, h.1⟩, h.2⟩
theorem first_ok (y : Int) (h0 : 0 ≤ y) (h1 : y ≤ 10001) : Cal.firstV y = Cal.moonDay (Cal.before y) + Cal.delay (Cal.moonDay (Cal.before y)) (Cal.moonPart (Cal.before y)) (Cal.leap y) (Cal.leap (y - 1)) ∧ Cal.reckE y = 0 := by
  rw [Cal.firstV, Cal.reckE, reck_yes y h0 h1]; exact ⟨rfl, rfl⟩
theorem first_no (y : Int) (h : y < 0 ∨ 10001 < y) : Cal.firstV y = 0 ∧ Cal.reckE y = 2 := by rw [Cal.firstV, Cal.reckE, reck_no y h]; exact ⟨rfl, rfl⟩
theorem delay_bd (d p : Int) (lp af : Bool) : 0 ≤ Cal.delay d p lp af ∧ Cal.delay d p lp af ≤ 2 := by
  cases lp <;> cases af
  · rw [delay_ff]; repeat' split
    all_goals omega
  · rw [delay_ft]; repeat' split
    all_goals omega
  · rw [delay_tf]; repeat' split
    all_goals omega
  · rw [delay_tt]; repeat' split
    all_goals omega
set_option maxRecDepth 100000 in
set_option maxHeartbeats 400000 in
theorem newyear_First (y : Int) (w : World) (hy : I64 y) :
    Calls Tryd.prog 151 #[.int .i64 y] w fun e w' => e = .returned (.tuple #[.int .i64 (Cal.firstV y), .int .i64 (Cal.reckE y)]) ∧ Below w.heap.size w w' := by
  by_cases c : 0 ≤ y ∧ y ≤ 10001
  · obtain ⟨c1, c2⟩ := c
    have HS := Lib.hid (first_ok y c1 c2)
    obtain ⟨b3, b4⟩ := before_bd y c1 c2
    obtain ⟨b5, b6⟩ := moonDay_bd (Cal.before y) (by omega) (by omega)
    obtain ⟨b7, b8⟩ := moonPart_bd (Cal.before y)
    obtain ⟨b1, b2⟩ := delay_bd (Cal.moonDay (Cal.before y)) (Cal.moonPart (Cal.before y)) (Cal.leap y) (Cal.leap (y - 1))
    have HD := Lib.hid (fun w => newyear_Delay (Cal.moonDay (Cal.before y)) (Cal.moonPart (Cal.before y)) (Cal.leap y) (Cal.leap (y - 1)) w ⟨by omega, by omega⟩ ⟨by omega, by omega⟩)
    go_enter Tryd.func151, Tryd.ntmps151
    go_wp2_with fail
    refine (molad_Of_one y _ c1 c2).mono ?_
    rintro e w1 ⟨rfl, hb1⟩
    obtain ⟨hc1, hf1⟩ := bcell hb1
    have hz1 := hb1.size
    try simp at hz1
    go_wp2_with fail
    refine (cycle_Leap_ok y _ c1 c2).mono ?_
    rintro e w' ⟨rfl, rfl⟩
    go_wp2_with fail
    refine (cycle_Leap_ahead y _ c1 c2).mono ?_
    rintro e w' ⟨⟨kk, rfl⟩, rfl⟩
    go_wp2_with fail
    go_region_held3 (fun x => x.cell? ⟨w1.heap.size, 0, none⟩ = some (.int .i64 (Cal.moonDay (Cal.before y))) ∧ x.cell? ⟨w1.heap.size, 1, none⟩ = some (.int .i64 (Cal.moonPart (Cal.before y)))) (go_keep)
      (first | (go_at_call 178; refine (HD.out _).mono ?_; rintro e w2 ⟨rfl, hb2⟩; obtain ⟨hc2, hf2⟩ := bcell hb2))
    all_goals go_wp2_with fail
    all_goals go_ret2
    all_goals exact ⟨ret_ii ((IntWalk.i64_in _ ⟨by omega, by omega⟩).trans HS.out.1.symm) HS.out.2.symm, bt (bdw (baa hb1 _)) hb2⟩
  · have HS := Lib.hid (first_no y (by omega))
    go_enter Tryd.func151, Tryd.ntmps151
    go_wp2_with fail
    refine (molad_Of_none y _ (by omega)).mono ?_
    rintro e w1 ⟨rfl, hb1⟩
    obtain ⟨hc1, hf1⟩ := bcell hb1
    have hz1 := hb1.size
    try simp at hz1
    go_wp2_with fail
    go_ret2
    exact ⟨ret_ii HS.out.1.symm HS.out.2.symm, baa hb1 _⟩

set_option maxRecDepth 100000 in
set_option maxHeartbeats 1000000 in
theorem ref5_First (y : Int) (w : World) (hy : I64 y) :
    Calls Tryd.prog 63 #[.int .i64 y] w fun e w' => e = .returned (.tuple #[.int .i64 (Cal.firstV y), .int .i64 (Cal.reckE y)]) ∧ Below w.heap.size w w' := by
  by_cases c : 0 ≤ y ∧ y ≤ 10001
  · obtain ⟨c1, c2⟩ := c
    have HS := Lib.hid (first_ok y c1 c2)
    obtain ⟨b3, b4⟩ := before_bd y c1 c2
    obtain ⟨b5, b6⟩ := moonDay_bd (Cal.before y) (by omega) (by omega)
    obtain ⟨b7, b8⟩ := moonPart_bd (Cal.before y)
    obtain ⟨b1, b2⟩ := delay_bd (Cal.moonDay (Cal.before y)) (Cal.moonPart (Cal.before y)) (Cal.leap y) (Cal.leap (y - 1))
    have HD := Lib.hid (fun w => ref5_Delay (Cal.moonDay (Cal.before y)) (Cal.moonPart (Cal.before y)) (Cal.leap y) (Cal.leap (y - 1)) w ⟨by omega, by omega⟩ ⟨by omega, by omega⟩)
    have H1 := Lib.hid (fun w => ref3_Is y w (by omega) (by omega))
    have H2 := Lib.hid (fun w => ref3_Is (y - 1) w (by omega) (by omega))
    go_enter Tryd.func63, Tryd.ntmps63
    go_wp2_with fail
    refine (ref4_Of_one y _ c1 c2).mono ?_
    rintro e w1 ⟨rfl, hb1⟩
    obtain ⟨hc1, hf1⟩ := bcell hb1
    have hz1 := hb1.size
    try simp at hz1
    go_wp2_with fail
    have hw1 : IntKind.i64.wrap (y - 1) = y - 1 := IntWalk.i64_in _ ⟨by omega, by omega⟩
    go_region_held3 (fun x => x.cell? ⟨w1.heap.size, 0, none⟩ = some (.int .i64 (Cal.moonDay (Cal.before y))) ∧ x.cell? ⟨w1.heap.size, 1, none⟩ = some (.int .i64 (Cal.moonPart (Cal.before y)))) (go_keep)
      (first | (go_at_call 110; refine (HD.out _).mono ?_; rintro e w2 ⟨rfl, hb2⟩; obtain ⟨hc2, hf2⟩ := bcell hb2)
             | (go_at_call 38; first | (refine (H1.out _).mono ?_; rintro e w2 ⟨rfl, rfl⟩) | (refine (H2.out _).mono ?_; rintro e w2 ⟨rfl, rfl⟩)))
    all_goals go_wp2_with fail
    all_goals go_ret2
    all_goals exact ⟨ret_ii ((IntWalk.i64_in _ ⟨by omega, by omega⟩).trans HS.out.1.symm) HS.out.2.symm, bt (bdw (baa hb1 _)) hb2⟩
  · have HS := Lib.hid (first_no y (by omega))
    go_enter Tryd.func63, Tryd.ntmps63
    go_wp2_with fail
    refine (ref4_Of_none y _ (by omega)).mono ?_
    rintro e w1 ⟨rfl, hb1⟩
    obtain ⟨hc1, hf1⟩ := bcell hb1
    have hz1 := hb1.size
    try simp at hz1
    go_wp2_with fail
    go_ret2
    exact ⟨ret_ii HS.out.1.symm HS.out.2.symm, baa hb1 _⟩
theorem newyear_First_ok (y : Int) (w : World) (h0 : 0 ≤ y) (h1 : y ≤ 10001) :
    Calls Tryd.prog 151 #[.int .i64 y] w fun e w' => e = .returned (.tuple #[.int .i64 (Cal.first y), .int .i64 0]) ∧ Below w.heap.size w w' := by
  have := newyear_First y w ⟨by omega, by omega⟩
  rwa [Cal.firstV, Cal.reckE, reck_yes y h0 h1, if_pos rfl, if_pos rfl] at this
theorem newyear_First_no (y : Int) (w : World) (hy : I64 y) (h : y < 0 ∨ 10001 < y) :
    Calls Tryd.prog 151 #[.int .i64 y] w fun e w' => e = .returned (.tuple #[.int .i64 0, .int .i64 2]) ∧ Below w.heap.size w w' := by
  have := newyear_First y w hy
  rwa [(first_no y h).1, (first_no y h).2] at this
theorem ref5_First_ok (y : Int) (w : World) (h0 : 0 ≤ y) (h1 : y ≤ 10001) :
    Calls Tryd.prog 63 #[.int .i64 y] w fun e w' => e = .returned (.tuple #[.int .i64 (Cal.first y), .int .i64 0]) ∧ Below w.heap.size w w' := by
  have := ref5_First y w ⟨by omega, by omega⟩
  rwa [Cal.firstV, Cal.reckE, reck_yes y h0 h1, if_pos rfl, if_pos rfl] at this
theorem first_bd (y : Int) (h0 : 0 ≤ y) (h1 : y ≤ 10001) : -7300000 ≤ Cal.first y ∧ Cal.first y ≤ 4600002 := by
  obtain ⟨b3, b4⟩ := before_bd y h0 h1
  obtain ⟨b5, b6⟩ := moonDay_bd (Cal.before y) (by omega) (by omega)
  obtain ⟨b1, b2⟩ := delay_bd (Cal.moonDay (Cal.before y)) (Cal.moonPart (Cal.before y)) (Cal.leap y) (Cal.leap (y - 1))
  unfold Cal.first
  omega
end Go.Proofs.YtncckpfenjokmaaDoor
