/- Layer 6: the year of a day, by halves. -/
import Derived.Test.YtncckpfenjokmaaDoorYear
import Derived.LoopTactic
namespace Go.Proofs.YtncckpfenjokmaaDoor
open Go.ChangeShapes Go.WideShapes Go.ChangeAt Go.RowKit Go.Sort
set_option linter.unusedVariables false
theorem year_one (d a b : Int) (a0 : 0 ≤ a) (a1 : a ≤ 10000) (b0 : 0 ≤ b) (b1 : b ≤ 10000) (h1 : Cal.first a ≤ d) (h2 : d < Cal.first (a + 1)) (h3 : Cal.first b ≤ d) (h4 : d < Cal.first (b + 1)) : a = b := by
  rcases (show a < b ∨ a = b ∨ b < a by omega) with c | c | c
  · have := first_mono (a + 1) b (by omega) (by omega) (by omega); omega
  · exact c
  · have := first_mono (b + 1) a (by omega) (by omega) (by omega); omega

set_option maxHeartbeats 1000000 in
theorem ref6_Year_at (d y : Int) (w : World) (h1 : 1 ≤ y) (h2 : y ≤ 9999) (h3 : Cal.first y ≤ d) (h4 : d < Cal.first (y + 1)) (h5 : -1373427 ≤ d) (h6 : d ≤ 2278650) :
    Calls Tryd.prog 155 #[.int .i64 d] w fun e w' => e = .returned (.tuple #[.int .i64 y, .int .i64 0]) ∧ Below w.heap.size w w' := by
  have HY := Lib.hid (And.intro h3 h4)
  clear h3 h4
  have e1 := first_one
  have e2 := first_last
  have HE := Lib.hid (show Cal.first 1 ≤ d ∧ d < Cal.first 10000 by omega)
  clear e1 e2
  go_enter Tryd.func155, Tryd.ntmps155
  go_wp2_with fail
  refine (ref6_Last _).mono ?_
  rintro e w1 ⟨rfl, hb1⟩
  obtain ⟨hc1, hf1⟩ := bcell hb1
  have hz1 := hb1.size
  try simp at hz1
  go_wp2_with fail
  clear hc1 hf1 hz1
  go_loopw [4, 5] (fun l h wr => ∃ lo hi : Int, 1 ≤ lo ∧ lo < hi ∧ hi ≤ 10000 ∧ l = .int .i64 lo ∧ h = .int .i64 hi ∧ Hid (Cal.first lo ≤ d ∧ d < Cal.first hi) ∧ Below w.heap.size w wr) (fun l h _ => (intOf h - intOf l).toNat)
  case atStart => exact ⟨1, 10000, by omega, by omega, by omega, rfl, rfl, HE, hb1⟩
  case round =>
    obtain ⟨lo, hi, k1, k2, k3, rfl, rfl, hI, hB⟩ := hrel
    by_cases c : 1 < hi - lo
    · have H := Lib.hid (fun w => ref5_First_ok ((lo + hi) / 2) w (by omega) (by omega))
      by_cases c2 : Cal.first ((lo + hi) / 2) ≤ d
      · have HI := Lib.hid (show Cal.first ((lo + hi) / 2) ≤ d ∧ d < Cal.first hi from ⟨c2, hI.out.2⟩)
        go_wp2_with fail
        refine (H.out _).mono ?_
        rintro e w2 ⟨rfl, hb2⟩
        go_wp2_with fail
        go_roundw
        case rel => exact ⟨(lo + hi) / 2, hi, by omega, by omega, by omega, rfl, rfl, HI, bt hB hb2⟩
        case measure => simp [intOf]; omega
      · have HI := Lib.hid (show Cal.first lo ≤ d ∧ d < Cal.first ((lo + hi) / 2) from ⟨hI.out.1, by omega⟩)
        go_wp2_with fail
        refine (H.out _).mono ?_
        rintro e w2 ⟨rfl, hb2⟩
        go_wp2_with fail
        go_roundw
        case rel => exact ⟨lo, (lo + hi) / 2, by omega, by omega, by omega, rfl, rfl, HI, bt hB hb2⟩
        case measure => simp [intOf]; omega
    · have hy : Hid (lo = y) := Lib.hid (by
        have := hI.out
        rw [show hi = lo + 1 by omega] at this
        exact year_one d lo y (by omega) (by omega) (by omega) (by omega) this.1 this.2 HY.out.1 HY.out.2)
      go_wp2_with fail
      go_ret2
      exact ⟨ret_ii hy.out rfl, hB⟩
theorem ref6_Year_no (d : Int) (w : World) (h : d < -1373427 ∨ 2278650 < d) :
    Calls Tryd.prog 155 #[.int .i64 d] w fun e w' => e = .returned (.tuple #[.int .i64 0, .int .i64 2]) ∧ Below w.heap.size w w' := by
  rcases (show d < -1373427 ∨ (-1373427 ≤ d ∧ 2278650 < d) by omega) with c | ⟨c1, c2⟩
  · skip
    go_enter Tryd.func155, Tryd.ntmps155
    go_wp2_with fail
    go_ret2
    exact ⟨rfl, Below.refl _ _⟩
  · skip
    go_enter Tryd.func155, Tryd.ntmps155
    go_wp2_with fail
    refine (ref6_Last _).mono ?_
    rintro e w1 ⟨rfl, hb1⟩
    obtain ⟨hc1, hf1⟩ := bcell hb1
    have hz1 := hb1.size
    try simp at hz1
    go_wp2_with fail
    go_ret2
    exact ⟨rfl, hb1⟩
end Go.Proofs.YtncckpfenjokmaaDoor
