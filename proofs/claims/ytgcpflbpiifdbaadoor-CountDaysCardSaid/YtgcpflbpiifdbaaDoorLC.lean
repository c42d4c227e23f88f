/- Merged: W5, Closed, Closed2, Search, Year, Year2. -/
import Derived.Test.YtgcpflbpiifdbaaDoorLA
import Derived.Deep.Light
import Derived.Deep.QuietTactic
import Derived.BigQuiet
import Derived.Shelf.SlSorted.Search
import Derived.Test.YtgcpflbpiifdbaaDoorProg
import Derived.LoopTactic
/- Layer 5: the walks of its laws. -/
namespace Go.Proofs.YtgcpflbpiifdbaaDoor
open Go.ChangeShapes Go.WideShapes Go.ChangeAt Go.RowKit
set_option linter.unusedVariables false
set_option maxRecDepth 100000

end Go.Proofs.YtgcpflbpiifdbaaDoor
/- Layer 6: contracts of the other way. -/
namespace Go.Proofs.YtgcpflbpiifdbaaDoor
open Go.ChangeShapes Go.WideShapes Go.ChangeAt Go.RowKit
set_option linter.unusedVariables false
set_option maxRecDepth 100000
end Go.Proofs.YtgcpflbpiifdbaaDoor
/- Layer 6: the first day, and the last one. -/
namespace Go.Proofs.YtgcpflbpiifdbaaDoor
open Go.ChangeShapes Go.WideShapes Go.ChangeAt Go.RowKit
set_option linter.unusedVariables false
set_option maxRecDepth 100000
theorem first_last : Cal.first 10000 = 2278651 := by decide +kernel
theorem ref6_Last (w : World) : Calls Tryd.prog 35 #[] w fun e w' => e = .returned (.int .i64 2278650) ∧ Below w.heap.size w w' := by
  have h := fun w => ref5_First_ok 10000 w (by omega) (by omega)
  rw [first_last] at h
  have H := Lib.hid h
  clear h
  go_enter Tryd.func35, Tryd.ntmps35
  go_wp2_with fail
  refine (H.out _).mono ?_
  rintro e w1 ⟨rfl, hb1⟩
  obtain ⟨hc1, hf1⟩ := bcell hb1
  have hz1 := hb1.size
  try simp at hz1
  go_wp2_with fail
  go_ret
  exact ⟨rfl, hb1⟩
end Go.Proofs.YtgcpflbpiifdbaaDoor
/- The library's contract of sort.Search, laid at this dump in plain words. -/
namespace Go.Proofs
open Go.Shelf
namespace YtgcpflbpiifdbaaDoor
end YtgcpflbpiifdbaaDoor
end Go.Proofs
/- Layer 6: the year of a day. -/
namespace Go.Proofs.YtgcpflbpiifdbaaDoor
open Go.ChangeShapes Go.WideShapes Go.ChangeAt Go.RowKit Go.Sort
set_option linter.unusedVariables false
set_option maxRecDepth 100000
theorem first_step (y : Int) (h0 : 0 ≤ y) (h1 : y ≤ 10000) : Cal.first y < Cal.first (y + 1) := by
  have := Cal.year_long y h0 h1
  split at this <;> omega
theorem first_up (n : Nat) : ∀ y : Int, 0 ≤ y → y + n ≤ 10001 → Cal.first y ≤ Cal.first (y + n) := by
  induction n with
  | zero => intro y _ _; simp
  | succ n ih =>
    intro y h0 h1
    have k1 := ih y h0 (by omega)
    have k2 := first_step (y + n) (by omega) (by omega)
    rw [show y + ((n + 1 : Nat) : Int) = y + n + 1 by omega]
    omega
theorem first_mono (a b : Int) (h0 : 0 ≤ a) (h : a ≤ b) (h1 : b ≤ 10001) : Cal.first a ≤ Cal.first b := by
  have := first_up (b - a).toNat a h0 (by omega)
  rwa [show a + ((b - a).toNat : Int) = b by omega] at this
theorem first_one : Cal.first 1 = -1373427 := by decide +kernel
theorem year_there (d : Int) (h0 : -1373427 ≤ d) : ∀ n : Nat, n ≤ 9999 → d < Cal.first (n + 1) → ∃ y : Int, 1 ≤ y ∧ y ≤ n ∧ Cal.first y ≤ d ∧ d < Cal.first (y + 1) := by
  intro n
  induction n with
  | zero => intro _ h; rw [show ((0 : Nat) : Int) + 1 = 1 by omega, first_one] at h; omega
  | succ n ih =>
    intro hn h
    by_cases c : d < Cal.first ((n : Int) + 1)
    · obtain ⟨y, a1, a2, a3, a4⟩ := ih (by omega) c
      exact ⟨y, a1, by omega, a3, a4⟩
    · exact ⟨((n + 1 : Nat) : Int), by omega, by omega, by rw [show ((n + 1 : Nat) : Int) = (n : Int) + 1 by omega]; omega, h⟩
theorem year_of (d : Int) (h0 : -1373427 ≤ d) (h1 : d ≤ 2278650) : ∃ y : Int, 1 ≤ y ∧ y ≤ 9999 ∧ Cal.first y ≤ d ∧ d < Cal.first (y + 1) :=
  year_there d h0 9999 (by omega) (by rw [show ((9999 : Nat) : Int) + 1 = 10000 by omega, first_last]; omega)
end Go.Proofs.YtgcpflbpiifdbaaDoor
/- Layer 6: the year of a day, by halves. -/
namespace Go.Proofs.YtgcpflbpiifdbaaDoor
open Go.ChangeShapes Go.WideShapes Go.ChangeAt Go.RowKit Go.Sort
set_option linter.unusedVariables false
set_option maxRecDepth 100000
theorem year_one (d a b : Int) (a0 : 0 ≤ a) (a1 : a ≤ 10000) (b0 : 0 ≤ b) (b1 : b ≤ 10000) (h1 : Cal.first a ≤ d) (h2 : d < Cal.first (a + 1)) (h3 : Cal.first b ≤ d) (h4 : d < Cal.first (b + 1)) : a = b := by
  rcases (show a < b ∨ a = b ∨ b < a by omega) with c | c | c
  · have := first_mono (a + 1) b (by omega) (by omega) (by omega); omega
  · exact c
  · have := first_mono (b + 1) a (by omega) (by omega) (by omega); omega

set_option maxHeartbeats 1000000 in
theorem ref6_Year_at (d y : Int) (w : World) (h1 : 1 ≤ y) (h2 : y ≤ 9999) (h3 : Cal.first y ≤ d) (h4 : d < Cal.first (y + 1)) (h5 : -1373427 ≤ d) (h6 : d ≤ 2278650) :
    Calls Tryd.prog 18 #[.int .i64 d] w fun e w' => e = .returned (.tuple #[.int .i64 y, .int .i64 0]) ∧ Below w.heap.size w w' := by
  have HY := Lib.hid (And.intro h3 h4)
  clear h3 h4
  have e1 := first_one
  have e2 := first_last
  have HE := Lib.hid (show Cal.first 1 ≤ d ∧ d < Cal.first 10000 by omega)
  clear e1 e2
  go_enter Tryd.func18, Tryd.ntmps18
  go_wp2_with fail
  refine (ref6_Last _).mono ?_
  rintro e w1 ⟨rfl, hb1⟩
  obtain ⟨hc1, hf1⟩ := bcell hb1
  have hz1 := hb1.size
  try simp at hz1
  go_wp2_with fail
  clear hc1 hf1 hz1
  go_loopw [4, 5] (fun l h wr => ∃ lo hi : Int, 1 ≤ lo ∧ lo < hi ∧ hi ≤ 10000 ∧ l = .int .i64 lo ∧ h = .int .i64 hi ∧ Hid (Cal.first lo ≤ d ∧ d < Cal.first hi) ∧ Below w.heap.size w wr) (fun l h _ => (intOf h - intOf l).toNat)
  case atStart => exact ⟨1, 10000, by omega, by omega, by omega, rfl, rfl, HE, hb1⟩
  case round =>
    obtain ⟨lo, hi, k1, k2, k3, rfl, rfl, hI, hB⟩ := hrel
    by_cases c : 1 < hi - lo
    · have H := Lib.hid (fun w => ref5_First_ok ((lo + hi) / 2) w (by omega) (by omega))
      by_cases c2 : Cal.first ((lo + hi) / 2) ≤ d
      · have HI := Lib.hid (show Cal.first ((lo + hi) / 2) ≤ d ∧ d < Cal.first hi from ⟨c2, hI.out.2⟩)
        go_wp2_with fail
        refine (H.out _).mono ?_
        rintro e w2 ⟨rfl, hb2⟩
        go_wp2_with fail
        go_roundw
        case rel => exact ⟨(lo + hi) / 2, hi, by omega, by omega, by omega, rfl, rfl, HI, bt hB hb2⟩
        case measure => simp [intOf]; omega
      · have HI := Lib.hid (show Cal.first lo ≤ d ∧ d < Cal.first ((lo + hi) / 2) from ⟨hI.out.1, by omega⟩)
        go_wp2_with fail
        refine (H.out _).mono ?_
        rintro e w2 ⟨rfl, hb2⟩
        go_wp2_with fail
        go_roundw
        case rel => exact ⟨lo, (lo + hi) / 2, by omega, by omega, by omega, rfl, rfl, HI, bt hB hb2⟩
        case measure => simp [intOf]; omega
    · have hy : Hid (lo = y) := Lib.hid (by
        have := hI.out
        rw [show hi = lo + 1 by omega] at this
        exact year_one d lo y (by omega) (by omega) (by omega) (by omega) this.1 this.2 HY.out.1 HY.out.2)
      go_wp2_with fail
      go_ret2
      exact ⟨ret_ii hy.out rfl, hB⟩
theorem ref6_Year_no (d : Int) (w : World) (h : d < -1373427 ∨ 2278650 < d) :
    Calls Tryd.prog 18 #[.int .i64 d] w fun e w' => e = .returned (.tuple #[.int .i64 0, .int .i64 2]) ∧ Below w.heap.size w w' := by
  rcases (show d < -1373427 ∨ (-1373427 ≤ d ∧ 2278650 < d) by omega) with c | ⟨c1, c2⟩
  · skip
    go_enter Tryd.func18, Tryd.ntmps18
    go_wp2_with fail
    go_ret2
    exact ⟨rfl, Below.refl _ _⟩
  · skip
    go_enter Tryd.func18, Tryd.ntmps18
    go_wp2_with fail
    refine (ref6_Last _).mono ?_
    rintro e w1 ⟨rfl, hb1⟩
    obtain ⟨hc1, hf1⟩ := bcell hb1
    have hz1 := hb1.size
    try simp at hz1
    go_wp2_with fail
    go_ret2
    exact ⟨rfl, hb1⟩
end Go.Proofs.YtgcpflbpiifdbaaDoor
