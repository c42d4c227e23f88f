/- Merged: W5, Closed, Closed2, Search, Year, Year2. -/
import Derived.Test.YtafenpgafmdenaaDoorLA
import Derived.Deep.Light
import Derived.Deep.QuietTactic
import Derived.BigQuiet
import Derived.Shelf.SlSorted.Search
import Derived.Test.YtafenpgafmdenaaDoorProg
import Derived.LoopTactic
/- Layer 5: the walks of its laws. -/
namespace Go.Proofs.YtafenpgafmdenaaDoor
open Go.ChangeShapes Go.WideShapes Go.ChangeAt Go.RowKit
set_option linter.unusedVariables false
set_option maxRecDepth 100000

end Go.Proofs.YtafenpgafmdenaaDoor
/- Layer 6: contracts of the other way. -/
namespace Go.Proofs.YtafenpgafmdenaaDoor
open Go.ChangeShapes Go.WideShapes Go.ChangeAt Go.RowKit
set_option linter.unusedVariables false
set_option maxRecDepth 100000
end Go.Proofs.YtafenpgafmdenaaDoor
/- Layer 6: the first day, and the last one. -/
namespace Go.Proofs.YtafenpgafmdenaaDoor
open Go.ChangeShapes Go.WideShapes Go.ChangeAt Go.RowKit
set_option linter.unusedVariables false
set_option maxRecDepth 100000
theorem first_last : Cal.first 10000 = 2278651 := by decide +kernel
end Go.Proofs.YtafenpgafmdenaaDoor
/- The library's contract of sort.Search, laid at this dump in plain words. -/
namespace Go.Proofs
open Go.Shelf
namespace YtafenpgafmdenaaDoor
end YtafenpgafmdenaaDoor
end Go.Proofs
/- Layer 6: the year of a day. -/
namespace Go.Proofs.YtafenpgafmdenaaDoor
open Go.ChangeShapes Go.WideShapes Go.ChangeAt Go.RowKit Go.Sort
set_option linter.unusedVariables false
set_option maxRecDepth 100000
theorem first_step (y : Int) (h0 : 0 ≤ y) (h1 : y ≤ 10000) : Cal.first y < Cal.first (y + 1) := by
  have := Cal.year_long y h0 h1
  split at this <;> omega
theorem first_up (n : Nat) : ∀ y : Int, 0 ≤ y → y + n ≤ 10001 → Cal.first y ≤ Cal.first (y + n) := by
  induction n with
  | zero => intro y _ _; simp
  | succ n ih =>
    intro y h0 h1
    have k1 := ih y h0 (by omega)
    have k2 := first_step (y + n) (by omega) (by omega)
    rw [show y + ((n + 1 : Nat) : Int) = y + n + 1 by omega]
    omega
theorem first_mono (a b : Int) (h0 : 0 ≤ a) (h : a ≤ b) (h1 : b ≤ 10001) : Cal.first a ≤ Cal.first b := by
  have := first_up (b - a).toNat a h0 (by omega)
  rwa [show a + ((b - a).toNat : Int) = b by omega] at this
theorem first_one : Cal.first 1 = -1373427 := by decide +kernel
theorem year_there (d : Int) (h0 : -1373427 ≤ d) : ∀ n : Nat, n ≤ 9999 → d < Cal.first (n + 1) → ∃ y : Int, 1 ≤ y ∧ y ≤ n ∧ Cal.first y ≤ d ∧ d < Cal.first (y + 1) := by
  intro n
  induction n with
  | zero => intro _ h; rw [show ((0 : Nat) : Int) + 1 = 1 by omega, first_one] at h; omega
  | succ n ih =>
    intro hn h
    by_cases c : d < Cal.first ((n : Int) + 1)
    · obtain ⟨y, a1, a2, a3, a4⟩ := ih (by omega) c
      exact ⟨y, a1, by omega, a3, a4⟩
    · exact ⟨((n + 1 : Nat) : Int), by omega, by omega, by rw [show ((n + 1 : Nat) : Int) = (n : Int) + 1 by omega]; omega, h⟩
theorem year_of (d : Int) (h0 : -1373427 ≤ d) (h1 : d ≤ 2278650) : ∃ y : Int, 1 ≤ y ∧ y ≤ 9999 ∧ Cal.first y ≤ d ∧ d < Cal.first (y + 1) :=
  year_there d h0 9999 (by omega) (by rw [show ((9999 : Nat) : Int) + 1 = 10000 by omega, first_last]; omega)
end Go.Proofs.YtafenpgafmdenaaDoor
/- Layer 6: the year of a day, by halves. -/
namespace Go.Proofs.YtafenpgafmdenaaDoor
open Go.ChangeShapes Go.WideShapes Go.ChangeAt Go.RowKit Go.Sort
set_option linter.unusedVariables false
set_option maxRecDepth 100000
end Go.Proofs.YtafenpgafmdenaaDoor
