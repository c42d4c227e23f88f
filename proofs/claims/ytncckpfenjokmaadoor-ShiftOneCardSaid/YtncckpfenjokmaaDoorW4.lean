/- Layer 4: the walks of its laws. -/
import Derived.Test.YtncckpfenjokmaaDoorMolad
import Derived.Deep.Light
import Derived.Deep.QuietTactic
import Derived.BigQuiet
namespace Go.Proofs.YtncckpfenjokmaaDoor
open Go.ChangeShapes Go.WideShapes Go.ChangeAt Go.RowKit
set_option linter.unusedVariables false

theorem molad_Of_at (y m n : Int) (w : World) (h0 : 0 ≤ y) (h1 : y ≤ 10001) (m1 : 1 ≤ m) (m2 : m ≤ Cal.months y) (hn : Cal.before y + m - 1 = n) :
    Calls Tryd.prog 177 #[.int .i64 y, .int .i64 m] w fun e w' => e = .returned (.tuple #[.agg #[.int .i64 (Cal.moonDay n), .int .i64 (Cal.moonPart n)], .int .i64 0]) ∧ Below w.heap.size w w' := by
  have := molad_Of y m w (by obtain ⟨b1, b2⟩ := months_bd y; exact ⟨by omega, by omega⟩)
  rwa [(of_yes y m h0 h1 m1 m2).1, (of_yes y m h0 h1 m1 m2).2.1, (of_yes y m h0 h1 m1 m2).2.2, hn] at this
theorem molad_Of_month (y m : Int) (w : World) (h0 : 0 ≤ y) (h1 : y ≤ 10001) (hm : I64 m) (h : m < 1 ∨ Cal.months y < m) :
    Calls Tryd.prog 177 #[.int .i64 y, .int .i64 m] w fun e w' => e = .returned (.tuple #[.agg #[.int .i64 0, .int .i64 0], .int .i64 3]) ∧ Below w.heap.size w w' := by
  have := molad_Of y m w hm
  rwa [(of_month y m h0 h1 h).1, (of_month y m h0 h1 h).2.1, (of_month y m h0 h1 h).2.2] at this
theorem molad_Of_first (w : World) :
    Calls Tryd.prog 177 #[.int .i64 1, .int .i64 1] w fun e w' => e = .returned (.tuple #[.agg #[.int .i64 (-1373427), .int .i64 5604], .int .i64 0]) ∧ Below w.heap.size w w' := by
  have := molad_Of_at 1 1 0 w (by omega) (by omega) (by omega) (by decide) (by decide)
  rwa [show Cal.moonDay 0 = -1373427 by decide, show Cal.moonPart 0 = 5604 by decide] at this
theorem bdn {a b : World} (h : Below a.heap.size a b) (n : Nat) : Below a.heap.size a (b.drewN n) := h.trans ⟨rfl, rfl, rfl, Nat.le_refl _, fun _ _ => rfl⟩
end Go.Proofs.YtncckpfenjokmaaDoor
