/- Layer 15: months, years away: plain arithmetic; the code's functions. -/
import Derived.Test.YtgcpflbpiifdbaaDoorHebR2
import Derived.Test.YtgcpflbpiifdbaaDoorLC
import Derived.Deep.QuietTactic
import Derived.BigQuiet
import Derived.LoopTactic
import Derived.RegionTactic
import Derived.BigRegion
import Derived.Deep.RegionWith
namespace Go.Proofs.YtgcpflbpiifdbaaDoor
open Go.ChangeShapes Go.WideShapes Go.ChangeAt Go.RowKit Go.Sort
set_option linter.unusedVariables false
set_option maxRecDepth 100000
namespace S15
theorem before_bd (y : Int) (h1 : 0 ≤ y) (h2 : y ≤ 10000) : -20 ≤ Cal.before y ∧ Cal.before y ≤ 123671 := by unfold Cal.before; omega
end S15
def CodeAt (w : World) (g : Nat) (n : Int) (l : Bool) : Prop := w.cell? ⟨g, 0, none⟩ = some (.int .i64 n) ∧ w.cell? ⟨g, 1, none⟩ = some (.bool l) ∧ (∀ i, w.frozen? ⟨g, i, none⟩ = false) ∧ g < w.heap.size
theorem CodeAt.below {w w' : World} {g : Nat} {n : Int} {l : Bool} (h : CodeAt w g n l) (hb : Below w.heap.size w w') : CodeAt w' g n l := by
  obtain ⟨h0, h1, hf, hs⟩ := h
  have c := fun i => hb.cell (p := ⟨g, i, none⟩) hs
  exact ⟨(c 0).trans h0, (c 1).trans h1, fun i => (hb.frozen (p := ⟨g, i, none⟩) hs).trans (hf i), Nat.lt_of_lt_of_le hs hb.size⟩
end Go.Proofs.YtgcpflbpiifdbaaDoor
