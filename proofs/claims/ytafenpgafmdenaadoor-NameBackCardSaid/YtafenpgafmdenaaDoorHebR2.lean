/- Layer 10: the document's answers, ToDay and FromDay. -/
import Derived.Test.YtafenpgafmdenaaDoorHebR
namespace Go.Proofs.YtafenpgafmdenaaDoor
open Go.ChangeShapes Go.WideShapes Go.ChangeAt Go.RowKit
set_option linter.unusedVariables false
set_option maxRecDepth 100000
def KevAt (w : World) (g : Nat) (b k : Int) (lp : Bool) : Prop := w.cell? ⟨g, 0, none⟩ = some (.int .i64 b) ∧ w.cell? ⟨g, 1, none⟩ = some (.int .i64 k) ∧ w.cell? ⟨g, 2, none⟩ = some (.bool lp) ∧ g < w.heap.size
theorem KevAt.below {w w' : World} {g : Nat} {b k : Int} {lp : Bool} (h : KevAt w g b k lp) (hb : Below w.heap.size w w') : KevAt w' g b k lp := by
  obtain ⟨h0, h1, h2, hs⟩ := h
  have c := fun i => hb.cell (p := ⟨g, i, none⟩) hs
  exact ⟨(c 0).trans h0, (c 1).trans h1, (c 2).trans h2, Nat.lt_of_lt_of_le hs hb.size⟩
end Go.Proofs.YtafenpgafmdenaaDoor
