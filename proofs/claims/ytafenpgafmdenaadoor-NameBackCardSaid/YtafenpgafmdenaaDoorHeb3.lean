/- Layer 10: the date of a day; the document's answers. -/
import Derived.Test.YtafenpgafmdenaaDoorHeb2
namespace Go.Proofs.YtafenpgafmdenaaDoor
open Go.ChangeShapes Go.WideShapes Go.ChangeAt Go.RowKit
set_option linter.unusedVariables false
set_option maxRecDepth 100000
def ResAt (w : World) (g : Nat) : Prop := w.cell? ⟨g, 0, none⟩ = some (.int .i64 0) ∧ w.cell? ⟨g, 1, none⟩ = some (.int .i64 0) ∧ w.cell? ⟨g, 2, none⟩ = some (.bool false) ∧ w.cell? ⟨g, 3, none⟩ = some (.int .i64 0) ∧ (∀ i, w.frozen? ⟨g, i, none⟩ = false) ∧ g < w.heap.size
theorem ResAt.below {w w' : World} {g : Nat} (h : ResAt w g) (hb : Below w.heap.size w w') : ResAt w' g := by
  obtain ⟨h0, h1, h2, h3, hf, hs⟩ := h
  have c := fun i => hb.cell (p := ⟨g, i, none⟩) hs
  exact ⟨(c 0).trans h0, (c 1).trans h1, (c 2).trans h2, (c 3).trans h3, fun i => (hb.frozen (p := ⟨g, i, none⟩) hs).trans (hf i), Nat.lt_of_lt_of_le hs hb.size⟩
theorem ResAt.but {w w' : World} {g g' : Nat} (h : ResAt w g) (hb : But g' w w') (hg : g ≠ g') : ResAt w' g := by
  obtain ⟨h0, h1, h2, h3, hf, hs⟩ := h
  have c := fun i => hb.cell (k := g) (o := i) hs hg
  exact ⟨(c 0).trans h0, (c 1).trans h1, (c 2).trans h2, (c 3).trans h3, fun i => (hb.frozen (k := g) (o := i) hs hg).trans (hf i), Nat.lt_of_lt_of_le hs hb.size⟩
theorem res_alloc (w : World) (t : TypeId) : ResAt (w.alloc (.cells #[.int .i64 0, .int .i64 0, .bool false, .int .i64 0] t)) w.heap.size := ⟨by simp [go_sem], by simp [go_sem], by simp [go_sem], by simp [go_sem], fun i => by simp [go_sem], by simp⟩
end Go.Proofs.YtafenpgafmdenaaDoor
