/- Layer 10: the date of a day; the document's answers. -/
import Derived.Test.YtgcpflbpiifdbaaDoorHeb2
namespace Go.Proofs.YtgcpflbpiifdbaaDoor
open Go.ChangeShapes Go.WideShapes Go.ChangeAt Go.RowKit
set_option linter.unusedVariables false
set_option maxRecDepth 100000
def ResAt (w : World) (g : Nat) : Prop := w.cell? ⟨g, 0, none⟩ = some (.int .i64 0) ∧ w.cell? ⟨g, 1, none⟩ = some (.int .i64 0) ∧ w.cell? ⟨g, 2, none⟩ = some (.bool false) ∧ w.cell? ⟨g, 3, none⟩ = some (.int .i64 0) ∧ (∀ i, w.frozen? ⟨g, i, none⟩ = false) ∧ g < w.heap.size
theorem ResAt.below {w w' : World} {g : Nat} (h : ResAt w g) (hb : Below w.heap.size w w') : ResAt w' g := by
  obtain ⟨h0, h1, h2, h3, hf, hs⟩ := h
  have c := fun i => hb.cell (p := ⟨g, i, none⟩) hs
  exact ⟨(c 0).trans h0, (c 1).trans h1, (c 2).trans h2, (c 3).trans h3, fun i => (hb.frozen (p := ⟨g, i, none⟩) hs).trans (hf i), Nat.lt_of_lt_of_le hs hb.size⟩
theorem ResAt.but {w w' : World} {g g' : Nat} (h : ResAt w g) (hb : But g' w w') (hg : g ≠ g') : ResAt w' g := by
  obtain ⟨h0, h1, h2, h3, hf, hs⟩ := h
  have c := fun i => hb.cell (k := g) (o := i) hs hg
  exact ⟨(c 0).trans h0, (c 1).trans h1, (c 2).trans h2, (c 3).trans h3, fun i => (hb.frozen (k := g) (o := i) hs hg).trans (hf i), Nat.lt_of_lt_of_le hs hb.size⟩
theorem res_alloc (w : World) (t : TypeId) : ResAt (w.alloc (.cells #[.int .i64 0, .int .i64 0, .bool false, .int .i64 0] t)) w.heap.size := ⟨by simp [go_sem], by simp [go_sem], by simp [go_sem], by simp [go_sem], fun i => by simp [go_sem], by simp⟩
set_option maxHeartbeats 1000000 in
theorem ref10_FromDay_no (D : Int) (w : World) (h : D < -1373427 ∨ 2278650 < D) :
    Calls Tryd.prog 7 #[.int .i64 D] w fun e w' => e = .returned (.tuple #[.agg #[.int .i64 0, .int .i64 0, .bool false, .int .i64 0], .int .i64 2]) ∧ Below w.heap.size w w' := by
  go_enter Tryd.func7, Tryd.ntmps7
  go_wp2_with fail
  refine (ref6_Year_no D _ h).mono ?_
  rintro e w1 ⟨rfl, hb1⟩
  have hR := ResAt.below (res_alloc w _) hb1
  have hB := bt (ba _ _) hb1
  clear hb1
  obtain ⟨r0, r1, r2, r3, rf, rs⟩ := hR
  go_wp2_with fail
  refine bodyPost_ret (v := .tuple #[.agg #[.int .i64 0, .int .i64 0, .bool false, .int .i64 0], .int .i64 2]) (by simp [results, Tryd.results7, go_sem, *]) rfl ⟨rfl, ?_⟩
  iterate 4 refine Below.setCell ?_ (Nat.le_refl w.heap.size) _
  exact hB
end Go.Proofs.YtgcpflbpiifdbaaDoor
