/- Merged: CountO, CountN, CountM. -/
import Derived.Test.YtgcpflbpiifdbaaDoorCountP
import Derived.Test.YtgcpflbpiifdbaaDoorCountB
/- Layer 27: the document's days between two dates. -/
namespace Go.Proofs.YtgcpflbpiifdbaaDoor
open Go.ChangeShapes Go.WideShapes Go.ChangeAt Go.RowKit
set_option linter.unusedVariables false
set_option maxRecDepth 100000
end Go.Proofs.YtgcpflbpiifdbaaDoor
/- Layer 27: steps and the days between, of any dates. -/
namespace Go.Proofs.YtgcpflbpiifdbaaDoor
open Go.ChangeShapes Go.WideShapes Go.ChangeAt Go.RowKit
set_option linter.unusedVariables false
set_option maxRecDepth 100000
set_option maxHeartbeats 4000000 in
theorem count_Between_a (aa bb : Dt) (n la lb er : Int) (w : World) (hT : Tab w 1 kevCells) (hL : Tab w 0 lenCells) (HC : Hid (∀ w : World, Tab w 1 kevCells → Tab w 0 lenCells → Calls Tryd.prog 9 #[.agg #[.int .i64 (aa).1, .int .i64 (aa).2.1, .bool (aa).2.2.1, .int .i64 (aa).2.2.2]] w fun e w' => e = .returned (.tuple #[.int .i64 la, .int .i64 er]) ∧ Below w.heap.size w w')) (h : (er != 0) = true) :
    Calls Tryd.prog 8 #[.agg #[.int .i64 (aa).1, .int .i64 (aa).2.1, .bool (aa).2.2.1, .int .i64 (aa).2.2.2], .agg #[.int .i64 (bb).1, .int .i64 (bb).2.1, .bool (bb).2.2.1, .int .i64 (bb).2.2.2], .int .i64 n] w fun e w' => e = .returned (.tuple #[.int .i64 0, .int .i64 er]) ∧ Below w.heap.size w w' := by
  go_enter Tryd.func8, Tryd.ntmps8
  go_wp2_with fail
  refine (HC.out _ (Tab.below hT (by repeat (first | (with_reducible exact Below.refl _ _) | (with_reducible assumption) | (with_reducible refine bdrew ?_) | (with_reducible refine baa ?_ _) | (with_reducible refine bs ?_ (by first | exact Nat.le_refl _ | omega | (simp; done) | (simp; omega)) _) | (with_reducible refine bt ?_ (by with_reducible assumption))))) (Tab.below hL (by repeat (first | (with_reducible exact Below.refl _ _) | (with_reducible assumption) | (with_reducible refine bdrew ?_) | (with_reducible refine baa ?_ _) | (with_reducible refine bs ?_ (by first | exact Nat.le_refl _ | omega | (simp; done) | (simp; omega)) _) | (with_reducible refine bt ?_ (by with_reducible assumption)))))).mono ?_
  rintro e w1 ⟨rfl, hb1⟩
  obtain ⟨hc1, hf1⟩ := bcell hb1
  have hz1 := hb1.size
  simp at hz1
  have b0 : w1.cell? ⟨w.heap.size + 1, 0, none⟩ = some (.int .i64 (bb).1) := (hc1 _ _ (by first | (simp; done) | (simp; omega))).trans (by simp [go_sem])
  have b1 : w1.cell? ⟨w.heap.size + 1, 1, none⟩ = some (.int .i64 (bb).2.1) := (hc1 _ _ (by first | (simp; done) | (simp; omega))).trans (by simp [go_sem])
  have b2 : w1.cell? ⟨w.heap.size + 1, 2, none⟩ = some (.bool (bb).2.2.1) := (hc1 _ _ (by first | (simp; done) | (simp; omega))).trans (by simp [go_sem])
  have b3 : w1.cell? ⟨w.heap.size + 1, 3, none⟩ = some (.int .i64 (bb).2.2.2) := (hc1 _ _ (by first | (simp; done) | (simp; omega))).trans (by simp [go_sem])
  have m0 : w1.cell? ⟨w.heap.size + 2, 0, none⟩ = some (.int .i64 n) := (hc1 _ _ (by first | (simp; done) | (simp; omega))).trans (by simp [go_sem])
  have r0 : w1.cell? ⟨w.heap.size + 3, 0, none⟩ = some (.int .i64 0) := (hc1 _ _ (by first | (simp; done) | (simp; omega))).trans (by simp [go_sem])
  have e0 : w1.cell? ⟨w.heap.size + 4, 0, none⟩ = some (.int .i64 0) := (hc1 _ _ (by first | (simp; done) | (simp; omega))).trans (by simp [go_sem])
  have x0 : w1.frozen? ⟨w.heap.size + 3, 0, none⟩ = false := (hf1 _ _ (by first | (simp; done) | (simp; omega))).trans (by simp [go_sem])
  have y0 : w1.frozen? ⟨w.heap.size + 4, 0, none⟩ = false := (hf1 _ _ (by first | (simp; done) | (simp; omega))).trans (by simp [go_sem])
  have hB1 : Below w.heap.size w w1 := by repeat (first | (with_reducible exact Below.refl _ _) | (with_reducible assumption) | (with_reducible refine bdrew ?_) | (with_reducible refine baa ?_ _) | (with_reducible refine bs ?_ (by first | exact Nat.le_refl _ | omega | (simp; done) | (simp; omega)) _) | (with_reducible refine bt ?_ (by with_reducible assumption)))
  have l1 : w.heap.size + 4 < w1.heap.size := by omega
  clear hb1 hc1 hf1
  go_wp2_with fail
  refine bodyPost_ret (v := .tuple #[.int .i64 0, .int .i64 er]) (by simp [results, Tryd.results8, go_sem, *]) rfl ⟨rfl, ?_⟩
  repeat (first | (with_reducible exact Below.refl _ _) | (with_reducible assumption) | (with_reducible refine bdrew ?_) | (with_reducible refine baa ?_ _) | (with_reducible refine bs ?_ (by first | exact Nat.le_refl _ | omega | (simp; done) | (simp; omega)) _) | (with_reducible refine bt ?_ (by with_reducible assumption)))
set_option maxHeartbeats 4000000 in
theorem count_Between_b (aa bb : Dt) (n la lb er : Int) (w : World) (hT : Tab w 1 kevCells) (hL : Tab w 0 lenCells) (HC : Hid (∀ w : World, Tab w 1 kevCells → Tab w 0 lenCells → Calls Tryd.prog 9 #[.agg #[.int .i64 (aa).1, .int .i64 (aa).2.1, .bool (aa).2.2.1, .int .i64 (aa).2.2.2]] w fun e w' => e = .returned (.tuple #[.int .i64 la, .int .i64 0]) ∧ Below w.heap.size w w')) (HD : Hid (∀ w : World, Tab w 1 kevCells → Tab w 0 lenCells → Calls Tryd.prog 9 #[.agg #[.int .i64 (bb).1, .int .i64 (bb).2.1, .bool (bb).2.2.1, .int .i64 (bb).2.2.2]] w fun e w' => e = .returned (.tuple #[.int .i64 lb, .int .i64 er]) ∧ Below w.heap.size w w')) (h : (er != 0) = true) :
    Calls Tryd.prog 8 #[.agg #[.int .i64 (aa).1, .int .i64 (aa).2.1, .bool (aa).2.2.1, .int .i64 (aa).2.2.2], .agg #[.int .i64 (bb).1, .int .i64 (bb).2.1, .bool (bb).2.2.1, .int .i64 (bb).2.2.2], .int .i64 n] w fun e w' => e = .returned (.tuple #[.int .i64 0, .int .i64 er]) ∧ Below w.heap.size w w' := by
  go_enter Tryd.func8, Tryd.ntmps8
  go_wp2_with fail
  refine (HC.out _ (Tab.below hT (by repeat (first | (with_reducible exact Below.refl _ _) | (with_reducible assumption) | (with_reducible refine bdrew ?_) | (with_reducible refine baa ?_ _) | (with_reducible refine bs ?_ (by first | exact Nat.le_refl _ | omega | (simp; done) | (simp; omega)) _) | (with_reducible refine bt ?_ (by with_reducible assumption))))) (Tab.below hL (by repeat (first | (with_reducible exact Below.refl _ _) | (with_reducible assumption) | (with_reducible refine bdrew ?_) | (with_reducible refine baa ?_ _) | (with_reducible refine bs ?_ (by first | exact Nat.le_refl _ | omega | (simp; done) | (simp; omega)) _) | (with_reducible refine bt ?_ (by with_reducible assumption)))))).mono ?_
  rintro e w1 ⟨rfl, hb1⟩
  obtain ⟨hc1, hf1⟩ := bcell hb1
  have hz1 := hb1.size
  simp at hz1
  have b0 : w1.cell? ⟨w.heap.size + 1, 0, none⟩ = some (.int .i64 (bb).1) := (hc1 _ _ (by first | (simp; done) | (simp; omega))).trans (by simp [go_sem])
  have b1 : w1.cell? ⟨w.heap.size + 1, 1, none⟩ = some (.int .i64 (bb).2.1) := (hc1 _ _ (by first | (simp; done) | (simp; omega))).trans (by simp [go_sem])
  have b2 : w1.cell? ⟨w.heap.size + 1, 2, none⟩ = some (.bool (bb).2.2.1) := (hc1 _ _ (by first | (simp; done) | (simp; omega))).trans (by simp [go_sem])
  have b3 : w1.cell? ⟨w.heap.size + 1, 3, none⟩ = some (.int .i64 (bb).2.2.2) := (hc1 _ _ (by first | (simp; done) | (simp; omega))).trans (by simp [go_sem])
  have m0 : w1.cell? ⟨w.heap.size + 2, 0, none⟩ = some (.int .i64 n) := (hc1 _ _ (by first | (simp; done) | (simp; omega))).trans (by simp [go_sem])
  have r0 : w1.cell? ⟨w.heap.size + 3, 0, none⟩ = some (.int .i64 0) := (hc1 _ _ (by first | (simp; done) | (simp; omega))).trans (by simp [go_sem])
  have e0 : w1.cell? ⟨w.heap.size + 4, 0, none⟩ = some (.int .i64 0) := (hc1 _ _ (by first | (simp; done) | (simp; omega))).trans (by simp [go_sem])
  have x0 : w1.frozen? ⟨w.heap.size + 3, 0, none⟩ = false := (hf1 _ _ (by first | (simp; done) | (simp; omega))).trans (by simp [go_sem])
  have y0 : w1.frozen? ⟨w.heap.size + 4, 0, none⟩ = false := (hf1 _ _ (by first | (simp; done) | (simp; omega))).trans (by simp [go_sem])
  have hB1 : Below w.heap.size w w1 := by repeat (first | (with_reducible exact Below.refl _ _) | (with_reducible assumption) | (with_reducible refine bdrew ?_) | (with_reducible refine baa ?_ _) | (with_reducible refine bs ?_ (by first | exact Nat.le_refl _ | omega | (simp; done) | (simp; omega)) _) | (with_reducible refine bt ?_ (by with_reducible assumption)))
  have l1 : w.heap.size + 4 < w1.heap.size := by omega
  clear hb1 hc1 hf1
  go_wp2_with fail
  refine (HD.out _ (Tab.below hT hB1) (Tab.below hL hB1)).mono ?_
  rintro e w2 ⟨rfl, hb2⟩
  have hB2 : Below w.heap.size w w2 := bt hB1 hb2
  have m2 := (hb2.cell (p := ⟨w.heap.size + 2, 0, none⟩) (by simp; omega)).trans m0
  have r2 := (hb2.cell (p := ⟨w.heap.size + 3, 0, none⟩) (by simp; omega)).trans r0
  have e2 := (hb2.cell (p := ⟨w.heap.size + 4, 0, none⟩) (by simp; omega)).trans e0
  have x2 := (hb2.frozen (p := ⟨w.heap.size + 3, 0, none⟩) (by simp; omega)).trans x0
  have y2 := (hb2.frozen (p := ⟨w.heap.size + 4, 0, none⟩) (by simp; omega)).trans y0
  clear m0 r0 e0 x0 y0
  clear hb2
  go_wp2_with fail
  refine bodyPost_ret (v := .tuple #[.int .i64 0, .int .i64 er]) (by simp [results, Tryd.results8, go_sem, *]) rfl ⟨rfl, ?_⟩
  repeat (first | (with_reducible exact Below.refl _ _) | (with_reducible assumption) | (with_reducible refine bdrew ?_) | (with_reducible refine baa ?_ _) | (with_reducible refine bs ?_ (by first | exact Nat.le_refl _ | omega | (simp; done) | (simp; omega)) _) | (with_reducible refine bt ?_ (by with_reducible assumption)))
set_option maxHeartbeats 4000000 in
theorem count_Between_low (aa bb : Dt) (n la lb er : Int) (w : World) (hT : Tab w 1 kevCells) (hL : Tab w 0 lenCells) (HC : Hid (∀ w : World, Tab w 1 kevCells → Tab w 0 lenCells → Calls Tryd.prog 9 #[.agg #[.int .i64 (aa).1, .int .i64 (aa).2.1, .bool (aa).2.2.1, .int .i64 (aa).2.2.2]] w fun e w' => e = .returned (.tuple #[.int .i64 la, .int .i64 0]) ∧ Below w.heap.size w w')) (HD : Hid (∀ w : World, Tab w 1 kevCells → Tab w 0 lenCells → Calls Tryd.prog 9 #[.agg #[.int .i64 (bb).1, .int .i64 (bb).2.1, .bool (bb).2.2.1, .int .i64 (bb).2.2.2]] w fun e w' => e = .returned (.tuple #[.int .i64 lb, .int .i64 0]) ∧ Below w.heap.size w w')) (h : n < 0) :
    Calls Tryd.prog 8 #[.agg #[.int .i64 (aa).1, .int .i64 (aa).2.1, .bool (aa).2.2.1, .int .i64 (aa).2.2.2], .agg #[.int .i64 (bb).1, .int .i64 (bb).2.1, .bool (bb).2.2.1, .int .i64 (bb).2.2.2], .int .i64 n] w fun e w' => e = .returned (.tuple #[.int .i64 0, .int .i64 1]) ∧ Below w.heap.size w w' := by
  have h1 : decide (n < 0) = true := by simpa using h
  go_enter Tryd.func8, Tryd.ntmps8
  go_wp2_with fail
  refine (HC.out _ (Tab.below hT (by repeat (first | (with_reducible exact Below.refl _ _) | (with_reducible assumption) | (with_reducible refine bdrew ?_) | (with_reducible refine baa ?_ _) | (with_reducible refine bs ?_ (by first | exact Nat.le_refl _ | omega | (simp; done) | (simp; omega)) _) | (with_reducible refine bt ?_ (by with_reducible assumption))))) (Tab.below hL (by repeat (first | (with_reducible exact Below.refl _ _) | (with_reducible assumption) | (with_reducible refine bdrew ?_) | (with_reducible refine baa ?_ _) | (with_reducible refine bs ?_ (by first | exact Nat.le_refl _ | omega | (simp; done) | (simp; omega)) _) | (with_reducible refine bt ?_ (by with_reducible assumption)))))).mono ?_
  rintro e w1 ⟨rfl, hb1⟩
  obtain ⟨hc1, hf1⟩ := bcell hb1
  have hz1 := hb1.size
  simp at hz1
  have b0 : w1.cell? ⟨w.heap.size + 1, 0, none⟩ = some (.int .i64 (bb).1) := (hc1 _ _ (by first | (simp; done) | (simp; omega))).trans (by simp [go_sem])
  have b1 : w1.cell? ⟨w.heap.size + 1, 1, none⟩ = some (.int .i64 (bb).2.1) := (hc1 _ _ (by first | (simp; done) | (simp; omega))).trans (by simp [go_sem])
  have b2 : w1.cell? ⟨w.heap.size + 1, 2, none⟩ = some (.bool (bb).2.2.1) := (hc1 _ _ (by first | (simp; done) | (simp; omega))).trans (by simp [go_sem])
  have b3 : w1.cell? ⟨w.heap.size + 1, 3, none⟩ = some (.int .i64 (bb).2.2.2) := (hc1 _ _ (by first | (simp; done) | (simp; omega))).trans (by simp [go_sem])
  have m0 : w1.cell? ⟨w.heap.size + 2, 0, none⟩ = some (.int .i64 n) := (hc1 _ _ (by first | (simp; done) | (simp; omega))).trans (by simp [go_sem])
  have r0 : w1.cell? ⟨w.heap.size + 3, 0, none⟩ = some (.int .i64 0) := (hc1 _ _ (by first | (simp; done) | (simp; omega))).trans (by simp [go_sem])
  have e0 : w1.cell? ⟨w.heap.size + 4, 0, none⟩ = some (.int .i64 0) := (hc1 _ _ (by first | (simp; done) | (simp; omega))).trans (by simp [go_sem])
  have x0 : w1.frozen? ⟨w.heap.size + 3, 0, none⟩ = false := (hf1 _ _ (by first | (simp; done) | (simp; omega))).trans (by simp [go_sem])
  have y0 : w1.frozen? ⟨w.heap.size + 4, 0, none⟩ = false := (hf1 _ _ (by first | (simp; done) | (simp; omega))).trans (by simp [go_sem])
  have hB1 : Below w.heap.size w w1 := by repeat (first | (with_reducible exact Below.refl _ _) | (with_reducible assumption) | (with_reducible refine bdrew ?_) | (with_reducible refine baa ?_ _) | (with_reducible refine bs ?_ (by first | exact Nat.le_refl _ | omega | (simp; done) | (simp; omega)) _) | (with_reducible refine bt ?_ (by with_reducible assumption)))
  have l1 : w.heap.size + 4 < w1.heap.size := by omega
  clear hb1 hc1 hf1
  go_wp2_with fail
  refine (HD.out _ (Tab.below hT hB1) (Tab.below hL hB1)).mono ?_
  rintro e w2 ⟨rfl, hb2⟩
  have hB2 : Below w.heap.size w w2 := bt hB1 hb2
  have m2 := (hb2.cell (p := ⟨w.heap.size + 2, 0, none⟩) (by simp; omega)).trans m0
  have r2 := (hb2.cell (p := ⟨w.heap.size + 3, 0, none⟩) (by simp; omega)).trans r0
  have e2 := (hb2.cell (p := ⟨w.heap.size + 4, 0, none⟩) (by simp; omega)).trans e0
  have x2 := (hb2.frozen (p := ⟨w.heap.size + 3, 0, none⟩) (by simp; omega)).trans x0
  have y2 := (hb2.frozen (p := ⟨w.heap.size + 4, 0, none⟩) (by simp; omega)).trans y0
  clear m0 r0 e0 x0 y0
  clear hb2
  go_wp2_with fail
  refine bodyPost_ret (v := .tuple #[.int .i64 0, .int .i64 1]) (by simp [results, Tryd.results8, go_sem, *]) rfl ⟨rfl, ?_⟩
  repeat (first | (with_reducible exact Below.refl _ _) | (with_reducible assumption) | (with_reducible refine bdrew ?_) | (with_reducible refine baa ?_ _) | (with_reducible refine bs ?_ (by first | exact Nat.le_refl _ | omega | (simp; done) | (simp; omega)) _) | (with_reducible refine bt ?_ (by with_reducible assumption)))
set_option maxHeartbeats 4000000 in
theorem count_Between_high (aa bb : Dt) (n la lb er : Int) (w : World) (hT : Tab w 1 kevCells) (hL : Tab w 0 lenCells) (HC : Hid (∀ w : World, Tab w 1 kevCells → Tab w 0 lenCells → Calls Tryd.prog 9 #[.agg #[.int .i64 (aa).1, .int .i64 (aa).2.1, .bool (aa).2.2.1, .int .i64 (aa).2.2.2]] w fun e w' => e = .returned (.tuple #[.int .i64 la, .int .i64 0]) ∧ Below w.heap.size w w')) (HD : Hid (∀ w : World, Tab w 1 kevCells → Tab w 0 lenCells → Calls Tryd.prog 9 #[.agg #[.int .i64 (bb).1, .int .i64 (bb).2.1, .bool (bb).2.2.1, .int .i64 (bb).2.2.2]] w fun e w' => e = .returned (.tuple #[.int .i64 lb, .int .i64 0]) ∧ Below w.heap.size w w')) (h : 3000 < n) :
    Calls Tryd.prog 8 #[.agg #[.int .i64 (aa).1, .int .i64 (aa).2.1, .bool (aa).2.2.1, .int .i64 (aa).2.2.2], .agg #[.int .i64 (bb).1, .int .i64 (bb).2.1, .bool (bb).2.2.1, .int .i64 (bb).2.2.2], .int .i64 n] w fun e w' => e = .returned (.tuple #[.int .i64 0, .int .i64 1]) ∧ Below w.heap.size w w' := by
  have h0 : ¬ n < 0 := by omega
  have h1 : decide (n < 0) = false := by simpa using h0
  have h2 : decide (3000 < n) = true := by simpa using h
  go_enter Tryd.func8, Tryd.ntmps8
  go_wp2_with fail
  refine (HC.out _ (Tab.below hT (by repeat (first | (with_reducible exact Below.refl _ _) | (with_reducible assumption) | (with_reducible refine bdrew ?_) | (with_reducible refine baa ?_ _) | (with_reducible refine bs ?_ (by first | exact Nat.le_refl _ | omega | (simp; done) | (simp; omega)) _) | (with_reducible refine bt ?_ (by with_reducible assumption))))) (Tab.below hL (by repeat (first | (with_reducible exact Below.refl _ _) | (with_reducible assumption) | (with_reducible refine bdrew ?_) | (with_reducible refine baa ?_ _) | (with_reducible refine bs ?_ (by first | exact Nat.le_refl _ | omega | (simp; done) | (simp; omega)) _) | (with_reducible refine bt ?_ (by with_reducible assumption)))))).mono ?_
  rintro e w1 ⟨rfl, hb1⟩
  obtain ⟨hc1, hf1⟩ := bcell hb1
  have hz1 := hb1.size
  simp at hz1
  have b0 : w1.cell? ⟨w.heap.size + 1, 0, none⟩ = some (.int .i64 (bb).1) := (hc1 _ _ (by first | (simp; done) | (simp; omega))).trans (by simp [go_sem])
  have b1 : w1.cell? ⟨w.heap.size + 1, 1, none⟩ = some (.int .i64 (bb).2.1) := (hc1 _ _ (by first | (simp; done) | (simp; omega))).trans (by simp [go_sem])
  have b2 : w1.cell? ⟨w.heap.size + 1, 2, none⟩ = some (.bool (bb).2.2.1) := (hc1 _ _ (by first | (simp; done) | (simp; omega))).trans (by simp [go_sem])
  have b3 : w1.cell? ⟨w.heap.size + 1, 3, none⟩ = some (.int .i64 (bb).2.2.2) := (hc1 _ _ (by first | (simp; done) | (simp; omega))).trans (by simp [go_sem])
  have m0 : w1.cell? ⟨w.heap.size + 2, 0, none⟩ = some (.int .i64 n) := (hc1 _ _ (by first | (simp; done) | (simp; omega))).trans (by simp [go_sem])
  have r0 : w1.cell? ⟨w.heap.size + 3, 0, none⟩ = some (.int .i64 0) := (hc1 _ _ (by first | (simp; done) | (simp; omega))).trans (by simp [go_sem])
  have e0 : w1.cell? ⟨w.heap.size + 4, 0, none⟩ = some (.int .i64 0) := (hc1 _ _ (by first | (simp; done) | (simp; omega))).trans (by simp [go_sem])
  have x0 : w1.frozen? ⟨w.heap.size + 3, 0, none⟩ = false := (hf1 _ _ (by first | (simp; done) | (simp; omega))).trans (by simp [go_sem])
  have y0 : w1.frozen? ⟨w.heap.size + 4, 0, none⟩ = false := (hf1 _ _ (by first | (simp; done) | (simp; omega))).trans (by simp [go_sem])
  have hB1 : Below w.heap.size w w1 := by repeat (first | (with_reducible exact Below.refl _ _) | (with_reducible assumption) | (with_reducible refine bdrew ?_) | (with_reducible refine baa ?_ _) | (with_reducible refine bs ?_ (by first | exact Nat.le_refl _ | omega | (simp; done) | (simp; omega)) _) | (with_reducible refine bt ?_ (by with_reducible assumption)))
  have l1 : w.heap.size + 4 < w1.heap.size := by omega
  clear hb1 hc1 hf1
  go_wp2_with fail
  refine (HD.out _ (Tab.below hT hB1) (Tab.below hL hB1)).mono ?_
  rintro e w2 ⟨rfl, hb2⟩
  have hB2 : Below w.heap.size w w2 := bt hB1 hb2
  have m2 := (hb2.cell (p := ⟨w.heap.size + 2, 0, none⟩) (by simp; omega)).trans m0
  have r2 := (hb2.cell (p := ⟨w.heap.size + 3, 0, none⟩) (by simp; omega)).trans r0
  have e2 := (hb2.cell (p := ⟨w.heap.size + 4, 0, none⟩) (by simp; omega)).trans e0
  have x2 := (hb2.frozen (p := ⟨w.heap.size + 3, 0, none⟩) (by simp; omega)).trans x0
  have y2 := (hb2.frozen (p := ⟨w.heap.size + 4, 0, none⟩) (by simp; omega)).trans y0
  clear m0 r0 e0 x0 y0
  clear hb2
  go_wp2_with fail
  refine bodyPost_ret (v := .tuple #[.int .i64 0, .int .i64 1]) (by simp [results, Tryd.results8, go_sem, *]) rfl ⟨rfl, ?_⟩
  repeat (first | (with_reducible exact Below.refl _ _) | (with_reducible assumption) | (with_reducible refine bdrew ?_) | (with_reducible refine baa ?_ _) | (with_reducible refine bs ?_ (by first | exact Nat.le_refl _ | omega | (simp; done) | (simp; omega)) _) | (with_reducible refine bt ?_ (by with_reducible assumption)))
end Go.Proofs.YtgcpflbpiifdbaaDoor
/- Layer 27: steps and the days between, of any dates: the values. -/
namespace Go.Proofs.YtgcpflbpiifdbaaDoor
open Go.ChangeShapes Go.WideShapes Go.ChangeAt Go.RowKit
set_option linter.unusedVariables false
set_option maxRecDepth 100000
namespace D27
def E (d : Dt) : Int := D10.dateE d.1 d.2.1 d.2.2.1 d.2.2.2
def Dv (d : Dt) : Int := D10.dayV d.1 d.2.1 d.2.2.1 d.2.2.2
def Ok (f : Int → Dt) : Prop := ∀ D, -1373427 ≤ D → D ≤ 2278650 → E (f D) = 0 ∧ Dv (f D) = D
theorem f_some : ∃ f, Ok f := by
  have h : ∀ D : Int, ∃ d : Dt, -1373427 ≤ D → D ≤ 2278650 → E d = 0 ∧ Dv d = D := fun D => by
    by_cases h : -1373427 ≤ D ∧ D ≤ 2278650
    · obtain ⟨a, b, c, d, h1, h2⟩ := date_of_day h.1 h.2
      exact ⟨(a, b, c, d), fun _ _ => ⟨h1, h2⟩⟩
    · exact ⟨(0, 0, false, 0), fun h1 h2 => absurd ⟨h1, h2⟩ h⟩
  exact ⟨fun D => Classical.choose (h D), fun D => Classical.choose_spec (h D)⟩
theorem bd {d : Dt} (h : E d = 0) : -1373427 ≤ Dv d ∧ Dv d ≤ 2278650 := by
  obtain ⟨_, b1, b2⟩ := D10.dayV_ok _ _ _ _ h
  exact ⟨b1, b2⟩
theorem year {d : Dt} (h : E d = 0) : I64 d.1 := by
  obtain ⟨⟨g1, g2, _⟩, _⟩ := D10.date_valid h
  exact ⟨by omega, by omega⟩
theorem same {d e : Dt} (h : E d = 0) (h' : E e = 0) (hD : Dv d = Dv e) : d = e := by
  obtain ⟨a, b, c, g⟩ := D10.same_day h h' hD
  exact Prod.ext a (Prod.ext b (Prod.ext c g))
theorem f_at {f : Int → Dt} (hf : Ok f) {d : Dt} (h : E d = 0) : f (Dv d) = d := by
  obtain ⟨b1, b2⟩ := bd h
  obtain ⟨a, b⟩ := hf _ b1 b2
  exact same a h b
def stE (d : Dt) (n : Int) : Int := if E d = 0 then (if n < -3000 ∨ 3000 < n then 1 else if -1373427 ≤ Dv d + n ∧ Dv d + n ≤ 2278650 then 0 else 2) else E d
def stV (f : Int → Dt) (d : Dt) (n : Int) : Dt := if stE d n = 0 then f (Dv d + n) else (0, 0, false, 0)
def beE (a b : Dt) (m : Int) : Int := if E a = 0 then (if E b = 0 then (if m < 0 ∨ 3000 < m then 1 else if Dv a ≤ Dv b ∧ Dv b - Dv a ≤ m then 0 else 2) else E b) else E a
def beV (a b : Dt) (m : Int) : Int := if beE a b m = 0 then Dv b - Dv a else 0
theorem next_is {f : Int → Dt} (hf : Ok f) {D : Int} (h1 : -1373427 ≤ D) (h2 : D + 1 ≤ 2278650) : NextIs (f D).1 (f D).2.1 (f D).2.2.1 (f D).2.2.2 (f (D + 1)).1 (f (D + 1)).2.1 (f (D + 1)).2.2.1 (f (D + 1)).2.2.2 0 := by
  obtain ⟨a, b⟩ := hf D h1 (by omega)
  obtain ⟨a', b'⟩ := hf (D + 1) (by omega) h2
  exact .inr (.inr ⟨a, rfl, a', by unfold Dv at b b'; rw [b, b']⟩)
theorem next_no {f : Int → Dt} (hf : Ok f) : NextIs (f 2278650).1 (f 2278650).2.1 (f 2278650).2.2.1 (f 2278650).2.2.2 0 0 false 0 2 := by
  obtain ⟨a, b⟩ := hf 2278650 (by omega) (by omega)
  exact .inr (.inl ⟨a, b, rfl, rfl, rfl, rfl, rfl⟩)
theorem ahead_is {f : Int → Dt} (hf : Ok f) {D : Int} (h1 : -1373427 ≤ D - 1) (h2 : D ≤ 2278650) : AheadIs (f D).1 (f D).2.1 (f D).2.2.1 (f D).2.2.2 (f (D - 1)).1 (f (D - 1)).2.1 (f (D - 1)).2.2.1 (f (D - 1)).2.2.2 0 := by
  obtain ⟨a, b⟩ := hf D (by omega) h2
  obtain ⟨a', b'⟩ := hf (D - 1) h1 (by omega)
  exact .inr (.inr ⟨a, rfl, a', by unfold Dv at b b'; rw [b, b']⟩)
theorem ahead_no {f : Int → Dt} (hf : Ok f) : AheadIs (f (-1373427)).1 (f (-1373427)).2.1 (f (-1373427)).2.2.1 (f (-1373427)).2.2.2 0 0 false 0 2 := by
  obtain ⟨a, b⟩ := hf (-1373427) (by omega) (by omega)
  exact .inr (.inl ⟨a, b, rfl, rfl, rfl, rfl, rfl⟩)
/-- The dates from d on, and back. -/
def up (f : Int → Dt) (d : Dt) (k : Nat) : Dt := f (Dv d + k)
def dn (f : Int → Dt) (d : Dt) (k : Nat) : Dt := f (Dv d - k)
theorem up_0 {f : Int → Dt} (hf : Ok f) {d : Dt} (h : E d = 0) : up f d 0 = d := by
  unfold up
  rw [show Dv d + ((0 : Nat) : Int) = Dv d by omega]
  exact f_at hf h
theorem dn_0 {f : Int → Dt} (hf : Ok f) {d : Dt} (h : E d = 0) : dn f d 0 = d := by
  unfold dn
  rw [show Dv d - ((0 : Nat) : Int) = Dv d by omega]
  exact f_at hf h
end D27
theorem count_up_step {f : Int → Dt} (hf : D27.Ok f) {d : Dt} (h : D27.E d = 0) (k : Nat) (hk : k < (2278650 - D27.Dv d).toNat) (W : World) : Tab W 1 kevCells → Tab W 0 lenCells → Calls Tryd.prog 10 #[.agg #[.int .i64 ((D27.up f d k)).1, .int .i64 ((D27.up f d k)).2.1, .bool ((D27.up f d k)).2.2.1, .int .i64 ((D27.up f d k)).2.2.2]] W fun e w' => e = .returned (.tuple #[.agg #[.int .i64 ((D27.up f d (k + 1))).1, .int .i64 ((D27.up f d (k + 1))).2.1, .bool ((D27.up f d (k + 1))).2.2.1, .int .i64 ((D27.up f d (k + 1))).2.2.2], .int .i64 0]) ∧ Below W.heap.size W w' := by
  obtain ⟨b1, b2⟩ := D27.bd h
  have e : D27.up f d (k + 1) = f (D27.Dv d + k + 1) := by
    unfold D27.up
    congr 1
    omega
  rw [e]
  intro hT hL
  exact count_Next _ _ _ _ W (D27.year (hf _ (by omega) (by omega)).1) hT hL _ _ _ _ _ (D27.next_is hf (by omega) (by omega))
theorem count_up_end {f : Int → Dt} (hf : D27.Ok f) {d : Dt} (h : D27.E d = 0) (W : World) : Tab W 1 kevCells → Tab W 0 lenCells → Calls Tryd.prog 10 #[.agg #[.int .i64 ((D27.up f d (2278650 - D27.Dv d).toNat)).1, .int .i64 ((D27.up f d (2278650 - D27.Dv d).toNat)).2.1, .bool ((D27.up f d (2278650 - D27.Dv d).toNat)).2.2.1, .int .i64 ((D27.up f d (2278650 - D27.Dv d).toNat)).2.2.2]] W fun e w' => e = .returned (.tuple #[.agg #[.int .i64 0, .int .i64 0, .bool false, .int .i64 0], .int .i64 2]) ∧ Below W.heap.size W w' := by
  obtain ⟨b1, b2⟩ := D27.bd h
  have e : D27.up f d (2278650 - D27.Dv d).toNat = f 2278650 := by
    unfold D27.up
    congr 1
    omega
  rw [e]
  intro hT hL
  exact count_Next _ _ _ _ W (D27.year (hf _ (by omega) (by omega)).1) hT hL _ _ _ _ _ (D27.next_no hf)
theorem count_dn_step {f : Int → Dt} (hf : D27.Ok f) {d : Dt} (h : D27.E d = 0) (k : Nat) (hk : k < (D27.Dv d + 1373427).toNat) (W : World) : Tab W 1 kevCells → Tab W 0 lenCells → Calls Tryd.prog 11 #[.agg #[.int .i64 ((D27.dn f d k)).1, .int .i64 ((D27.dn f d k)).2.1, .bool ((D27.dn f d k)).2.2.1, .int .i64 ((D27.dn f d k)).2.2.2]] W fun e w' => e = .returned (.tuple #[.agg #[.int .i64 ((D27.dn f d (k + 1))).1, .int .i64 ((D27.dn f d (k + 1))).2.1, .bool ((D27.dn f d (k + 1))).2.2.1, .int .i64 ((D27.dn f d (k + 1))).2.2.2], .int .i64 0]) ∧ Below W.heap.size W w' := by
  obtain ⟨b1, b2⟩ := D27.bd h
  have e : D27.dn f d (k + 1) = f (D27.Dv d - k - 1) := by
    unfold D27.dn
    congr 1
    omega
  rw [e]
  intro hT hL
  exact count_Ahead _ _ _ _ W (D27.year (hf _ (by omega) (by omega)).1) hT hL _ _ _ _ _ (D27.ahead_is hf (by omega) (by omega))
theorem count_dn_end {f : Int → Dt} (hf : D27.Ok f) {d : Dt} (h : D27.E d = 0) (W : World) : Tab W 1 kevCells → Tab W 0 lenCells → Calls Tryd.prog 11 #[.agg #[.int .i64 ((D27.dn f d (D27.Dv d + 1373427).toNat)).1, .int .i64 ((D27.dn f d (D27.Dv d + 1373427).toNat)).2.1, .bool ((D27.dn f d (D27.Dv d + 1373427).toNat)).2.2.1, .int .i64 ((D27.dn f d (D27.Dv d + 1373427).toNat)).2.2.2]] W fun e w' => e = .returned (.tuple #[.agg #[.int .i64 0, .int .i64 0, .bool false, .int .i64 0], .int .i64 2]) ∧ Below W.heap.size W w' := by
  obtain ⟨b1, b2⟩ := D27.bd h
  have e : D27.dn f d (D27.Dv d + 1373427).toNat = f (-1373427) := by
    unfold D27.dn
    congr 1
    omega
  rw [e]
  intro hT hL
  exact count_Ahead _ _ _ _ W (D27.year (hf _ (by omega) (by omega)).1) hT hL _ _ _ _ _ (D27.ahead_no hf)
theorem count_Steps_any {f : Int → Dt} (hf : D27.Ok f) (d : Dt) (n : Int) (w : World) (hd : I64 d.1) (hT : Tab w 1 kevCells) (hL : Tab w 0 lenCells) :
    Calls Tryd.prog 4 #[.agg #[.int .i64 (d).1, .int .i64 (d).2.1, .bool (d).2.2.1, .int .i64 (d).2.2.2], .int .i64 n] w fun e w' => e = .returned (.tuple #[.agg #[.int .i64 ((D27.stV f d n)).1, .int .i64 ((D27.stV f d n)).2.1, .bool ((D27.stV f d n)).2.2.1, .int .i64 ((D27.stV f d n)).2.2.2], .int .i64 (D27.stE d n)]) ∧ Below w.heap.size w w' := by
  have HC := Lib.hid (fun w hT hL => count_check d.1 d.2.1 d.2.2.1 d.2.2.2 w hd hT hL)
  by_cases hE : D27.E d = 0
  · obtain ⟨b1, b2⟩ := D27.bd hE
    rw [show D10.dateE d.1 d.2.1 d.2.2.1 d.2.2.2 = 0 from hE] at HC
    by_cases h1 : n < -3000
    · have es : D27.stE d n = 1 := by unfold D27.stE; rw [if_pos hE, if_pos (.inl h1)]
      have ev : D27.stV f d n = (0, 0, false, 0) := by unfold D27.stV; rw [es]; rfl
      rw [es, ev]
      exact count_Steps_low d n _ 0 w hT hL h1 HC
    by_cases h2 : 3000 < n
    · have es : D27.stE d n = 1 := by unfold D27.stE; rw [if_pos hE, if_pos (.inr h2)]
      have ev : D27.stV f d n = (0, 0, false, 0) := by unfold D27.stV; rw [es]; rfl
      rw [es, ev]
      exact count_Steps_high d n _ 0 w hT hL h2 HC
    by_cases h3 : 0 ≤ n
    · skip
      have es : D27.stE d n = if D27.Dv d + n ≤ 2278650 then 0 else 2 := by
        unfold D27.stE
        rw [if_pos hE, if_neg (by omega)]
        by_cases c : D27.Dv d + n ≤ 2278650
        · rw [if_pos c, if_pos ⟨by omega, by omega⟩]
        · rw [if_neg c, if_neg (by omega)]
      have hm := count_Steps_up (D27.up f d) (2278650 - D27.Dv d).toNat (by omega) n _ w hT hL ⟨by omega, by omega⟩ (by rw [D27.up_0 hf hE]; exact HC) (Lib.hid (fun k hk W => count_up_step hf hE k hk W)) (Lib.hid (fun W => count_up_end hf hE W)) (n).toNat (by omega) (D27.stV f d n) (D27.stE d n) ⟨fun hq => ?_, fun hq => ?_⟩
      · rw [D27.up_0 hf hE] at hm
        exact hm
      · rw [if_pos (by omega)] at es
        refine ⟨?_, es⟩
        unfold D27.stV
        rw [es, if_pos rfl]
        unfold D27.up
        congr 1
        omega
      · rw [if_neg (by omega)] at es
        refine ⟨?_, es⟩
        unfold D27.stV
        rw [es]
        rfl
    · skip
      have es : D27.stE d n = if -1373427 ≤ D27.Dv d + n then 0 else 2 := by
        unfold D27.stE
        rw [if_pos hE, if_neg (by omega)]
        by_cases c : -1373427 ≤ D27.Dv d + n
        · rw [if_pos c, if_pos ⟨by omega, by omega⟩]
        · rw [if_neg c, if_neg (by omega)]
      have hm := count_Steps_down (D27.dn f d) (D27.Dv d + 1373427).toNat (by omega) n _ w hT hL ⟨by omega, by omega⟩ (by rw [D27.dn_0 hf hE]; exact HC) (Lib.hid (fun k hk W => count_dn_step hf hE k hk W)) (Lib.hid (fun W => count_dn_end hf hE W)) (-n).toNat (by omega) (D27.stV f d n) (D27.stE d n) ⟨fun hq => ?_, fun hq => ?_⟩
      · rw [D27.dn_0 hf hE] at hm
        exact hm
      · rw [if_pos (by omega)] at es
        refine ⟨?_, es⟩
        unfold D27.stV
        rw [es, if_pos rfl]
        unfold D27.dn
        congr 1
        omega
      · rw [if_neg (by omega)] at es
        refine ⟨?_, es⟩
        unfold D27.stV
        rw [es]
        rfl
  · have es : D27.stE d n = D27.E d := by unfold D27.stE; rw [if_neg hE]
    have ev : D27.stV f d n = (0, 0, false, 0) := by unfold D27.stV; rw [es, if_neg hE]
    rw [es, ev]
    exact count_Steps_err d n _ _ w hT hL (by simpa using hE) HC
theorem count_Between_any {f : Int → Dt} (hf : D27.Ok f) (a b : Dt) (m : Int) (w : World) (ha : I64 a.1) (hb : I64 b.1) (hT : Tab w 1 kevCells) (hL : Tab w 0 lenCells) :
    Calls Tryd.prog 8 #[.agg #[.int .i64 (a).1, .int .i64 (a).2.1, .bool (a).2.2.1, .int .i64 (a).2.2.2], .agg #[.int .i64 (b).1, .int .i64 (b).2.1, .bool (b).2.2.1, .int .i64 (b).2.2.2], .int .i64 m] w fun e w' => e = .returned (.tuple #[.int .i64 (D27.beV a b m), .int .i64 (D27.beE a b m)]) ∧ Below w.heap.size w w' := by
  have HC := Lib.hid (fun w hT hL => count_check a.1 a.2.1 a.2.2.1 a.2.2.2 w ha hT hL)
  have HD := Lib.hid (fun w hT hL => count_check b.1 b.2.1 b.2.2.1 b.2.2.2 w hb hT hL)
  by_cases hE : D27.E a = 0
  · obtain ⟨b1, b2⟩ := D27.bd hE
    rw [show D10.dateE a.1 a.2.1 a.2.2.1 a.2.2.2 = 0 from hE] at HC
    by_cases hG : D27.E b = 0
    · obtain ⟨b3, b4⟩ := D27.bd hG
      rw [show D10.dateE b.1 b.2.1 b.2.2.1 b.2.2.2 = 0 from hG] at HD
      by_cases h1 : m < 0
      · have es : D27.beE a b m = 1 := by unfold D27.beE; rw [if_pos hE, if_pos hG, if_pos (.inl h1)]
        have ev : D27.beV a b m = 0 := by unfold D27.beV; rw [es]; rfl
        rw [es, ev]
        exact count_Between_low a b m _ _ 0 w hT hL HC HD h1
      by_cases h2 : 3000 < m
      · have es : D27.beE a b m = 1 := by unfold D27.beE; rw [if_pos hE, if_pos hG, if_pos (.inr h2)]
        have ev : D27.beV a b m = 0 := by unfold D27.beV; rw [es]; rfl
        rw [es, ev]
        exact count_Between_high a b m _ _ 0 w hT hL HC HD h2
      have hday : ∀ q : Nat, q ≤ (2278650 - D27.Dv a).toNat → D27.up f a q = b → D27.Dv b = D27.Dv a + q := fun q hq h => by
        rw [← h]
        exact (hf _ (by omega) (by omega)).2
      have es : D27.beE a b m = if D27.Dv a ≤ D27.Dv b ∧ D27.Dv b - D27.Dv a ≤ m then 0 else 2 := by
        unfold D27.beE
        rw [if_pos hE, if_pos hG, if_neg (by omega)]
      have hm := count_Between_go (D27.up f a) (2278650 - D27.Dv a).toNat (by omega) b m _ _ w hT hL m.toNat (by omega) (by omega) (by rw [D27.up_0 hf hE]; exact HC) HD (Lib.hid (fun k hk W => count_up_step hf hE k hk W)) (Lib.hid (fun W => count_up_end hf hE W)) (D27.beV a b m) (D27.beE a b m) ⟨fun q h1 h2 h3 => ?_, fun hq => ?_⟩
      · rw [D27.up_0 hf hE] at hm
        exact hm
      · have := hday q h1 h3
        rw [if_pos ⟨by omega, by omega⟩] at es
        refine ⟨?_, es⟩
        unfold D27.beV
        rw [es, if_pos rfl]
        omega
      · by_cases c : D27.Dv a ≤ D27.Dv b ∧ D27.Dv b - D27.Dv a ≤ m
        · refine absurd ?_ (hq (D27.Dv b - D27.Dv a).toNat (by omega) (by omega))
          have e : D27.up f a (D27.Dv b - D27.Dv a).toNat = f (D27.Dv b) := by
            unfold D27.up
            congr 1
            omega
          exact e.trans (D27.f_at hf hG)
        · rw [if_neg c] at es
          refine ⟨?_, es⟩
          unfold D27.beV
          rw [es]
          rfl
    · have es : D27.beE a b m = D27.E b := by unfold D27.beE; rw [if_pos hE, if_neg hG]
      have ev : D27.beV a b m = 0 := by unfold D27.beV; rw [es, if_neg hG]
      rw [es, ev]
      exact count_Between_b a b m _ _ _ w hT hL HC HD (by simpa using hG)
  · have es : D27.beE a b m = D27.E a := by unfold D27.beE; rw [if_neg hE]
    have ev : D27.beV a b m = 0 := by unfold D27.beV; rw [es, if_neg hE]
    rw [es, ev]
    exact count_Between_a a b m _ 0 _ w hT hL HC (by simpa using hE)
end Go.Proofs.YtgcpflbpiifdbaaDoor
