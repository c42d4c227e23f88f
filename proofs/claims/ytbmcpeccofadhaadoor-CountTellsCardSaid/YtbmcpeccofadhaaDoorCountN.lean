/- Layer 27: steps and the days between, of any dates. -/
import Derived.Test.YtbmcpeccofadhaaDoorCountO
import Derived.Test.YtbmcpeccofadhaaDoorCountB
namespace Go.Proofs.YtbmcpeccofadhaaDoor
open Go.ChangeShapes Go.WideShapes Go.ChangeAt Go.RowKit
set_option linter.unusedVariables false
set_option maxRecDepth 100000
set_option maxHeartbeats 4000000 in
theorem ref27_Steps_err (dd : Dt) (n er : Int) (w : World) (h : (er != 0) = true) (HC : Hid (∀ w : World, Calls Tryd.prog 32 #[.agg #[.int .i64 (dd).1, .int .i64 (dd).2.1, .bool (dd).2.2.1, .int .i64 (dd).2.2.2]] w fun e w' => e = .returned (.int .i64 er) ∧ Below w.heap.size w w')) :
    Calls Tryd.prog 17 #[.agg #[.int .i64 (dd).1, .int .i64 (dd).2.1, .bool (dd).2.2.1, .int .i64 (dd).2.2.2], .int .i64 n] w fun e w' => e = .returned (.tuple #[.agg #[.int .i64 0, .int .i64 0, .bool false, .int .i64 0], .int .i64 er]) ∧ Below w.heap.size w w' := by
  go_enter Tryd.func17, Tryd.ntmps17
  go_wp2_with fail
  refine (HC.out _).mono ?_
  rintro e w1 ⟨rfl, hb1⟩
  obtain ⟨hc1, hf1⟩ := bcell hb1
  have r0 : w1.cell? ⟨w.heap.size + 1, 0, none⟩ = some (.int .i64 0) := (hc1 _ _ (by first | (simp; done) | (simp; omega))).trans (by simp [go_sem])
  have r1 : w1.cell? ⟨w.heap.size + 1, 1, none⟩ = some (.int .i64 0) := (hc1 _ _ (by first | (simp; done) | (simp; omega))).trans (by simp [go_sem])
  have r2 : w1.cell? ⟨w.heap.size + 1, 2, none⟩ = some (.bool false) := (hc1 _ _ (by first | (simp; done) | (simp; omega))).trans (by simp [go_sem])
  have r3 : w1.cell? ⟨w.heap.size + 1, 3, none⟩ = some (.int .i64 0) := (hc1 _ _ (by first | (simp; done) | (simp; omega))).trans (by simp [go_sem])
  have z0 : w1.frozen? ⟨w.heap.size + 1, 0, none⟩ = false := (hf1 _ _ (by first | (simp; done) | (simp; omega))).trans (by simp [go_sem])
  have z1 : w1.frozen? ⟨w.heap.size + 1, 1, none⟩ = false := (hf1 _ _ (by first | (simp; done) | (simp; omega))).trans (by simp [go_sem])
  have z2 : w1.frozen? ⟨w.heap.size + 1, 2, none⟩ = false := (hf1 _ _ (by first | (simp; done) | (simp; omega))).trans (by simp [go_sem])
  have z3 : w1.frozen? ⟨w.heap.size + 1, 3, none⟩ = false := (hf1 _ _ (by first | (simp; done) | (simp; omega))).trans (by simp [go_sem])
  have hB1 : Below w.heap.size w w1 := by repeat (first | (with_reducible exact Below.refl _ _) | (with_reducible assumption) | (with_reducible refine bdrew ?_) | (with_reducible refine baa ?_ _) | (with_reducible refine bs ?_ (by first | exact Nat.le_refl _ | omega | (simp; done) | (simp; omega)) _) | (with_reducible refine bt ?_ (by with_reducible assumption)))
  clear hb1 hc1 hf1
  go_wp2_with fail
  refine bodyPost_ret (v := .tuple #[.agg #[.int .i64 0, .int .i64 0, .bool false, .int .i64 0], .int .i64 er]) (by simp [results, Tryd.results17, go_sem, *]) rfl ⟨rfl, ?_⟩
  repeat (first | (with_reducible exact Below.refl _ _) | (with_reducible assumption) | (with_reducible refine bdrew ?_) | (with_reducible refine baa ?_ _) | (with_reducible refine bs ?_ (by first | exact Nat.le_refl _ | omega | (simp; done) | (simp; omega)) _) | (with_reducible refine bt ?_ (by with_reducible assumption)))
set_option maxHeartbeats 4000000 in
theorem ref27_Steps_low (dd : Dt) (n er : Int) (w : World) (h : n < -3000) (HC : Hid (∀ w : World, Calls Tryd.prog 32 #[.agg #[.int .i64 (dd).1, .int .i64 (dd).2.1, .bool (dd).2.2.1, .int .i64 (dd).2.2.2]] w fun e w' => e = .returned (.int .i64 0) ∧ Below w.heap.size w w')) :
    Calls Tryd.prog 17 #[.agg #[.int .i64 (dd).1, .int .i64 (dd).2.1, .bool (dd).2.2.1, .int .i64 (dd).2.2.2], .int .i64 n] w fun e w' => e = .returned (.tuple #[.agg #[.int .i64 0, .int .i64 0, .bool false, .int .i64 0], .int .i64 1]) ∧ Below w.heap.size w w' := by
  have h1 : decide (n < -3000) = true := by simpa using h
  go_enter Tryd.func17, Tryd.ntmps17
  go_wp2_with fail
  refine (HC.out _).mono ?_
  rintro e w1 ⟨rfl, hb1⟩
  obtain ⟨hc1, hf1⟩ := bcell hb1
  have r0 : w1.cell? ⟨w.heap.size + 1, 0, none⟩ = some (.int .i64 0) := (hc1 _ _ (by first | (simp; done) | (simp; omega))).trans (by simp [go_sem])
  have r1 : w1.cell? ⟨w.heap.size + 1, 1, none⟩ = some (.int .i64 0) := (hc1 _ _ (by first | (simp; done) | (simp; omega))).trans (by simp [go_sem])
  have r2 : w1.cell? ⟨w.heap.size + 1, 2, none⟩ = some (.bool false) := (hc1 _ _ (by first | (simp; done) | (simp; omega))).trans (by simp [go_sem])
  have r3 : w1.cell? ⟨w.heap.size + 1, 3, none⟩ = some (.int .i64 0) := (hc1 _ _ (by first | (simp; done) | (simp; omega))).trans (by simp [go_sem])
  have z0 : w1.frozen? ⟨w.heap.size + 1, 0, none⟩ = false := (hf1 _ _ (by first | (simp; done) | (simp; omega))).trans (by simp [go_sem])
  have z1 : w1.frozen? ⟨w.heap.size + 1, 1, none⟩ = false := (hf1 _ _ (by first | (simp; done) | (simp; omega))).trans (by simp [go_sem])
  have z2 : w1.frozen? ⟨w.heap.size + 1, 2, none⟩ = false := (hf1 _ _ (by first | (simp; done) | (simp; omega))).trans (by simp [go_sem])
  have z3 : w1.frozen? ⟨w.heap.size + 1, 3, none⟩ = false := (hf1 _ _ (by first | (simp; done) | (simp; omega))).trans (by simp [go_sem])
  have hB1 : Below w.heap.size w w1 := by repeat (first | (with_reducible exact Below.refl _ _) | (with_reducible assumption) | (with_reducible refine bdrew ?_) | (with_reducible refine baa ?_ _) | (with_reducible refine bs ?_ (by first | exact Nat.le_refl _ | omega | (simp; done) | (simp; omega)) _) | (with_reducible refine bt ?_ (by with_reducible assumption)))
  clear hb1 hc1 hf1
  go_wp2_with fail
  refine bodyPost_ret (v := .tuple #[.agg #[.int .i64 0, .int .i64 0, .bool false, .int .i64 0], .int .i64 1]) (by simp [results, Tryd.results17, go_sem, *]) rfl ⟨rfl, ?_⟩
  repeat (first | (with_reducible exact Below.refl _ _) | (with_reducible assumption) | (with_reducible refine bdrew ?_) | (with_reducible refine baa ?_ _) | (with_reducible refine bs ?_ (by first | exact Nat.le_refl _ | omega | (simp; done) | (simp; omega)) _) | (with_reducible refine bt ?_ (by with_reducible assumption)))
set_option maxHeartbeats 4000000 in
theorem ref27_Steps_high (dd : Dt) (n er : Int) (w : World) (h : 3000 < n) (HC : Hid (∀ w : World, Calls Tryd.prog 32 #[.agg #[.int .i64 (dd).1, .int .i64 (dd).2.1, .bool (dd).2.2.1, .int .i64 (dd).2.2.2]] w fun e w' => e = .returned (.int .i64 0) ∧ Below w.heap.size w w')) :
    Calls Tryd.prog 17 #[.agg #[.int .i64 (dd).1, .int .i64 (dd).2.1, .bool (dd).2.2.1, .int .i64 (dd).2.2.2], .int .i64 n] w fun e w' => e = .returned (.tuple #[.agg #[.int .i64 0, .int .i64 0, .bool false, .int .i64 0], .int .i64 1]) ∧ Below w.heap.size w w' := by
  have h0 : ¬ n < -3000 := by omega
  have h1 : decide (n < -3000) = false := by simpa using h0
  have h2 : decide (3000 < n) = true := by simpa using h
  go_enter Tryd.func17, Tryd.ntmps17
  go_wp2_with fail
  refine (HC.out _).mono ?_
  rintro e w1 ⟨rfl, hb1⟩
  obtain ⟨hc1, hf1⟩ := bcell hb1
  have r0 : w1.cell? ⟨w.heap.size + 1, 0, none⟩ = some (.int .i64 0) := (hc1 _ _ (by first | (simp; done) | (simp; omega))).trans (by simp [go_sem])
  have r1 : w1.cell? ⟨w.heap.size + 1, 1, none⟩ = some (.int .i64 0) := (hc1 _ _ (by first | (simp; done) | (simp; omega))).trans (by simp [go_sem])
  have r2 : w1.cell? ⟨w.heap.size + 1, 2, none⟩ = some (.bool false) := (hc1 _ _ (by first | (simp; done) | (simp; omega))).trans (by simp [go_sem])
  have r3 : w1.cell? ⟨w.heap.size + 1, 3, none⟩ = some (.int .i64 0) := (hc1 _ _ (by first | (simp; done) | (simp; omega))).trans (by simp [go_sem])
  have z0 : w1.frozen? ⟨w.heap.size + 1, 0, none⟩ = false := (hf1 _ _ (by first | (simp; done) | (simp; omega))).trans (by simp [go_sem])
  have z1 : w1.frozen? ⟨w.heap.size + 1, 1, none⟩ = false := (hf1 _ _ (by first | (simp; done) | (simp; omega))).trans (by simp [go_sem])
  have z2 : w1.frozen? ⟨w.heap.size + 1, 2, none⟩ = false := (hf1 _ _ (by first | (simp; done) | (simp; omega))).trans (by simp [go_sem])
  have z3 : w1.frozen? ⟨w.heap.size + 1, 3, none⟩ = false := (hf1 _ _ (by first | (simp; done) | (simp; omega))).trans (by simp [go_sem])
  have hB1 : Below w.heap.size w w1 := by repeat (first | (with_reducible exact Below.refl _ _) | (with_reducible assumption) | (with_reducible refine bdrew ?_) | (with_reducible refine baa ?_ _) | (with_reducible refine bs ?_ (by first | exact Nat.le_refl _ | omega | (simp; done) | (simp; omega)) _) | (with_reducible refine bt ?_ (by with_reducible assumption)))
  clear hb1 hc1 hf1
  go_wp2_with fail
  refine bodyPost_ret (v := .tuple #[.agg #[.int .i64 0, .int .i64 0, .bool false, .int .i64 0], .int .i64 1]) (by simp [results, Tryd.results17, go_sem, *]) rfl ⟨rfl, ?_⟩
  repeat (first | (with_reducible exact Below.refl _ _) | (with_reducible assumption) | (with_reducible refine bdrew ?_) | (with_reducible refine baa ?_ _) | (with_reducible refine bs ?_ (by first | exact Nat.le_refl _ | omega | (simp; done) | (simp; omega)) _) | (with_reducible refine bt ?_ (by with_reducible assumption)))
set_option maxHeartbeats 4000000 in
theorem count_Between_a (aa bb : Dt) (n la lb er : Int) (w : World) (hT : Tab w 1 kevCells) (hL : Tab w 0 lenCells) (HC : Hid (∀ w : World, Tab w 1 kevCells → Tab w 0 lenCells → Calls Tryd.prog 30 #[.agg #[.int .i64 (aa).1, .int .i64 (aa).2.1, .bool (aa).2.2.1, .int .i64 (aa).2.2.2]] w fun e w' => e = .returned (.tuple #[.int .i64 la, .int .i64 er]) ∧ Below w.heap.size w w')) (h : (er != 0) = true) :
    Calls Tryd.prog 18 #[.agg #[.int .i64 (aa).1, .int .i64 (aa).2.1, .bool (aa).2.2.1, .int .i64 (aa).2.2.2], .agg #[.int .i64 (bb).1, .int .i64 (bb).2.1, .bool (bb).2.2.1, .int .i64 (bb).2.2.2], .int .i64 n] w fun e w' => e = .returned (.tuple #[.int .i64 0, .int .i64 er]) ∧ Below w.heap.size w w' := by
  go_enter Tryd.func18, Tryd.ntmps18
  go_wp2_with fail
  refine (HC.out _ (Tab.below hT (by repeat (first | (with_reducible exact Below.refl _ _) | (with_reducible assumption) | (with_reducible refine bdrew ?_) | (with_reducible refine baa ?_ _) | (with_reducible refine bs ?_ (by first | exact Nat.le_refl _ | omega | (simp; done) | (simp; omega)) _) | (with_reducible refine bt ?_ (by with_reducible assumption))))) (Tab.below hL (by repeat (first | (with_reducible exact Below.refl _ _) | (with_reducible assumption) | (with_reducible refine bdrew ?_) | (with_reducible refine baa ?_ _) | (with_reducible refine bs ?_ (by first | exact Nat.le_refl _ | omega | (simp; done) | (simp; omega)) _) | (with_reducible refine bt ?_ (by with_reducible assumption)))))).mono ?_
  rintro e w1 ⟨rfl, hb1⟩
  obtain ⟨hc1, hf1⟩ := bcell hb1
  have hz1 := hb1.size
  simp at hz1
  have b0 : w1.cell? ⟨w.heap.size + 1, 0, none⟩ = some (.int .i64 (bb).1) := (hc1 _ _ (by first | (simp; done) | (simp; omega))).trans (by simp [go_sem])
  have b1 : w1.cell? ⟨w.heap.size + 1, 1, none⟩ = some (.int .i64 (bb).2.1) := (hc1 _ _ (by first | (simp; done) | (simp; omega))).trans (by simp [go_sem])
  have b2 : w1.cell? ⟨w.heap.size + 1, 2, none⟩ = some (.bool (bb).2.2.1) := (hc1 _ _ (by first | (simp; done) | (simp; omega))).trans (by simp [go_sem])
  have b3 : w1.cell? ⟨w.heap.size + 1, 3, none⟩ = some (.int .i64 (bb).2.2.2) := (hc1 _ _ (by first | (simp; done) | (simp; omega))).trans (by simp [go_sem])
  have m0 : w1.cell? ⟨w.heap.size + 2, 0, none⟩ = some (.int .i64 n) := (hc1 _ _ (by first | (simp; done) | (simp; omega))).trans (by simp [go_sem])
  have r0 : w1.cell? ⟨w.heap.size + 3, 0, none⟩ = some (.int .i64 0) := (hc1 _ _ (by first | (simp; done) | (simp; omega))).trans (by simp [go_sem])
  have e0 : w1.cell? ⟨w.heap.size + 4, 0, none⟩ = some (.int .i64 0) := (hc1 _ _ (by first | (simp; done) | (simp; omega))).trans (by simp [go_sem])
  have x0 : w1.frozen? ⟨w.heap.size + 3, 0, none⟩ = false := (hf1 _ _ (by first | (simp; done) | (simp; omega))).trans (by simp [go_sem])
  have y0 : w1.frozen? ⟨w.heap.size + 4, 0, none⟩ = false := (hf1 _ _ (by first | (simp; done) | (simp; omega))).trans (by simp [go_sem])
  have hB1 : Below w.heap.size w w1 := by repeat (first | (with_reducible exact Below.refl _ _) | (with_reducible assumption) | (with_reducible refine bdrew ?_) | (with_reducible refine baa ?_ _) | (with_reducible refine bs ?_ (by first | exact Nat.le_refl _ | omega | (simp; done) | (simp; omega)) _) | (with_reducible refine bt ?_ (by with_reducible assumption)))
  have l1 : w.heap.size + 4 < w1.heap.size := by omega
  clear hb1 hc1 hf1
  go_wp2_with fail
  refine bodyPost_ret (v := .tuple #[.int .i64 0, .int .i64 er]) (by simp [results, Tryd.results18, go_sem, *]) rfl ⟨rfl, ?_⟩
  repeat (first | (with_reducible exact Below.refl _ _) | (with_reducible assumption) | (with_reducible refine bdrew ?_) | (with_reducible refine baa ?_ _) | (with_reducible refine bs ?_ (by first | exact Nat.le_refl _ | omega | (simp; done) | (simp; omega)) _) | (with_reducible refine bt ?_ (by with_reducible assumption)))
set_option maxHeartbeats 4000000 in
theorem count_Between_b (aa bb : Dt) (n la lb er : Int) (w : World) (hT : Tab w 1 kevCells) (hL : Tab w 0 lenCells) (HC : Hid (∀ w : World, Tab w 1 kevCells → Tab w 0 lenCells → Calls Tryd.prog 30 #[.agg #[.int .i64 (aa).1, .int .i64 (aa).2.1, .bool (aa).2.2.1, .int .i64 (aa).2.2.2]] w fun e w' => e = .returned (.tuple #[.int .i64 la, .int .i64 0]) ∧ Below w.heap.size w w')) (HD : Hid (∀ w : World, Tab w 1 kevCells → Tab w 0 lenCells → Calls Tryd.prog 30 #[.agg #[.int .i64 (bb).1, .int .i64 (bb).2.1, .bool (bb).2.2.1, .int .i64 (bb).2.2.2]] w fun e w' => e = .returned (.tuple #[.int .i64 lb, .int .i64 er]) ∧ Below w.heap.size w w')) (h : (er != 0) = true) :
    Calls Tryd.prog 18 #[.agg #[.int .i64 (aa).1, .int .i64 (aa).2.1, .bool (aa).2.2.1, .int .i64 (aa).2.2.2], .agg #[.int .i64 (bb).1, .int .i64 (bb).2.1, .bool (bb).2.2.1, .int .i64 (bb).2.2.2], .int .i64 n] w fun e w' => e = .returned (.tuple #[.int .i64 0, .int .i64 er]) ∧ Below w.heap.size w w' := by
  go_enter Tryd.func18, Tryd.ntmps18
  go_wp2_with fail
  refine (HC.out _ (Tab.below hT (by repeat (first | (with_reducible exact Below.refl _ _) | (with_reducible assumption) | (with_reducible refine bdrew ?_) | (with_reducible refine baa ?_ _) | (with_reducible refine bs ?_ (by first | exact Nat.le_refl _ | omega | (simp; done) | (simp; omega)) _) | (with_reducible refine bt ?_ (by with_reducible assumption))))) (Tab.below hL (by repeat (first | (with_reducible exact Below.refl _ _) | (with_reducible assumption) | (with_reducible refine bdrew ?_) | (with_reducible refine baa ?_ _) | (with_reducible refine bs ?_ (by first | exact Nat.le_refl _ | omega | (simp; done) | (simp; omega)) _) | (with_reducible refine bt ?_ (by with_reducible assumption)))))).mono ?_
  rintro e w1 ⟨rfl, hb1⟩
  obtain ⟨hc1, hf1⟩ := bcell hb1
  have hz1 := hb1.size
  simp at hz1
  have b0 : w1.cell? ⟨w.heap.size + 1, 0, none⟩ = some (.int .i64 (bb).1) := (hc1 _ _ (by first | (simp; done) | (simp; omega))).trans (by simp [go_sem])
  have b1 : w1.cell? ⟨w.heap.size + 1, 1, none⟩ = some (.int .i64 (bb).2.1) := (hc1 _ _ (by first | (simp; done) | (simp; omega))).trans (by simp [go_sem])
  have b2 : w1.cell? ⟨w.heap.size + 1, 2, none⟩ = some (.bool (bb).2.2.1) := (hc1 _ _ (by first | (simp; done) | (simp; omega))).trans (by simp [go_sem])
  have b3 : w1.cell? ⟨w.heap.size + 1, 3, none⟩ = some (.int .i64 (bb).2.2.2) := (hc1 _ _ (by first | (simp; done) | (simp; omega))).trans (by simp [go_sem])
  have m0 : w1.cell? ⟨w.heap.size + 2, 0, none⟩ = some (.int .i64 n) := (hc1 _ _ (by first | (simp; done) | (simp; omega))).trans (by simp [go_sem])
  have r0 : w1.cell? ⟨w.heap.size + 3, 0, none⟩ = some (.int .i64 0) := (hc1 _ _ (by first | (simp; done) | (simp; omega))).trans (by simp [go_sem])
  have e0 : w1.cell? ⟨w.heap.size + 4, 0, none⟩ = some (.int .i64 0) := (hc1 _ _ (by first | (simp; done) | (simp; omega))).trans (by simp [go_sem])
  have x0 : w1.frozen? ⟨w.heap.size + 3, 0, none⟩ = false := (hf1 _ _ (by first | (simp; done) | (simp; omega))).trans (by simp [go_sem])
  have y0 : w1.frozen? ⟨w.heap.size + 4, 0, none⟩ = false := (hf1 _ _ (by first | (simp; done) | (simp; omega))).trans (by simp [go_sem])
  have hB1 : Below w.heap.size w w1 := by repeat (first | (with_reducible exact Below.refl _ _) | (with_reducible assumption) | (with_reducible refine bdrew ?_) | (with_reducible refine baa ?_ _) | (with_reducible refine bs ?_ (by first | exact Nat.le_refl _ | omega | (simp; done) | (simp; omega)) _) | (with_reducible refine bt ?_ (by with_reducible assumption)))
  have l1 : w.heap.size + 4 < w1.heap.size := by omega
  clear hb1 hc1 hf1
  go_wp2_with fail
  refine (HD.out _ (Tab.below hT hB1) (Tab.below hL hB1)).mono ?_
  rintro e w2 ⟨rfl, hb2⟩
  have hB2 : Below w.heap.size w w2 := bt hB1 hb2
  have m2 := (hb2.cell (p := ⟨w.heap.size + 2, 0, none⟩) (by simp; omega)).trans m0
  have r2 := (hb2.cell (p := ⟨w.heap.size + 3, 0, none⟩) (by simp; omega)).trans r0
  have e2 := (hb2.cell (p := ⟨w.heap.size + 4, 0, none⟩) (by simp; omega)).trans e0
  have x2 := (hb2.frozen (p := ⟨w.heap.size + 3, 0, none⟩) (by simp; omega)).trans x0
  have y2 := (hb2.frozen (p := ⟨w.heap.size + 4, 0, none⟩) (by simp; omega)).trans y0
  clear m0 r0 e0 x0 y0
  clear hb2
  go_wp2_with fail
  refine bodyPost_ret (v := .tuple #[.int .i64 0, .int .i64 er]) (by simp [results, Tryd.results18, go_sem, *]) rfl ⟨rfl, ?_⟩
  repeat (first | (with_reducible exact Below.refl _ _) | (with_reducible assumption) | (with_reducible refine bdrew ?_) | (with_reducible refine baa ?_ _) | (with_reducible refine bs ?_ (by first | exact Nat.le_refl _ | omega | (simp; done) | (simp; omega)) _) | (with_reducible refine bt ?_ (by with_reducible assumption)))
set_option maxHeartbeats 4000000 in
theorem count_Between_low (aa bb : Dt) (n la lb er : Int) (w : World) (hT : Tab w 1 kevCells) (hL : Tab w 0 lenCells) (HC : Hid (∀ w : World, Tab w 1 kevCells → Tab w 0 lenCells → Calls Tryd.prog 30 #[.agg #[.int .i64 (aa).1, .int .i64 (aa).2.1, .bool (aa).2.2.1, .int .i64 (aa).2.2.2]] w fun e w' => e = .returned (.tuple #[.int .i64 la, .int .i64 0]) ∧ Below w.heap.size w w')) (HD : Hid (∀ w : World, Tab w 1 kevCells → Tab w 0 lenCells → Calls Tryd.prog 30 #[.agg #[.int .i64 (bb).1, .int .i64 (bb).2.1, .bool (bb).2.2.1, .int .i64 (bb).2.2.2]] w fun e w' => e = .returned (.tuple #[.int .i64 lb, .int .i64 0]) ∧ Below w.heap.size w w')) (h : n < 0) :
    Calls Tryd.prog 18 #[.agg #[.int .i64 (aa).1, .int .i64 (aa).2.1, .bool (aa).2.2.1, .int .i64 (aa).2.2.2], .agg #[.int .i64 (bb).1, .int .i64 (bb).2.1, .bool (bb).2.2.1, .int .i64 (bb).2.2.2], .int .i64 n] w fun e w' => e = .returned (.tuple #[.int .i64 0, .int .i64 1]) ∧ Below w.heap.size w w' := by
  have h1 : decide (n < 0) = true := by simpa using h
  go_enter Tryd.func18, Tryd.ntmps18
  go_wp2_with fail
  refine (HC.out _ (Tab.below hT (by repeat (first | (with_reducible exact Below.refl _ _) | (with_reducible assumption) | (with_reducible refine bdrew ?_) | (with_reducible refine baa ?_ _) | (with_reducible refine bs ?_ (by first | exact Nat.le_refl _ | omega | (simp; done) | (simp; omega)) _) | (with_reducible refine bt ?_ (by with_reducible assumption))))) (Tab.below hL (by repeat (first | (with_reducible exact Below.refl _ _) | (with_reducible assumption) | (with_reducible refine bdrew ?_) | (with_reducible refine baa ?_ _) | (with_reducible refine bs ?_ (by first | exact Nat.le_refl _ | omega | (simp; done) | (simp; omega)) _) | (with_reducible refine bt ?_ (by with_reducible assumption)))))).mono ?_
  rintro e w1 ⟨rfl, hb1⟩
  obtain ⟨hc1, hf1⟩ := bcell hb1
  have hz1 := hb1.size
  simp at hz1
  have b0 : w1.cell? ⟨w.heap.size + 1, 0, none⟩ = some (.int .i64 (bb).1) := (hc1 _ _ (by first | (simp; done) | (simp; omega))).trans (by simp [go_sem])
  have b1 : w1.cell? ⟨w.heap.size + 1, 1, none⟩ = some (.int .i64 (bb).2.1) := (hc1 _ _ (by first | (simp; done) | (simp; omega))).trans (by simp [go_sem])
  have b2 : w1.cell? ⟨w.heap.size + 1, 2, none⟩ = some (.bool (bb).2.2.1) := (hc1 _ _ (by first | (simp; done) | (simp; omega))).trans (by simp [go_sem])
  have b3 : w1.cell? ⟨w.heap.size + 1, 3, none⟩ = some (.int .i64 (bb).2.2.2) := (hc1 _ _ (by first | (simp; done) | (simp; omega))).trans (by simp [go_sem])
  have m0 : w1.cell? ⟨w.heap.size + 2, 0, none⟩ = some (.int .i64 n) := (hc1 _ _ (by first | (simp; done) | (simp; omega))).trans (by simp [go_sem])
  have r0 : w1.cell? ⟨w.heap.size + 3, 0, none⟩ = some (.int .i64 0) := (hc1 _ _ (by first | (simp; done) | (simp; omega))).trans (by simp [go_sem])
  have e0 : w1.cell? ⟨w.heap.size + 4, 0, none⟩ = some (.int .i64 0) := (hc1 _ _ (by first | (simp; done) | (simp; omega))).trans (by simp [go_sem])
  have x0 : w1.frozen? ⟨w.heap.size + 3, 0, none⟩ = false := (hf1 _ _ (by first | (simp; done) | (simp; omega))).trans (by simp [go_sem])
  have y0 : w1.frozen? ⟨w.heap.size + 4, 0, none⟩ = false := (hf1 _ _ (by first | (simp; done) | (simp; omega))).trans (by simp [go_sem])
  have hB1 : Below w.heap.size w w1 := by repeat (first | (with_reducible exact Below.refl _ _) | (with_reducible assumption) | (with_reducible refine bdrew ?_) | (with_reducible refine baa ?_ _) | (with_reducible refine bs ?_ (by first | exact Nat.le_refl _ | omega | (simp; done) | (simp; omega)) _) | (with_reducible refine bt ?_ (by with_reducible assumption)))
  have l1 : w.heap.size + 4 < w1.heap.size := by omega
  clear hb1 hc1 hf1
  go_wp2_with fail
  refine (HD.out _ (Tab.below hT hB1) (Tab.below hL hB1)).mono ?_
  rintro e w2 ⟨rfl, hb2⟩
  have hB2 : Below w.heap.size w w2 := bt hB1 hb2
  have m2 := (hb2.cell (p := ⟨w.heap.size + 2, 0, none⟩) (by simp; omega)).trans m0
  have r2 := (hb2.cell (p := ⟨w.heap.size + 3, 0, none⟩) (by simp; omega)).trans r0
  have e2 := (hb2.cell (p := ⟨w.heap.size + 4, 0, none⟩) (by simp; omega)).trans e0
  have x2 := (hb2.frozen (p := ⟨w.heap.size + 3, 0, none⟩) (by simp; omega)).trans x0
  have y2 := (hb2.frozen (p := ⟨w.heap.size + 4, 0, none⟩) (by simp; omega)).trans y0
  clear m0 r0 e0 x0 y0
  clear hb2
  go_wp2_with fail
  refine bodyPost_ret (v := .tuple #[.int .i64 0, .int .i64 1]) (by simp [results, Tryd.results18, go_sem, *]) rfl ⟨rfl, ?_⟩
  repeat (first | (with_reducible exact Below.refl _ _) | (with_reducible assumption) | (with_reducible refine bdrew ?_) | (with_reducible refine baa ?_ _) | (with_reducible refine bs ?_ (by first | exact Nat.le_refl _ | omega | (simp; done) | (simp; omega)) _) | (with_reducible refine bt ?_ (by with_reducible assumption)))
set_option maxHeartbeats 4000000 in
theorem count_Between_high (aa bb : Dt) (n la lb er : Int) (w : World) (hT : Tab w 1 kevCells) (hL : Tab w 0 lenCells) (HC : Hid (∀ w : World, Tab w 1 kevCells → Tab w 0 lenCells → Calls Tryd.prog 30 #[.agg #[.int .i64 (aa).1, .int .i64 (aa).2.1, .bool (aa).2.2.1, .int .i64 (aa).2.2.2]] w fun e w' => e = .returned (.tuple #[.int .i64 la, .int .i64 0]) ∧ Below w.heap.size w w')) (HD : Hid (∀ w : World, Tab w 1 kevCells → Tab w 0 lenCells → Calls Tryd.prog 30 #[.agg #[.int .i64 (bb).1, .int .i64 (bb).2.1, .bool (bb).2.2.1, .int .i64 (bb).2.2.2]] w fun e w' => e = .returned (.tuple #[.int .i64 lb, .int .i64 0]) ∧ Below w.heap.size w w')) (h : 3000 < n) :
    Calls Tryd.prog 18 #[.agg #[.int .i64 (aa).1, .int .i64 (aa).2.1, .bool (aa).2.2.1, .int .i64 (aa).2.2.2], .agg #[.int .i64 (bb).1, .int .i64 (bb).2.1, .bool (bb).2.2.1, .int .i64 (bb).2.2.2], .int .i64 n] w fun e w' => e = .returned (.tuple #[.int .i64 0, .int .i64 1]) ∧ Below w.heap.size w w' := by
  have h0 : ¬ n < 0 := by omega
  have h1 : decide (n < 0) = false := by simpa using h0
  have h2 : decide (3000 < n) = true := by simpa using h
  go_enter Tryd.func18, Tryd.ntmps18
  go_wp2_with fail
  refine (HC.out _ (Tab.below hT (by repeat (first | (with_reducible exact Below.refl _ _) | (with_reducible assumption) | (with_reducible refine bdrew ?_) | (with_reducible refine baa ?_ _) | (with_reducible refine bs ?_ (by first | exact Nat.le_refl _ | omega | (simp; done) | (simp; omega)) _) | (with_reducible refine bt ?_ (by with_reducible assumption))))) (Tab.below hL (by repeat (first | (with_reducible exact Below.refl _ _) | (with_reducible assumption) | (with_reducible refine bdrew ?_) | (with_reducible refine baa ?_ _) | (with_reducible refine bs ?_ (by first | exact Nat.le_refl _ | omega | (simp; done) | (simp; omega)) _) | (with_reducible refine bt ?_ (by with_reducible assumption)))))).mono ?_
  rintro e w1 ⟨rfl, hb1⟩
  obtain ⟨hc1, hf1⟩ := bcell hb1
  have hz1 := hb1.size
  simp at hz1
  have b0 : w1.cell? ⟨w.heap.size + 1, 0, none⟩ = some (.int .i64 (bb).1) := (hc1 _ _ (by first | (simp; done) | (simp; omega))).trans (by simp [go_sem])
  have b1 : w1.cell? ⟨w.heap.size + 1, 1, none⟩ = some (.int .i64 (bb).2.1) := (hc1 _ _ (by first | (simp; done) | (simp; omega))).trans (by simp [go_sem])
  have b2 : w1.cell? ⟨w.heap.size + 1, 2, none⟩ = some (.bool (bb).2.2.1) := (hc1 _ _ (by first | (simp; done) | (simp; omega))).trans (by simp [go_sem])
  have b3 : w1.cell? ⟨w.heap.size + 1, 3, none⟩ = some (.int .i64 (bb).2.2.2) := (hc1 _ _ (by first | (simp; done) | (simp; omega))).trans (by simp [go_sem])
  have m0 : w1.cell? ⟨w.heap.size + 2, 0, none⟩ = some (.int .i64 n) := (hc1 _ _ (by first | (simp; done) | (simp; omega))).trans (by simp [go_sem])
  have r0 : w1.cell? ⟨w.heap.size + 3, 0, none⟩ = some (.int .i64 0) := (hc1 _ _ (by first | (simp; done) | (simp; omega))).trans (by simp [go_sem])
  have e0 : w1.cell? ⟨w.heap.size + 4, 0, none⟩ = some (.int .i64 0) := (hc1 _ _ (by first | (simp; done) | (simp; omega))).trans (by simp [go_sem])
  have x0 : w1.frozen? ⟨w.heap.size + 3, 0, none⟩ = false := (hf1 _ _ (by first | (simp; done) | (simp; omega))).trans (by simp [go_sem])
  have y0 : w1.frozen? ⟨w.heap.size + 4, 0, none⟩ = false := (hf1 _ _ (by first | (simp; done) | (simp; omega))).trans (by simp [go_sem])
  have hB1 : Below w.heap.size w w1 := by repeat (first | (with_reducible exact Below.refl _ _) | (with_reducible assumption) | (with_reducible refine bdrew ?_) | (with_reducible refine baa ?_ _) | (with_reducible refine bs ?_ (by first | exact Nat.le_refl _ | omega | (simp; done) | (simp; omega)) _) | (with_reducible refine bt ?_ (by with_reducible assumption)))
  have l1 : w.heap.size + 4 < w1.heap.size := by omega
  clear hb1 hc1 hf1
  go_wp2_with fail
  refine (HD.out _ (Tab.below hT hB1) (Tab.below hL hB1)).mono ?_
  rintro e w2 ⟨rfl, hb2⟩
  have hB2 : Below w.heap.size w w2 := bt hB1 hb2
  have m2 := (hb2.cell (p := ⟨w.heap.size + 2, 0, none⟩) (by simp; omega)).trans m0
  have r2 := (hb2.cell (p := ⟨w.heap.size + 3, 0, none⟩) (by simp; omega)).trans r0
  have e2 := (hb2.cell (p := ⟨w.heap.size + 4, 0, none⟩) (by simp; omega)).trans e0
  have x2 := (hb2.frozen (p := ⟨w.heap.size + 3, 0, none⟩) (by simp; omega)).trans x0
  have y2 := (hb2.frozen (p := ⟨w.heap.size + 4, 0, none⟩) (by simp; omega)).trans y0
  clear m0 r0 e0 x0 y0
  clear hb2
  go_wp2_with fail
  refine bodyPost_ret (v := .tuple #[.int .i64 0, .int .i64 1]) (by simp [results, Tryd.results18, go_sem, *]) rfl ⟨rfl, ?_⟩
  repeat (first | (with_reducible exact Below.refl _ _) | (with_reducible assumption) | (with_reducible refine bdrew ?_) | (with_reducible refine baa ?_ _) | (with_reducible refine bs ?_ (by first | exact Nat.le_refl _ | omega | (simp; done) | (simp; omega)) _) | (with_reducible refine bt ?_ (by with_reducible assumption)))
set_option maxHeartbeats 4000000 in
theorem ref27_Between_a (aa bb : Dt) (n la lb er : Int) (w : World) (HC : Hid (∀ w : World, Calls Tryd.prog 32 #[.agg #[.int .i64 (aa).1, .int .i64 (aa).2.1, .bool (aa).2.2.1, .int .i64 (aa).2.2.2]] w fun e w' => e = .returned (.int .i64 er) ∧ Below w.heap.size w w')) (h : (er != 0) = true) :
    Calls Tryd.prog 19 #[.agg #[.int .i64 (aa).1, .int .i64 (aa).2.1, .bool (aa).2.2.1, .int .i64 (aa).2.2.2], .agg #[.int .i64 (bb).1, .int .i64 (bb).2.1, .bool (bb).2.2.1, .int .i64 (bb).2.2.2], .int .i64 n] w fun e w' => e = .returned (.tuple #[.int .i64 0, .int .i64 er]) ∧ Below w.heap.size w w' := by
  go_enter Tryd.func19, Tryd.ntmps19
  go_wp2_with fail
  refine (HC.out _).mono ?_
  rintro e w1 ⟨rfl, hb1⟩
  obtain ⟨hc1, hf1⟩ := bcell hb1
  have hz1 := hb1.size
  simp at hz1
  have b0 : w1.cell? ⟨w.heap.size + 1, 0, none⟩ = some (.int .i64 (bb).1) := (hc1 _ _ (by first | (simp; done) | (simp; omega))).trans (by simp [go_sem])
  have b1 : w1.cell? ⟨w.heap.size + 1, 1, none⟩ = some (.int .i64 (bb).2.1) := (hc1 _ _ (by first | (simp; done) | (simp; omega))).trans (by simp [go_sem])
  have b2 : w1.cell? ⟨w.heap.size + 1, 2, none⟩ = some (.bool (bb).2.2.1) := (hc1 _ _ (by first | (simp; done) | (simp; omega))).trans (by simp [go_sem])
  have b3 : w1.cell? ⟨w.heap.size + 1, 3, none⟩ = some (.int .i64 (bb).2.2.2) := (hc1 _ _ (by first | (simp; done) | (simp; omega))).trans (by simp [go_sem])
  have hB1 : Below w.heap.size w w1 := by repeat (first | (with_reducible exact Below.refl _ _) | (with_reducible assumption) | (with_reducible refine bdrew ?_) | (with_reducible refine baa ?_ _) | (with_reducible refine bs ?_ (by first | exact Nat.le_refl _ | omega | (simp; done) | (simp; omega)) _) | (with_reducible refine bt ?_ (by with_reducible assumption)))
  have l1 : w.heap.size + 1 < w1.heap.size := by omega
  clear hb1 hc1 hf1
  go_wp2_with fail
  refine bodyPost_ret (v := .tuple #[.int .i64 0, .int .i64 er]) (by simp [results, Tryd.results19, go_sem, *]) rfl ⟨rfl, ?_⟩
  repeat (first | (with_reducible exact Below.refl _ _) | (with_reducible assumption) | (with_reducible refine bdrew ?_) | (with_reducible refine baa ?_ _) | (with_reducible refine bs ?_ (by first | exact Nat.le_refl _ | omega | (simp; done) | (simp; omega)) _) | (with_reducible refine bt ?_ (by with_reducible assumption)))
set_option maxHeartbeats 4000000 in
theorem ref27_Between_b (aa bb : Dt) (n la lb er : Int) (w : World) (HC : Hid (∀ w : World, Calls Tryd.prog 32 #[.agg #[.int .i64 (aa).1, .int .i64 (aa).2.1, .bool (aa).2.2.1, .int .i64 (aa).2.2.2]] w fun e w' => e = .returned (.int .i64 0) ∧ Below w.heap.size w w')) (HD : Hid (∀ w : World, Calls Tryd.prog 32 #[.agg #[.int .i64 (bb).1, .int .i64 (bb).2.1, .bool (bb).2.2.1, .int .i64 (bb).2.2.2]] w fun e w' => e = .returned (.int .i64 er) ∧ Below w.heap.size w w')) (h : (er != 0) = true) :
    Calls Tryd.prog 19 #[.agg #[.int .i64 (aa).1, .int .i64 (aa).2.1, .bool (aa).2.2.1, .int .i64 (aa).2.2.2], .agg #[.int .i64 (bb).1, .int .i64 (bb).2.1, .bool (bb).2.2.1, .int .i64 (bb).2.2.2], .int .i64 n] w fun e w' => e = .returned (.tuple #[.int .i64 0, .int .i64 er]) ∧ Below w.heap.size w w' := by
  go_enter Tryd.func19, Tryd.ntmps19
  go_wp2_with fail
  refine (HC.out _).mono ?_
  rintro e w1 ⟨rfl, hb1⟩
  obtain ⟨hc1, hf1⟩ := bcell hb1
  have hz1 := hb1.size
  simp at hz1
  have b0 : w1.cell? ⟨w.heap.size + 1, 0, none⟩ = some (.int .i64 (bb).1) := (hc1 _ _ (by first | (simp; done) | (simp; omega))).trans (by simp [go_sem])
  have b1 : w1.cell? ⟨w.heap.size + 1, 1, none⟩ = some (.int .i64 (bb).2.1) := (hc1 _ _ (by first | (simp; done) | (simp; omega))).trans (by simp [go_sem])
  have b2 : w1.cell? ⟨w.heap.size + 1, 2, none⟩ = some (.bool (bb).2.2.1) := (hc1 _ _ (by first | (simp; done) | (simp; omega))).trans (by simp [go_sem])
  have b3 : w1.cell? ⟨w.heap.size + 1, 3, none⟩ = some (.int .i64 (bb).2.2.2) := (hc1 _ _ (by first | (simp; done) | (simp; omega))).trans (by simp [go_sem])
  have hB1 : Below w.heap.size w w1 := by repeat (first | (with_reducible exact Below.refl _ _) | (with_reducible assumption) | (with_reducible refine bdrew ?_) | (with_reducible refine baa ?_ _) | (with_reducible refine bs ?_ (by first | exact Nat.le_refl _ | omega | (simp; done) | (simp; omega)) _) | (with_reducible refine bt ?_ (by with_reducible assumption)))
  have l1 : w.heap.size + 1 < w1.heap.size := by omega
  clear hb1 hc1 hf1
  go_wp2_with fail
  refine (HD.out _).mono ?_
  rintro e w2 ⟨rfl, hb2⟩
  have hB2 : Below w.heap.size w w2 := bt hB1 hb2
  clear hb2
  go_wp2_with fail
  refine bodyPost_ret (v := .tuple #[.int .i64 0, .int .i64 er]) (by simp [results, Tryd.results19, go_sem, *]) rfl ⟨rfl, ?_⟩
  repeat (first | (with_reducible exact Below.refl _ _) | (with_reducible assumption) | (with_reducible refine bdrew ?_) | (with_reducible refine baa ?_ _) | (with_reducible refine bs ?_ (by first | exact Nat.le_refl _ | omega | (simp; done) | (simp; omega)) _) | (with_reducible refine bt ?_ (by with_reducible assumption)))
set_option maxHeartbeats 4000000 in
theorem ref27_Between_low (aa bb : Dt) (n la lb er : Int) (w : World) (HC : Hid (∀ w : World, Calls Tryd.prog 32 #[.agg #[.int .i64 (aa).1, .int .i64 (aa).2.1, .bool (aa).2.2.1, .int .i64 (aa).2.2.2]] w fun e w' => e = .returned (.int .i64 0) ∧ Below w.heap.size w w')) (HD : Hid (∀ w : World, Calls Tryd.prog 32 #[.agg #[.int .i64 (bb).1, .int .i64 (bb).2.1, .bool (bb).2.2.1, .int .i64 (bb).2.2.2]] w fun e w' => e = .returned (.int .i64 0) ∧ Below w.heap.size w w')) (h : n < 0) :
    Calls Tryd.prog 19 #[.agg #[.int .i64 (aa).1, .int .i64 (aa).2.1, .bool (aa).2.2.1, .int .i64 (aa).2.2.2], .agg #[.int .i64 (bb).1, .int .i64 (bb).2.1, .bool (bb).2.2.1, .int .i64 (bb).2.2.2], .int .i64 n] w fun e w' => e = .returned (.tuple #[.int .i64 0, .int .i64 1]) ∧ Below w.heap.size w w' := by
  have h1 : decide (n < 0) = true := by simpa using h
  go_enter Tryd.func19, Tryd.ntmps19
  go_wp2_with fail
  refine (HC.out _).mono ?_
  rintro e w1 ⟨rfl, hb1⟩
  obtain ⟨hc1, hf1⟩ := bcell hb1
  have hz1 := hb1.size
  simp at hz1
  have b0 : w1.cell? ⟨w.heap.size + 1, 0, none⟩ = some (.int .i64 (bb).1) := (hc1 _ _ (by first | (simp; done) | (simp; omega))).trans (by simp [go_sem])
  have b1 : w1.cell? ⟨w.heap.size + 1, 1, none⟩ = some (.int .i64 (bb).2.1) := (hc1 _ _ (by first | (simp; done) | (simp; omega))).trans (by simp [go_sem])
  have b2 : w1.cell? ⟨w.heap.size + 1, 2, none⟩ = some (.bool (bb).2.2.1) := (hc1 _ _ (by first | (simp; done) | (simp; omega))).trans (by simp [go_sem])
  have b3 : w1.cell? ⟨w.heap.size + 1, 3, none⟩ = some (.int .i64 (bb).2.2.2) := (hc1 _ _ (by first | (simp; done) | (simp; omega))).trans (by simp [go_sem])
  have hB1 : Below w.heap.size w w1 := by repeat (first | (with_reducible exact Below.refl _ _) | (with_reducible assumption) | (with_reducible refine bdrew ?_) | (with_reducible refine baa ?_ _) | (with_reducible refine bs ?_ (by first | exact Nat.le_refl _ | omega | (simp; done) | (simp; omega)) _) | (with_reducible refine bt ?_ (by with_reducible assumption)))
  have l1 : w.heap.size + 1 < w1.heap.size := by omega
  clear hb1 hc1 hf1
  go_wp2_with fail
  refine (HD.out _).mono ?_
  rintro e w2 ⟨rfl, hb2⟩
  have hB2 : Below w.heap.size w w2 := bt hB1 hb2
  clear hb2
  go_wp2_with fail
  refine bodyPost_ret (v := .tuple #[.int .i64 0, .int .i64 1]) (by simp [results, Tryd.results19, go_sem, *]) rfl ⟨rfl, ?_⟩
  repeat (first | (with_reducible exact Below.refl _ _) | (with_reducible assumption) | (with_reducible refine bdrew ?_) | (with_reducible refine baa ?_ _) | (with_reducible refine bs ?_ (by first | exact Nat.le_refl _ | omega | (simp; done) | (simp; omega)) _) | (with_reducible refine bt ?_ (by with_reducible assumption)))
set_option maxHeartbeats 4000000 in
theorem ref27_Between_high (aa bb : Dt) (n la lb er : Int) (w : World) (HC : Hid (∀ w : World, Calls Tryd.prog 32 #[.agg #[.int .i64 (aa).1, .int .i64 (aa).2.1, .bool (aa).2.2.1, .int .i64 (aa).2.2.2]] w fun e w' => e = .returned (.int .i64 0) ∧ Below w.heap.size w w')) (HD : Hid (∀ w : World, Calls Tryd.prog 32 #[.agg #[.int .i64 (bb).1, .int .i64 (bb).2.1, .bool (bb).2.2.1, .int .i64 (bb).2.2.2]] w fun e w' => e = .returned (.int .i64 0) ∧ Below w.heap.size w w')) (h : 3000 < n) :
    Calls Tryd.prog 19 #[.agg #[.int .i64 (aa).1, .int .i64 (aa).2.1, .bool (aa).2.2.1, .int .i64 (aa).2.2.2], .agg #[.int .i64 (bb).1, .int .i64 (bb).2.1, .bool (bb).2.2.1, .int .i64 (bb).2.2.2], .int .i64 n] w fun e w' => e = .returned (.tuple #[.int .i64 0, .int .i64 1]) ∧ Below w.heap.size w w' := by
  have h0 : ¬ n < 0 := by omega
  have h1 : decide (n < 0) = false := by simpa using h0
  have h2 : decide (3000 < n) = true := by simpa using h
  go_enter Tryd.func19, Tryd.ntmps19
  go_wp2_with fail
  refine (HC.out _).mono ?_
  rintro e w1 ⟨rfl, hb1⟩
  obtain ⟨hc1, hf1⟩ := bcell hb1
  have hz1 := hb1.size
  simp at hz1
  have b0 : w1.cell? ⟨w.heap.size + 1, 0, none⟩ = some (.int .i64 (bb).1) := (hc1 _ _ (by first | (simp; done) | (simp; omega))).trans (by simp [go_sem])
  have b1 : w1.cell? ⟨w.heap.size + 1, 1, none⟩ = some (.int .i64 (bb).2.1) := (hc1 _ _ (by first | (simp; done) | (simp; omega))).trans (by simp [go_sem])
  have b2 : w1.cell? ⟨w.heap.size + 1, 2, none⟩ = some (.bool (bb).2.2.1) := (hc1 _ _ (by first | (simp; done) | (simp; omega))).trans (by simp [go_sem])
  have b3 : w1.cell? ⟨w.heap.size + 1, 3, none⟩ = some (.int .i64 (bb).2.2.2) := (hc1 _ _ (by first | (simp; done) | (simp; omega))).trans (by simp [go_sem])
  have hB1 : Below w.heap.size w w1 := by repeat (first | (with_reducible exact Below.refl _ _) | (with_reducible assumption) | (with_reducible refine bdrew ?_) | (with_reducible refine baa ?_ _) | (with_reducible refine bs ?_ (by first | exact Nat.le_refl _ | omega | (simp; done) | (simp; omega)) _) | (with_reducible refine bt ?_ (by with_reducible assumption)))
  have l1 : w.heap.size + 1 < w1.heap.size := by omega
  clear hb1 hc1 hf1
  go_wp2_with fail
  refine (HD.out _).mono ?_
  rintro e w2 ⟨rfl, hb2⟩
  have hB2 : Below w.heap.size w w2 := bt hB1 hb2
  clear hb2
  go_wp2_with fail
  refine bodyPost_ret (v := .tuple #[.int .i64 0, .int .i64 1]) (by simp [results, Tryd.results19, go_sem, *]) rfl ⟨rfl, ?_⟩
  repeat (first | (with_reducible exact Below.refl _ _) | (with_reducible assumption) | (with_reducible refine bdrew ?_) | (with_reducible refine baa ?_ _) | (with_reducible refine bs ?_ (by first | exact Nat.le_refl _ | omega | (simp; done) | (simp; omega)) _) | (with_reducible refine bt ?_ (by with_reducible assumption)))
end Go.Proofs.YtbmcpeccofadhaaDoor
