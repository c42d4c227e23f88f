/- Merged: UntE, UntF, M17, W17. -/
import Derived.Test.YtafenpgafmdenaaGreatDoorGB
import Derived.RegionTactic
import Derived.IntWalk
import Derived.Test.YtafenpgafmdenaaGreatDoorRef16
/- Layer 17: the duration from one date to another one. -/
namespace Go.Proofs.YtafenpgafmdenaaGreatDoor
open Go.ChangeShapes Go.WideShapes Go.ChangeAt Go.RowKit
set_option linter.unusedVariables false
set_option maxRecDepth 100000
/-- A duration at block r. -/
def SpaAt (w : World) (r : Nat) (a b c q : Int) : Prop := w.cell? ⟨r, 0, none⟩ = some (.int .i64 a) ∧ w.cell? ⟨r, 1, none⟩ = some (.int .i64 b) ∧ w.cell? ⟨r, 2, none⟩ = some (.int .i64 c) ∧ w.cell? ⟨r, 3, none⟩ = some (.int .i64 q) ∧ (∀ i, w.frozen? ⟨r, i, none⟩ = false) ∧ r < w.heap.size
theorem spa_below {w w' : World} {g : Nat} {a b c q : Int} (h : SpaAt w g a b c q) (hb : Below w.heap.size w w') : SpaAt w' g a b c q := by
  obtain ⟨h0, h1, h2, h3, hf, hs⟩ := h
  have c := fun i => hb.cell (p := ⟨g, i, none⟩) hs
  exact ⟨(c 0).trans h0, (c 1).trans h1, (c 2).trans h2, (c 3).trans h3, fun i => (hb.frozen (p := ⟨g, i, none⟩) hs).trans (hf i), Nat.lt_of_lt_of_le hs hb.size⟩
theorem spa_but {w w' : World} {g g' : Nat} {a b c q : Int} (h : SpaAt w g a b c q) (hb : But g' w w') (hg : g ≠ g') : SpaAt w' g a b c q := by
  obtain ⟨h0, h1, h2, h3, hf, hs⟩ := h
  have c := fun i => hb.cell (k := g) (o := i) hs hg
  exact ⟨(c 0).trans h0, (c 1).trans h1, (c 2).trans h2, (c 3).trans h3, fun i => (hb.frozen (k := g) (o := i) hs hg).trans (hf i), Nat.lt_of_lt_of_le hs hb.size⟩
set_option maxHeartbeats 4000000 in
theorem until_Date_err3 (y n : Int) (l : Bool) (d z k : Int) (h : Bool) (f : Int) (sv ev : Int) (w : World) (hT : Tab w 8 kevCells) (hL : Tab w 6 lenCells) (HS : Hid (∀ w : World, Tab w 8 kevCells → Tab w 6 lenCells → Calls Tryz.prog 76 #[.agg #[.int .i64 (y), .int .i64 (n), .bool (l), .int .i64 (d)], .agg #[.int .i64 (z), .int .i64 (k), .bool (h), .int .i64 (f)], .int .i64 3] w fun e w' => e = .returned (.agg #[.int .i64 y, .int .i64 n, .bool l, .int .i64 d, .int .i64 z, .int .i64 k, .bool h, .int .i64 f, .int .i64 (sv), .int .i64 (0), .int .i64 (0), .int .i64 (0), .int .i64 (0), .int .i64 (ev)]) ∧ Below w.heap.size w w')) (hne : ¬ ev = 0) :
    Calls Tryz.prog 34 #[.agg #[.int .i64 (y), .int .i64 (n), .bool (l), .int .i64 (d)], .agg #[.int .i64 (z), .int .i64 (k), .bool (h), .int .i64 (f)], .int .i64 3] w fun e w' => e = .returned (.tuple #[.agg #[.int .i64 (0), .int .i64 (0), .int .i64 (0), .int .i64 (0)], .int .i64 (ev)]) ∧ Below w.heap.size w w' := by
  have hne2 : (ev != 0) = true := by simpa using hne
  have hw1 := hT.lt
  have hw2 := hL.lt
  go_enter Tryz.func34, Tryz.ntmps34
  go_wp2_with fail
  refine settleC (fun W => SpaAt W (w.heap.size + 1 + 1) 0 0 0 0 ∧ Below w.heap.size w W) ⟨⟨by simp [go_sem], by simp [go_sem], by simp [go_sem], by simp [go_sem], fun i => by simp [go_sem], by simp⟩, by repeat (first | (with_reducible exact Below.refl _ _) | (with_reducible assumption) | (with_reducible refine bdrew ?_) | (with_reducible refine baa ?_ _) | (with_reducible refine bs ?_ (by first | exact Nat.le_refl _ | omega | (simp; done) | (simp; omega)) _) | (with_reducible refine bt ?_ (by with_reducible assumption)))⟩ ?_
  rintro W0 ⟨hR0, hB0⟩
  refine (HS.out _ (Tab.below hT hB0) (Tab.below hL hB0)).mono ?_
  rintro e w1 ⟨rfl, hb1⟩
  have hR1 := spa_below hR0 hb1
  have hB1 := bt hB0 hb1
  go_wp2_with fail
  refine settleC (fun W => WayAt W w1.heap.size y n l d z k h f (sv) 0 0 0 0 (ev) ∧ SpaAt W (w.heap.size + 1 + 1) 0 0 0 0 ∧ Below w.heap.size w W) ⟨?_, spa_below hR1 (by repeat (first | (with_reducible exact Below.refl _ _) | (with_reducible assumption) | (with_reducible refine bdrew ?_) | (with_reducible refine baa ?_ _) | (with_reducible refine bs ?_ (by first | exact Nat.le_refl _ | omega | (simp; done) | (simp; omega)) _) | (with_reducible refine bt ?_ (by with_reducible assumption)))), bt hB1 (by repeat (first | (with_reducible exact Below.refl _ _) | (with_reducible assumption) | (with_reducible refine bdrew ?_) | (with_reducible refine baa ?_ _) | (with_reducible refine bs ?_ (by first | exact Nat.le_refl _ | omega | (simp; done) | (simp; omega)) _) | (with_reducible refine bt ?_ (by with_reducible assumption))))⟩ ?_
  · first | exact way_alloc w1 y n l d z k h f (sv) 0 0 0 0 (ev) 90 | exact way_set13 (way_set12 (way_set11 (way_set10 (way_set9 (way_set8 (way_set7 (way_set6 (way_set5 (way_set4 (way_set3 (way_set2 (way_set1 (way_set0 (way_alloc w1 0 0 false 0 0 0 false 0 0 0 0 0 0 0 90) _) _) _) _) _) _) _) _) _) _) _) _) _) _
  rintro W2 ⟨hP2, hR2, hB2⟩
  have hg : w.heap.size + 1 + 1 < w1.heap.size := hR1.2.2.2.2.2
  have hT2 := Tab.below hT hB2
  have hL2 := Tab.below hL hB2
  clear hR0 hB0 hR1 hB1 hb1
  refine (way_years_err y n l d z k h f sv 0 0 0 0 ev hne w1.heap.size _ hP2).mono ?_
  rintro e W3 ⟨rfl, hP3, hU3⟩
  have hR3 := spa_but hR2 hU3 (by omega)
  have hB3 := hU3.below hB2 (by omega)
  have hT3 := But.tab hT2 hU3 (by omega)
  have hL3 := But.tab hL2 hU3 (by omega)
  go_wp2_with fail
  refine (way_months_err y n l d z k h f sv 0 0 0 0 ev hne w1.heap.size _ hP3).mono ?_
  rintro e W4 ⟨rfl, hP4, hU4⟩
  have hR4 := spa_but hR3 hU4 (by omega)
  have hB4 := hU4.below hB3 (by omega)
  have hT4 := But.tab hT3 hU4 (by omega)
  have hL4 := But.tab hL3 hU4 (by omega)
  go_wp2_with fail
  refine (way_days_err y n l d z k h f sv 0 0 0 0 ev hne w1.heap.size _ hP4).mono ?_
  rintro e W5 ⟨rfl, hP5, hU5⟩
  have hR5 := spa_but hR4 hU5 (by omega)
  have hB5 := hU5.below hB4 (by omega)
  have hT5 := But.tab hT4 hU5 (by omega)
  have hL5 := But.tab hL4 hU5 (by omega)
  have hq := hP5
  obtain ⟨x0, x1, x2, x3, x4, x5, x6, x7, x8, x9, x10, x11, x12, x13, xf, xs⟩ := hq
  have hq := hR5
  obtain ⟨r0, r1, r2, r3, rf, rs⟩ := hq
  go_wp2_with fail
  go_region
  all_goals go_wp2_with fail
  all_goals refine bodyPost_ret (v := .tuple #[.agg #[.int .i64 (0), .int .i64 (0), .int .i64 (0), .int .i64 (0)], .int .i64 (ev)]) (by simp [results, Tryz.results34, go_sem, *]) rfl ⟨rfl, ?_⟩
  all_goals repeat (first | (with_reducible assumption) | (with_reducible refine bdrew ?_) | (with_reducible refine bs ?_ (show w.heap.size ≤ w.heap.size + 1 + 1 by omega) _))
set_option maxHeartbeats 4000000 in
theorem until_Date_err2 (y n : Int) (l : Bool) (d z k : Int) (h : Bool) (f : Int) (sv ev : Int) (w : World) (hT : Tab w 8 kevCells) (hL : Tab w 6 lenCells) (HS : Hid (∀ w : World, Tab w 8 kevCells → Tab w 6 lenCells → Calls Tryz.prog 76 #[.agg #[.int .i64 (y), .int .i64 (n), .bool (l), .int .i64 (d)], .agg #[.int .i64 (z), .int .i64 (k), .bool (h), .int .i64 (f)], .int .i64 2] w fun e w' => e = .returned (.agg #[.int .i64 y, .int .i64 n, .bool l, .int .i64 d, .int .i64 z, .int .i64 k, .bool h, .int .i64 f, .int .i64 (sv), .int .i64 (0), .int .i64 (0), .int .i64 (0), .int .i64 (0), .int .i64 (ev)]) ∧ Below w.heap.size w w')) (hne : ¬ ev = 0) :
    Calls Tryz.prog 34 #[.agg #[.int .i64 (y), .int .i64 (n), .bool (l), .int .i64 (d)], .agg #[.int .i64 (z), .int .i64 (k), .bool (h), .int .i64 (f)], .int .i64 2] w fun e w' => e = .returned (.tuple #[.agg #[.int .i64 (0), .int .i64 (0), .int .i64 (0), .int .i64 (0)], .int .i64 (ev)]) ∧ Below w.heap.size w w' := by
  have hne2 : (ev != 0) = true := by simpa using hne
  have hw1 := hT.lt
  have hw2 := hL.lt
  go_enter Tryz.func34, Tryz.ntmps34
  go_wp2_with fail
  refine settleC (fun W => SpaAt W (w.heap.size + 1 + 1) 0 0 0 0 ∧ Below w.heap.size w W) ⟨⟨by simp [go_sem], by simp [go_sem], by simp [go_sem], by simp [go_sem], fun i => by simp [go_sem], by simp⟩, by repeat (first | (with_reducible exact Below.refl _ _) | (with_reducible assumption) | (with_reducible refine bdrew ?_) | (with_reducible refine baa ?_ _) | (with_reducible refine bs ?_ (by first | exact Nat.le_refl _ | omega | (simp; done) | (simp; omega)) _) | (with_reducible refine bt ?_ (by with_reducible assumption)))⟩ ?_
  rintro W0 ⟨hR0, hB0⟩
  refine (HS.out _ (Tab.below hT hB0) (Tab.below hL hB0)).mono ?_
  rintro e w1 ⟨rfl, hb1⟩
  have hR1 := spa_below hR0 hb1
  have hB1 := bt hB0 hb1
  go_wp2_with fail
  refine settleC (fun W => WayAt W w1.heap.size y n l d z k h f (sv) 0 0 0 0 (ev) ∧ SpaAt W (w.heap.size + 1 + 1) 0 0 0 0 ∧ Below w.heap.size w W) ⟨?_, spa_below hR1 (by repeat (first | (with_reducible exact Below.refl _ _) | (with_reducible assumption) | (with_reducible refine bdrew ?_) | (with_reducible refine baa ?_ _) | (with_reducible refine bs ?_ (by first | exact Nat.le_refl _ | omega | (simp; done) | (simp; omega)) _) | (with_reducible refine bt ?_ (by with_reducible assumption)))), bt hB1 (by repeat (first | (with_reducible exact Below.refl _ _) | (with_reducible assumption) | (with_reducible refine bdrew ?_) | (with_reducible refine baa ?_ _) | (with_reducible refine bs ?_ (by first | exact Nat.le_refl _ | omega | (simp; done) | (simp; omega)) _) | (with_reducible refine bt ?_ (by with_reducible assumption))))⟩ ?_
  · first | exact way_alloc w1 y n l d z k h f (sv) 0 0 0 0 (ev) 90 | exact way_set13 (way_set12 (way_set11 (way_set10 (way_set9 (way_set8 (way_set7 (way_set6 (way_set5 (way_set4 (way_set3 (way_set2 (way_set1 (way_set0 (way_alloc w1 0 0 false 0 0 0 false 0 0 0 0 0 0 0 90) _) _) _) _) _) _) _) _) _) _) _) _) _) _
  rintro W2 ⟨hP2, hR2, hB2⟩
  have hg : w.heap.size + 1 + 1 < w1.heap.size := hR1.2.2.2.2.2
  have hT2 := Tab.below hT hB2
  have hL2 := Tab.below hL hB2
  clear hR0 hB0 hR1 hB1 hb1
  refine (way_months_err y n l d z k h f sv 0 0 0 0 ev hne w1.heap.size _ hP2).mono ?_
  rintro e W3 ⟨rfl, hP3, hU3⟩
  have hR3 := spa_but hR2 hU3 (by omega)
  have hB3 := hU3.below hB2 (by omega)
  have hT3 := But.tab hT2 hU3 (by omega)
  have hL3 := But.tab hL2 hU3 (by omega)
  go_wp2_with fail
  refine (way_days_err y n l d z k h f sv 0 0 0 0 ev hne w1.heap.size _ hP3).mono ?_
  rintro e W4 ⟨rfl, hP4, hU4⟩
  have hR4 := spa_but hR3 hU4 (by omega)
  have hB4 := hU4.below hB3 (by omega)
  have hT4 := But.tab hT3 hU4 (by omega)
  have hL4 := But.tab hL3 hU4 (by omega)
  have hq := hP4
  obtain ⟨x0, x1, x2, x3, x4, x5, x6, x7, x8, x9, x10, x11, x12, x13, xf, xs⟩ := hq
  have hq := hR4
  obtain ⟨r0, r1, r2, r3, rf, rs⟩ := hq
  go_wp2_with fail
  go_region
  all_goals go_wp2_with fail
  all_goals refine bodyPost_ret (v := .tuple #[.agg #[.int .i64 (0), .int .i64 (0), .int .i64 (0), .int .i64 (0)], .int .i64 (ev)]) (by simp [results, Tryz.results34, go_sem, *]) rfl ⟨rfl, ?_⟩
  all_goals repeat (first | (with_reducible assumption) | (with_reducible refine bdrew ?_) | (with_reducible refine bs ?_ (show w.heap.size ≤ w.heap.size + 1 + 1 by omega) _))
set_option maxHeartbeats 4000000 in
theorem until_Date_err1 (y n : Int) (l : Bool) (d z k : Int) (h : Bool) (f : Int) (sv ev : Int) (w : World) (hT : Tab w 8 kevCells) (hL : Tab w 6 lenCells) (HS : Hid (∀ w : World, Tab w 8 kevCells → Tab w 6 lenCells → Calls Tryz.prog 76 #[.agg #[.int .i64 (y), .int .i64 (n), .bool (l), .int .i64 (d)], .agg #[.int .i64 (z), .int .i64 (k), .bool (h), .int .i64 (f)], .int .i64 1] w fun e w' => e = .returned (.agg #[.int .i64 y, .int .i64 n, .bool l, .int .i64 d, .int .i64 z, .int .i64 k, .bool h, .int .i64 f, .int .i64 (sv), .int .i64 (0), .int .i64 (0), .int .i64 (0), .int .i64 (0), .int .i64 (ev)]) ∧ Below w.heap.size w w')) (hne : ¬ ev = 0) :
    Calls Tryz.prog 34 #[.agg #[.int .i64 (y), .int .i64 (n), .bool (l), .int .i64 (d)], .agg #[.int .i64 (z), .int .i64 (k), .bool (h), .int .i64 (f)], .int .i64 1] w fun e w' => e = .returned (.tuple #[.agg #[.int .i64 (0), .int .i64 (0), .int .i64 (0), .int .i64 (0)], .int .i64 (ev)]) ∧ Below w.heap.size w w' := by
  have hne2 : (ev != 0) = true := by simpa using hne
  have hw1 := hT.lt
  have hw2 := hL.lt
  go_enter Tryz.func34, Tryz.ntmps34
  go_wp2_with fail
  refine settleC (fun W => SpaAt W (w.heap.size + 1 + 1) 0 0 0 0 ∧ Below w.heap.size w W) ⟨⟨by simp [go_sem], by simp [go_sem], by simp [go_sem], by simp [go_sem], fun i => by simp [go_sem], by simp⟩, by repeat (first | (with_reducible exact Below.refl _ _) | (with_reducible assumption) | (with_reducible refine bdrew ?_) | (with_reducible refine baa ?_ _) | (with_reducible refine bs ?_ (by first | exact Nat.le_refl _ | omega | (simp; done) | (simp; omega)) _) | (with_reducible refine bt ?_ (by with_reducible assumption)))⟩ ?_
  rintro W0 ⟨hR0, hB0⟩
  refine (HS.out _ (Tab.below hT hB0) (Tab.below hL hB0)).mono ?_
  rintro e w1 ⟨rfl, hb1⟩
  have hR1 := spa_below hR0 hb1
  have hB1 := bt hB0 hb1
  go_wp2_with fail
  refine settleC (fun W => WayAt W w1.heap.size y n l d z k h f (sv) 0 0 0 0 (ev) ∧ SpaAt W (w.heap.size + 1 + 1) 0 0 0 0 ∧ Below w.heap.size w W) ⟨?_, spa_below hR1 (by repeat (first | (with_reducible exact Below.refl _ _) | (with_reducible assumption) | (with_reducible refine bdrew ?_) | (with_reducible refine baa ?_ _) | (with_reducible refine bs ?_ (by first | exact Nat.le_refl _ | omega | (simp; done) | (simp; omega)) _) | (with_reducible refine bt ?_ (by with_reducible assumption)))), bt hB1 (by repeat (first | (with_reducible exact Below.refl _ _) | (with_reducible assumption) | (with_reducible refine bdrew ?_) | (with_reducible refine baa ?_ _) | (with_reducible refine bs ?_ (by first | exact Nat.le_refl _ | omega | (simp; done) | (simp; omega)) _) | (with_reducible refine bt ?_ (by with_reducible assumption))))⟩ ?_
  · first | exact way_alloc w1 y n l d z k h f (sv) 0 0 0 0 (ev) 90 | exact way_set13 (way_set12 (way_set11 (way_set10 (way_set9 (way_set8 (way_set7 (way_set6 (way_set5 (way_set4 (way_set3 (way_set2 (way_set1 (way_set0 (way_alloc w1 0 0 false 0 0 0 false 0 0 0 0 0 0 0 90) _) _) _) _) _) _) _) _) _) _) _) _) _) _
  rintro W2 ⟨hP2, hR2, hB2⟩
  have hg : w.heap.size + 1 + 1 < w1.heap.size := hR1.2.2.2.2.2
  have hT2 := Tab.below hT hB2
  have hL2 := Tab.below hL hB2
  clear hR0 hB0 hR1 hB1 hb1
  refine (way_days_err y n l d z k h f sv 0 0 0 0 ev hne w1.heap.size _ hP2).mono ?_
  rintro e W3 ⟨rfl, hP3, hU3⟩
  have hR3 := spa_but hR2 hU3 (by omega)
  have hB3 := hU3.below hB2 (by omega)
  have hT3 := But.tab hT2 hU3 (by omega)
  have hL3 := But.tab hL2 hU3 (by omega)
  go_wp2_with fail
  refine (way_weeks_err y n l d z k h f sv 0 0 0 0 ev hne w1.heap.size _ hP3).mono ?_
  rintro e W4 ⟨rfl, hP4, hU4⟩
  have hR4 := spa_but hR3 hU4 (by omega)
  have hB4 := hU4.below hB3 (by omega)
  have hT4 := But.tab hT3 hU4 (by omega)
  have hL4 := But.tab hL3 hU4 (by omega)
  have hq := hP4
  obtain ⟨x0, x1, x2, x3, x4, x5, x6, x7, x8, x9, x10, x11, x12, x13, xf, xs⟩ := hq
  have hq := hR4
  obtain ⟨r0, r1, r2, r3, rf, rs⟩ := hq
  go_wp2_with fail
  go_region
  all_goals go_wp2_with fail
  all_goals refine bodyPost_ret (v := .tuple #[.agg #[.int .i64 (0), .int .i64 (0), .int .i64 (0), .int .i64 (0)], .int .i64 (ev)]) (by simp [results, Tryz.results34, go_sem, *]) rfl ⟨rfl, ?_⟩
  all_goals repeat (first | (with_reducible assumption) | (with_reducible refine bdrew ?_) | (with_reducible refine bs ?_ (show w.heap.size ≤ w.heap.size + 1 + 1 by omega) _))
set_option maxHeartbeats 4000000 in
theorem until_Date_err0 (y n : Int) (l : Bool) (d z k : Int) (h : Bool) (f : Int) (sv ev : Int) (w : World) (hT : Tab w 8 kevCells) (hL : Tab w 6 lenCells) (HS : Hid (∀ w : World, Tab w 8 kevCells → Tab w 6 lenCells → Calls Tryz.prog 76 #[.agg #[.int .i64 (y), .int .i64 (n), .bool (l), .int .i64 (d)], .agg #[.int .i64 (z), .int .i64 (k), .bool (h), .int .i64 (f)], .int .i64 0] w fun e w' => e = .returned (.agg #[.int .i64 y, .int .i64 n, .bool l, .int .i64 d, .int .i64 z, .int .i64 k, .bool h, .int .i64 f, .int .i64 (sv), .int .i64 (0), .int .i64 (0), .int .i64 (0), .int .i64 (0), .int .i64 (ev)]) ∧ Below w.heap.size w w')) (hne : ¬ ev = 0) :
    Calls Tryz.prog 34 #[.agg #[.int .i64 (y), .int .i64 (n), .bool (l), .int .i64 (d)], .agg #[.int .i64 (z), .int .i64 (k), .bool (h), .int .i64 (f)], .int .i64 0] w fun e w' => e = .returned (.tuple #[.agg #[.int .i64 (0), .int .i64 (0), .int .i64 (0), .int .i64 (0)], .int .i64 (ev)]) ∧ Below w.heap.size w w' := by
  have hne2 : (ev != 0) = true := by simpa using hne
  have hw1 := hT.lt
  have hw2 := hL.lt
  go_enter Tryz.func34, Tryz.ntmps34
  go_wp2_with fail
  refine settleC (fun W => SpaAt W (w.heap.size + 1 + 1) 0 0 0 0 ∧ Below w.heap.size w W) ⟨⟨by simp [go_sem], by simp [go_sem], by simp [go_sem], by simp [go_sem], fun i => by simp [go_sem], by simp⟩, by repeat (first | (with_reducible exact Below.refl _ _) | (with_reducible assumption) | (with_reducible refine bdrew ?_) | (with_reducible refine baa ?_ _) | (with_reducible refine bs ?_ (by first | exact Nat.le_refl _ | omega | (simp; done) | (simp; omega)) _) | (with_reducible refine bt ?_ (by with_reducible assumption)))⟩ ?_
  rintro W0 ⟨hR0, hB0⟩
  refine (HS.out _ (Tab.below hT hB0) (Tab.below hL hB0)).mono ?_
  rintro e w1 ⟨rfl, hb1⟩
  have hR1 := spa_below hR0 hb1
  have hB1 := bt hB0 hb1
  go_wp2_with fail
  refine settleC (fun W => WayAt W w1.heap.size y n l d z k h f (sv) 0 0 0 0 (ev) ∧ SpaAt W (w.heap.size + 1 + 1) 0 0 0 0 ∧ Below w.heap.size w W) ⟨?_, spa_below hR1 (by repeat (first | (with_reducible exact Below.refl _ _) | (with_reducible assumption) | (with_reducible refine bdrew ?_) | (with_reducible refine baa ?_ _) | (with_reducible refine bs ?_ (by first | exact Nat.le_refl _ | omega | (simp; done) | (simp; omega)) _) | (with_reducible refine bt ?_ (by with_reducible assumption)))), bt hB1 (by repeat (first | (with_reducible exact Below.refl _ _) | (with_reducible assumption) | (with_reducible refine bdrew ?_) | (with_reducible refine baa ?_ _) | (with_reducible refine bs ?_ (by first | exact Nat.le_refl _ | omega | (simp; done) | (simp; omega)) _) | (with_reducible refine bt ?_ (by with_reducible assumption))))⟩ ?_
  · first | exact way_alloc w1 y n l d z k h f (sv) 0 0 0 0 (ev) 90 | exact way_set13 (way_set12 (way_set11 (way_set10 (way_set9 (way_set8 (way_set7 (way_set6 (way_set5 (way_set4 (way_set3 (way_set2 (way_set1 (way_set0 (way_alloc w1 0 0 false 0 0 0 false 0 0 0 0 0 0 0 90) _) _) _) _) _) _) _) _) _) _) _) _) _) _
  rintro W2 ⟨hP2, hR2, hB2⟩
  have hg : w.heap.size + 1 + 1 < w1.heap.size := hR1.2.2.2.2.2
  have hT2 := Tab.below hT hB2
  have hL2 := Tab.below hL hB2
  clear hR0 hB0 hR1 hB1 hb1
  refine (way_days_err y n l d z k h f sv 0 0 0 0 ev hne w1.heap.size _ hP2).mono ?_
  rintro e W3 ⟨rfl, hP3, hU3⟩
  have hR3 := spa_but hR2 hU3 (by omega)
  have hB3 := hU3.below hB2 (by omega)
  have hT3 := But.tab hT2 hU3 (by omega)
  have hL3 := But.tab hL2 hU3 (by omega)
  have hq := hP3
  obtain ⟨x0, x1, x2, x3, x4, x5, x6, x7, x8, x9, x10, x11, x12, x13, xf, xs⟩ := hq
  have hq := hR3
  obtain ⟨r0, r1, r2, r3, rf, rs⟩ := hq
  go_wp2_with fail
  go_region
  all_goals go_wp2_with fail
  all_goals refine bodyPost_ret (v := .tuple #[.agg #[.int .i64 (0), .int .i64 (0), .int .i64 (0), .int .i64 (0)], .int .i64 (ev)]) (by simp [results, Tryz.results34, go_sem, *]) rfl ⟨rfl, ?_⟩
  all_goals repeat (first | (with_reducible assumption) | (with_reducible refine bdrew ?_) | (with_reducible refine bs ?_ (show w.heap.size ≤ w.heap.size + 1 + 1 by omega) _))
set_option maxHeartbeats 4000000 in
theorem until_Date_errb (y n : Int) (l : Bool) (d z k : Int) (h : Bool) (f : Int) (sv ev : Int) (unit : Int) (w : World) (hT : Tab w 8 kevCells) (hL : Tab w 6 lenCells) (HS : Hid (∀ w : World, Tab w 8 kevCells → Tab w 6 lenCells → Calls Tryz.prog 76 #[.agg #[.int .i64 (y), .int .i64 (n), .bool (l), .int .i64 (d)], .agg #[.int .i64 (z), .int .i64 (k), .bool (h), .int .i64 (f)], .int .i64 unit] w fun e w' => e = .returned (.agg #[.int .i64 y, .int .i64 n, .bool l, .int .i64 d, .int .i64 z, .int .i64 k, .bool h, .int .i64 f, .int .i64 (sv), .int .i64 (0), .int .i64 (0), .int .i64 (0), .int .i64 (0), .int .i64 (ev)]) ∧ Below w.heap.size w w')) (hne : ¬ ev = 0) (u3 : (unit == 3) = false) (u2 : (unit == 2) = false) (u1 : (unit == 1) = false) :
    Calls Tryz.prog 34 #[.agg #[.int .i64 (y), .int .i64 (n), .bool (l), .int .i64 (d)], .agg #[.int .i64 (z), .int .i64 (k), .bool (h), .int .i64 (f)], .int .i64 unit] w fun e w' => e = .returned (.tuple #[.agg #[.int .i64 (0), .int .i64 (0), .int .i64 (0), .int .i64 (0)], .int .i64 (ev)]) ∧ Below w.heap.size w w' := by
  have hne2 : (ev != 0) = true := by simpa using hne
  have hw1 := hT.lt
  have hw2 := hL.lt
  go_enter Tryz.func34, Tryz.ntmps34
  go_wp2_with fail
  refine settleC (fun W => SpaAt W (w.heap.size + 1 + 1) 0 0 0 0 ∧ Below w.heap.size w W) ⟨⟨by simp [go_sem], by simp [go_sem], by simp [go_sem], by simp [go_sem], fun i => by simp [go_sem], by simp⟩, by repeat (first | (with_reducible exact Below.refl _ _) | (with_reducible assumption) | (with_reducible refine bdrew ?_) | (with_reducible refine baa ?_ _) | (with_reducible refine bs ?_ (by first | exact Nat.le_refl _ | omega | (simp; done) | (simp; omega)) _) | (with_reducible refine bt ?_ (by with_reducible assumption)))⟩ ?_
  rintro W0 ⟨hR0, hB0⟩
  refine (HS.out _ (Tab.below hT hB0) (Tab.below hL hB0)).mono ?_
  rintro e w1 ⟨rfl, hb1⟩
  have hR1 := spa_below hR0 hb1
  have hB1 := bt hB0 hb1
  go_wp2_with fail
  refine settleC (fun W => WayAt W w1.heap.size y n l d z k h f (sv) 0 0 0 0 (ev) ∧ SpaAt W (w.heap.size + 1 + 1) 0 0 0 0 ∧ Below w.heap.size w W) ⟨?_, spa_below hR1 (by repeat (first | (with_reducible exact Below.refl _ _) | (with_reducible assumption) | (with_reducible refine bdrew ?_) | (with_reducible refine baa ?_ _) | (with_reducible refine bs ?_ (by first | exact Nat.le_refl _ | omega | (simp; done) | (simp; omega)) _) | (with_reducible refine bt ?_ (by with_reducible assumption)))), bt hB1 (by repeat (first | (with_reducible exact Below.refl _ _) | (with_reducible assumption) | (with_reducible refine bdrew ?_) | (with_reducible refine baa ?_ _) | (with_reducible refine bs ?_ (by first | exact Nat.le_refl _ | omega | (simp; done) | (simp; omega)) _) | (with_reducible refine bt ?_ (by with_reducible assumption))))⟩ ?_
  · first | exact way_alloc w1 y n l d z k h f (sv) 0 0 0 0 (ev) 90 | exact way_set13 (way_set12 (way_set11 (way_set10 (way_set9 (way_set8 (way_set7 (way_set6 (way_set5 (way_set4 (way_set3 (way_set2 (way_set1 (way_set0 (way_alloc w1 0 0 false 0 0 0 false 0 0 0 0 0 0 0 90) _) _) _) _) _) _) _) _) _) _) _) _) _) _
  rintro W2 ⟨hP2, hR2, hB2⟩
  have hg : w.heap.size + 1 + 1 < w1.heap.size := hR1.2.2.2.2.2
  have hT2 := Tab.below hT hB2
  have hL2 := Tab.below hL hB2
  clear hR0 hB0 hR1 hB1 hb1
  refine (way_days_err y n l d z k h f sv 0 0 0 0 ev hne w1.heap.size _ hP2).mono ?_
  rintro e W3 ⟨rfl, hP3, hU3⟩
  have hR3 := spa_but hR2 hU3 (by omega)
  have hB3 := hU3.below hB2 (by omega)
  have hT3 := But.tab hT2 hU3 (by omega)
  have hL3 := But.tab hL2 hU3 (by omega)
  have hq := hP3
  obtain ⟨x0, x1, x2, x3, x4, x5, x6, x7, x8, x9, x10, x11, x12, x13, xf, xs⟩ := hq
  have hq := hR3
  obtain ⟨r0, r1, r2, r3, rf, rs⟩ := hq
  go_wp2_with fail
  go_region
  all_goals go_wp2_with fail
  all_goals refine bodyPost_ret (v := .tuple #[.agg #[.int .i64 (0), .int .i64 (0), .int .i64 (0), .int .i64 (0)], .int .i64 (ev)]) (by simp [results, Tryz.results34, go_sem, *]) rfl ⟨rfl, ?_⟩
  all_goals repeat (first | (with_reducible assumption) | (with_reducible refine bdrew ?_) | (with_reducible refine bs ?_ (show w.heap.size ≤ w.heap.size + 1 + 1 by omega) _))
set_option maxHeartbeats 4000000 in
theorem until_Date_u0 (y n : Int) (l : Bool) (d z k : Int) (h : Bool) (f : Int) (ry rn : Int) (rl : Bool) (rd D1 D2 s : Int) (w : World) (hT : Tab w 8 kevCells) (hL : Tab w 6 lenCells) (HS : Hid (∀ w : World, Tab w 8 kevCells → Tab w 6 lenCells → Calls Tryz.prog 76 #[.agg #[.int .i64 (y), .int .i64 (n), .bool (l), .int .i64 (d)], .agg #[.int .i64 (z), .int .i64 (k), .bool (h), .int .i64 (f)], .int .i64 0] w fun e w' => e = .returned (.agg #[.int .i64 y, .int .i64 n, .bool l, .int .i64 d, .int .i64 z, .int .i64 k, .bool h, .int .i64 f, .int .i64 (s), .int .i64 (0), .int .i64 (0), .int .i64 (0), .int .i64 (0), .int .i64 (0)]) ∧ Below w.heap.size w w')) (HA : Hid (∀ w : World, Tab w 8 kevCells → Tab w 6 lenCells → Calls Tryz.prog 27 #[.agg #[.int .i64 (y), .int .i64 (n), .bool (l), .int .i64 (d)], .agg #[.int .i64 (0), .int .i64 (0), .int .i64 (0), .int .i64 (0)], .int .i64 0] w fun e w' => e = .returned (.tuple #[.agg #[.int .i64 (ry), .int .i64 (rn), .bool (rl), .int .i64 (rd)], .int .i64 (0)]) ∧ Below w.heap.size w w')) (HX : Hid (∀ w : World, Tab w 8 kevCells → Tab w 6 lenCells → Calls Tryz.prog 114 #[.agg #[.int .i64 (ry), .int .i64 (rn), .bool (rl), .int .i64 (rd)]] w fun e w' => e = .returned (.tuple #[.int .i64 (D1), .int .i64 0]) ∧ Below w.heap.size w w')) (HY : Hid (∀ w : World, Tab w 8 kevCells → Tab w 6 lenCells → Calls Tryz.prog 114 #[.agg #[.int .i64 (z), .int .i64 (k), .bool (h), .int .i64 (f)]] w fun e w' => e = .returned (.tuple #[.int .i64 (D2), .int .i64 0]) ∧ Below w.heap.size w w')) (h1 : -3000000 ≤ D1 ∧ D1 ≤ 3000000) (h2 : -3000000 ≤ D2 ∧ D2 ≤ 3000000) :
    Calls Tryz.prog 34 #[.agg #[.int .i64 (y), .int .i64 (n), .bool (l), .int .i64 (d)], .agg #[.int .i64 (z), .int .i64 (k), .bool (h), .int .i64 (f)], .int .i64 0] w fun e w' => e = .returned (.tuple #[.agg #[.int .i64 (0), .int .i64 (0), .int .i64 (0), .int .i64 (D2 - D1)], .int .i64 (0)]) ∧ Below w.heap.size w w' := by
  obtain ⟨h11, h12⟩ := h1
  obtain ⟨h21, h22⟩ := h2
  have hw1 := hT.lt
  have hw2 := hL.lt
  go_enter Tryz.func34, Tryz.ntmps34
  go_wp2_with fail
  refine settleC (fun W => SpaAt W (w.heap.size + 1 + 1) 0 0 0 0 ∧ Below w.heap.size w W) ⟨⟨by simp [go_sem], by simp [go_sem], by simp [go_sem], by simp [go_sem], fun i => by simp [go_sem], by simp⟩, by repeat (first | (with_reducible exact Below.refl _ _) | (with_reducible assumption) | (with_reducible refine bdrew ?_) | (with_reducible refine baa ?_ _) | (with_reducible refine bs ?_ (by first | exact Nat.le_refl _ | omega | (simp; done) | (simp; omega)) _) | (with_reducible refine bt ?_ (by with_reducible assumption)))⟩ ?_
  rintro W0 ⟨hR0, hB0⟩
  refine (HS.out _ (Tab.below hT hB0) (Tab.below hL hB0)).mono ?_
  rintro e w1 ⟨rfl, hb1⟩
  have hR1 := spa_below hR0 hb1
  have hB1 := bt hB0 hb1
  go_wp2_with fail
  refine settleC (fun W => WayAt W w1.heap.size y n l d z k h f (s) 0 0 0 0 (0) ∧ SpaAt W (w.heap.size + 1 + 1) 0 0 0 0 ∧ Below w.heap.size w W) ⟨?_, spa_below hR1 (by repeat (first | (with_reducible exact Below.refl _ _) | (with_reducible assumption) | (with_reducible refine bdrew ?_) | (with_reducible refine baa ?_ _) | (with_reducible refine bs ?_ (by first | exact Nat.le_refl _ | omega | (simp; done) | (simp; omega)) _) | (with_reducible refine bt ?_ (by with_reducible assumption)))), bt hB1 (by repeat (first | (with_reducible exact Below.refl _ _) | (with_reducible assumption) | (with_reducible refine bdrew ?_) | (with_reducible refine baa ?_ _) | (with_reducible refine bs ?_ (by first | exact Nat.le_refl _ | omega | (simp; done) | (simp; omega)) _) | (with_reducible refine bt ?_ (by with_reducible assumption))))⟩ ?_
  · first | exact way_alloc w1 y n l d z k h f (s) 0 0 0 0 (0) 90 | exact way_set13 (way_set12 (way_set11 (way_set10 (way_set9 (way_set8 (way_set7 (way_set6 (way_set5 (way_set4 (way_set3 (way_set2 (way_set1 (way_set0 (way_alloc w1 0 0 false 0 0 0 false 0 0 0 0 0 0 0 90) _) _) _) _) _) _) _) _) _) _) _) _) _) _
  rintro W2 ⟨hP2, hR2, hB2⟩
  have hg : w.heap.size + 1 + 1 < w1.heap.size := hR1.2.2.2.2.2
  have hT2 := Tab.below hT hB2
  have hL2 := Tab.below hL hB2
  clear hR0 hB0 hR1 hB1 hb1
  refine (way_days_go y n l d z k h f s 0 0 0 0 0 ry rn rl rd D1 D2 w1.heap.size _ hT2 hL2 HA HX HY ⟨by omega, by omega⟩ ⟨by omega, by omega⟩ hP2).mono ?_
  rintro e W3 ⟨rfl, hP3, hU3⟩
  have hR3 := spa_but hR2 hU3 (by omega)
  have hB3 := hU3.below hB2 (by omega)
  have hT3 := But.tab hT2 hU3 (by omega)
  have hL3 := But.tab hL2 hU3 (by omega)
  have hq := hP3
  obtain ⟨x0, x1, x2, x3, x4, x5, x6, x7, x8, x9, x10, x11, x12, x13, xf, xs⟩ := hq
  have hq := hR3
  obtain ⟨r0, r1, r2, r3, rf, rs⟩ := hq
  go_wp2_with fail
  refine bodyPost_ret (v := .tuple #[.agg #[.int .i64 (0), .int .i64 (0), .int .i64 (0), .int .i64 (D2 - D1)], .int .i64 (0)]) (by simp [results, Tryz.results34, go_sem, *]) rfl ⟨rfl, ?_⟩
  iterate 4 refine Below.setCell ?_ (show w.heap.size ≤ w.heap.size + 1 + 1 by omega) _
  exact hB3
set_option maxHeartbeats 4000000 in
theorem until_Date_u1 (y n : Int) (l : Bool) (d z k : Int) (h : Bool) (f : Int) (ry rn : Int) (rl : Bool) (rd D1 D2 s : Int) (w : World) (hT : Tab w 8 kevCells) (hL : Tab w 6 lenCells) (HS : Hid (∀ w : World, Tab w 8 kevCells → Tab w 6 lenCells → Calls Tryz.prog 76 #[.agg #[.int .i64 (y), .int .i64 (n), .bool (l), .int .i64 (d)], .agg #[.int .i64 (z), .int .i64 (k), .bool (h), .int .i64 (f)], .int .i64 1] w fun e w' => e = .returned (.agg #[.int .i64 y, .int .i64 n, .bool l, .int .i64 d, .int .i64 z, .int .i64 k, .bool h, .int .i64 f, .int .i64 (s), .int .i64 (0), .int .i64 (0), .int .i64 (0), .int .i64 (0), .int .i64 (0)]) ∧ Below w.heap.size w w')) (HA : Hid (∀ w : World, Tab w 8 kevCells → Tab w 6 lenCells → Calls Tryz.prog 27 #[.agg #[.int .i64 (y), .int .i64 (n), .bool (l), .int .i64 (d)], .agg #[.int .i64 (0), .int .i64 (0), .int .i64 (0), .int .i64 (0)], .int .i64 0] w fun e w' => e = .returned (.tuple #[.agg #[.int .i64 (ry), .int .i64 (rn), .bool (rl), .int .i64 (rd)], .int .i64 (0)]) ∧ Below w.heap.size w w')) (HX : Hid (∀ w : World, Tab w 8 kevCells → Tab w 6 lenCells → Calls Tryz.prog 114 #[.agg #[.int .i64 (ry), .int .i64 (rn), .bool (rl), .int .i64 (rd)]] w fun e w' => e = .returned (.tuple #[.int .i64 (D1), .int .i64 0]) ∧ Below w.heap.size w w')) (HY : Hid (∀ w : World, Tab w 8 kevCells → Tab w 6 lenCells → Calls Tryz.prog 114 #[.agg #[.int .i64 (z), .int .i64 (k), .bool (h), .int .i64 (f)]] w fun e w' => e = .returned (.tuple #[.int .i64 (D2), .int .i64 0]) ∧ Below w.heap.size w w')) (h1 : -3000000 ≤ D1 ∧ D1 ≤ 3000000) (h2 : -3000000 ≤ D2 ∧ D2 ≤ 3000000) :
    Calls Tryz.prog 34 #[.agg #[.int .i64 (y), .int .i64 (n), .bool (l), .int .i64 (d)], .agg #[.int .i64 (z), .int .i64 (k), .bool (h), .int .i64 (f)], .int .i64 1] w fun e w' => e = .returned (.tuple #[.agg #[.int .i64 (0), .int .i64 (0), .int .i64 ((D2 - D1).tdiv 7), .int .i64 ((D2 - D1).tmod 7)], .int .i64 (0)]) ∧ Below w.heap.size w w' := by
  obtain ⟨h11, h12⟩ := h1
  obtain ⟨h21, h22⟩ := h2
  have hw1 := hT.lt
  have hw2 := hL.lt
  go_enter Tryz.func34, Tryz.ntmps34
  go_wp2_with fail
  refine settleC (fun W => SpaAt W (w.heap.size + 1 + 1) 0 0 0 0 ∧ Below w.heap.size w W) ⟨⟨by simp [go_sem], by simp [go_sem], by simp [go_sem], by simp [go_sem], fun i => by simp [go_sem], by simp⟩, by repeat (first | (with_reducible exact Below.refl _ _) | (with_reducible assumption) | (with_reducible refine bdrew ?_) | (with_reducible refine baa ?_ _) | (with_reducible refine bs ?_ (by first | exact Nat.le_refl _ | omega | (simp; done) | (simp; omega)) _) | (with_reducible refine bt ?_ (by with_reducible assumption)))⟩ ?_
  rintro W0 ⟨hR0, hB0⟩
  refine (HS.out _ (Tab.below hT hB0) (Tab.below hL hB0)).mono ?_
  rintro e w1 ⟨rfl, hb1⟩
  have hR1 := spa_below hR0 hb1
  have hB1 := bt hB0 hb1
  go_wp2_with fail
  refine settleC (fun W => WayAt W w1.heap.size y n l d z k h f (s) 0 0 0 0 (0) ∧ SpaAt W (w.heap.size + 1 + 1) 0 0 0 0 ∧ Below w.heap.size w W) ⟨?_, spa_below hR1 (by repeat (first | (with_reducible exact Below.refl _ _) | (with_reducible assumption) | (with_reducible refine bdrew ?_) | (with_reducible refine baa ?_ _) | (with_reducible refine bs ?_ (by first | exact Nat.le_refl _ | omega | (simp; done) | (simp; omega)) _) | (with_reducible refine bt ?_ (by with_reducible assumption)))), bt hB1 (by repeat (first | (with_reducible exact Below.refl _ _) | (with_reducible assumption) | (with_reducible refine bdrew ?_) | (with_reducible refine baa ?_ _) | (with_reducible refine bs ?_ (by first | exact Nat.le_refl _ | omega | (simp; done) | (simp; omega)) _) | (with_reducible refine bt ?_ (by with_reducible assumption))))⟩ ?_
  · first | exact way_alloc w1 y n l d z k h f (s) 0 0 0 0 (0) 90 | exact way_set13 (way_set12 (way_set11 (way_set10 (way_set9 (way_set8 (way_set7 (way_set6 (way_set5 (way_set4 (way_set3 (way_set2 (way_set1 (way_set0 (way_alloc w1 0 0 false 0 0 0 false 0 0 0 0 0 0 0 90) _) _) _) _) _) _) _) _) _) _) _) _) _) _
  rintro W2 ⟨hP2, hR2, hB2⟩
  have hg : w.heap.size + 1 + 1 < w1.heap.size := hR1.2.2.2.2.2
  have hT2 := Tab.below hT hB2
  have hL2 := Tab.below hL hB2
  clear hR0 hB0 hR1 hB1 hb1
  refine (way_days_go y n l d z k h f s 0 0 0 0 0 ry rn rl rd D1 D2 w1.heap.size _ hT2 hL2 HA HX HY ⟨by omega, by omega⟩ ⟨by omega, by omega⟩ hP2).mono ?_
  rintro e W3 ⟨rfl, hP3, hU3⟩
  have hR3 := spa_but hR2 hU3 (by omega)
  have hB3 := hU3.below hB2 (by omega)
  have hT3 := But.tab hT2 hU3 (by omega)
  have hL3 := But.tab hL2 hU3 (by omega)
  go_wp2_with fail
  refine (way_weeks y n l d z k h f s 0 0 0 (D2 - D1) 0 w1.heap.size _ (by omega) (by omega) hP3).mono ?_
  rintro e W4 ⟨rfl, hP4, hU4⟩
  have hR4 := spa_but hR3 hU4 (by omega)
  have hB4 := hU4.below hB3 (by omega)
  have hT4 := But.tab hT3 hU4 (by omega)
  have hL4 := But.tab hL3 hU4 (by omega)
  have hq := hP4
  obtain ⟨x0, x1, x2, x3, x4, x5, x6, x7, x8, x9, x10, x11, x12, x13, xf, xs⟩ := hq
  have hq := hR4
  obtain ⟨r0, r1, r2, r3, rf, rs⟩ := hq
  go_wp2_with fail
  refine bodyPost_ret (v := .tuple #[.agg #[.int .i64 (0), .int .i64 (0), .int .i64 ((D2 - D1).tdiv 7), .int .i64 ((D2 - D1).tmod 7)], .int .i64 (0)]) (by simp [results, Tryz.results34, go_sem, *]) rfl ⟨rfl, ?_⟩
  iterate 4 refine Below.setCell ?_ (show w.heap.size ≤ w.heap.size + 1 + 1 by omega) _
  exact hB4
set_option maxHeartbeats 4000000 in
theorem until_Date_u2 (y n : Int) (l : Bool) (d z k : Int) (h : Bool) (f : Int) (ry rn : Int) (rl : Bool) (rd D1 D2 s : Int) (K : Nat) (w : World) (hT : Tab w 8 kevCells) (hL : Tab w 6 lenCells) (HS : Hid (∀ w : World, Tab w 8 kevCells → Tab w 6 lenCells → Calls Tryz.prog 76 #[.agg #[.int .i64 (y), .int .i64 (n), .bool (l), .int .i64 (d)], .agg #[.int .i64 (z), .int .i64 (k), .bool (h), .int .i64 (f)], .int .i64 2] w fun e w' => e = .returned (.agg #[.int .i64 y, .int .i64 n, .bool l, .int .i64 d, .int .i64 z, .int .i64 k, .bool h, .int .i64 f, .int .i64 (s), .int .i64 (0), .int .i64 (0), .int .i64 (0), .int .i64 (0), .int .i64 (0)]) ∧ Below w.heap.size w w')) (hy : I64 y) (ht : D10.dateE z k h f = 0) (hs : s = 1 ∨ s = -1) (hk : K ≤ 200000) (md : Hid (∀ i : Nat, i ≤ K → U17.fit y n l d 0 (s * (i : Int)) s (D10.dayV z k h f) = true)) (mu : Hid (∀ i : Nat, K < i → U17.fit y n l d 0 (s * (i : Int)) s (D10.dayV z k h f) = false)) (HA : Hid (∀ w : World, Tab w 8 kevCells → Tab w 6 lenCells → Calls Tryz.prog 27 #[.agg #[.int .i64 (y), .int .i64 (n), .bool (l), .int .i64 (d)], .agg #[.int .i64 (0), .int .i64 (s * (K : Int)), .int .i64 (0), .int .i64 (0)], .int .i64 0] w fun e w' => e = .returned (.tuple #[.agg #[.int .i64 (ry), .int .i64 (rn), .bool (rl), .int .i64 (rd)], .int .i64 (0)]) ∧ Below w.heap.size w w')) (HX : Hid (∀ w : World, Tab w 8 kevCells → Tab w 6 lenCells → Calls Tryz.prog 114 #[.agg #[.int .i64 (ry), .int .i64 (rn), .bool (rl), .int .i64 (rd)]] w fun e w' => e = .returned (.tuple #[.int .i64 (D1), .int .i64 0]) ∧ Below w.heap.size w w')) (HY : Hid (∀ w : World, Tab w 8 kevCells → Tab w 6 lenCells → Calls Tryz.prog 114 #[.agg #[.int .i64 (z), .int .i64 (k), .bool (h), .int .i64 (f)]] w fun e w' => e = .returned (.tuple #[.int .i64 (D2), .int .i64 0]) ∧ Below w.heap.size w w')) (h1 : -3000000 ≤ D1 ∧ D1 ≤ 3000000) (h2 : -3000000 ≤ D2 ∧ D2 ≤ 3000000) :
    Calls Tryz.prog 34 #[.agg #[.int .i64 (y), .int .i64 (n), .bool (l), .int .i64 (d)], .agg #[.int .i64 (z), .int .i64 (k), .bool (h), .int .i64 (f)], .int .i64 2] w fun e w' => e = .returned (.tuple #[.agg #[.int .i64 (0), .int .i64 (s * (K : Int)), .int .i64 (0), .int .i64 (D2 - D1)], .int .i64 (0)]) ∧ Below w.heap.size w w' := by
  obtain ⟨h11, h12⟩ := h1
  obtain ⟨h21, h22⟩ := h2
  have hw1 := hT.lt
  have hw2 := hL.lt
  go_enter Tryz.func34, Tryz.ntmps34
  go_wp2_with fail
  refine settleC (fun W => SpaAt W (w.heap.size + 1 + 1) 0 0 0 0 ∧ Below w.heap.size w W) ⟨⟨by simp [go_sem], by simp [go_sem], by simp [go_sem], by simp [go_sem], fun i => by simp [go_sem], by simp⟩, by repeat (first | (with_reducible exact Below.refl _ _) | (with_reducible assumption) | (with_reducible refine bdrew ?_) | (with_reducible refine baa ?_ _) | (with_reducible refine bs ?_ (by first | exact Nat.le_refl _ | omega | (simp; done) | (simp; omega)) _) | (with_reducible refine bt ?_ (by with_reducible assumption)))⟩ ?_
  rintro W0 ⟨hR0, hB0⟩
  refine (HS.out _ (Tab.below hT hB0) (Tab.below hL hB0)).mono ?_
  rintro e w1 ⟨rfl, hb1⟩
  have hR1 := spa_below hR0 hb1
  have hB1 := bt hB0 hb1
  go_wp2_with fail
  refine settleC (fun W => WayAt W w1.heap.size y n l d z k h f (s) 0 0 0 0 (0) ∧ SpaAt W (w.heap.size + 1 + 1) 0 0 0 0 ∧ Below w.heap.size w W) ⟨?_, spa_below hR1 (by repeat (first | (with_reducible exact Below.refl _ _) | (with_reducible assumption) | (with_reducible refine bdrew ?_) | (with_reducible refine baa ?_ _) | (with_reducible refine bs ?_ (by first | exact Nat.le_refl _ | omega | (simp; done) | (simp; omega)) _) | (with_reducible refine bt ?_ (by with_reducible assumption)))), bt hB1 (by repeat (first | (with_reducible exact Below.refl _ _) | (with_reducible assumption) | (with_reducible refine bdrew ?_) | (with_reducible refine baa ?_ _) | (with_reducible refine bs ?_ (by first | exact Nat.le_refl _ | omega | (simp; done) | (simp; omega)) _) | (with_reducible refine bt ?_ (by with_reducible assumption))))⟩ ?_
  · first | exact way_alloc w1 y n l d z k h f (s) 0 0 0 0 (0) 90 | exact way_set13 (way_set12 (way_set11 (way_set10 (way_set9 (way_set8 (way_set7 (way_set6 (way_set5 (way_set4 (way_set3 (way_set2 (way_set1 (way_set0 (way_alloc w1 0 0 false 0 0 0 false 0 0 0 0 0 0 0 90) _) _) _) _) _) _) _) _) _) _) _) _) _) _
  rintro W2 ⟨hP2, hR2, hB2⟩
  have hg : w.heap.size + 1 + 1 < w1.heap.size := hR1.2.2.2.2.2
  have hT2 := Tab.below hT hB2
  have hL2 := Tab.below hL hB2
  clear hR0 hB0 hR1 hB1 hb1
  refine (way_months y n l d z k h f s 0 0 0 0 0 K w1.heap.size _ hT2 hL2 hy ht hs hk md.out mu.out hP2).mono ?_
  rintro e W3 ⟨rfl, hP3, hU3⟩
  have hR3 := spa_but hR2 hU3 (by omega)
  have hB3 := hU3.below hB2 (by omega)
  have hT3 := But.tab hT2 hU3 (by omega)
  have hL3 := But.tab hL2 hU3 (by omega)
  go_wp2_with fail
  refine (way_days_go y n l d z k h f s 0 (s * (K : Int)) 0 0 0 ry rn rl rd D1 D2 w1.heap.size _ hT3 hL3 HA HX HY ⟨by omega, by omega⟩ ⟨by omega, by omega⟩ hP3).mono ?_
  rintro e W4 ⟨rfl, hP4, hU4⟩
  have hR4 := spa_but hR3 hU4 (by omega)
  have hB4 := hU4.below hB3 (by omega)
  have hT4 := But.tab hT3 hU4 (by omega)
  have hL4 := But.tab hL3 hU4 (by omega)
  have hq := hP4
  obtain ⟨x0, x1, x2, x3, x4, x5, x6, x7, x8, x9, x10, x11, x12, x13, xf, xs⟩ := hq
  have hq := hR4
  obtain ⟨r0, r1, r2, r3, rf, rs⟩ := hq
  go_wp2_with fail
  refine bodyPost_ret (v := .tuple #[.agg #[.int .i64 (0), .int .i64 (s * (K : Int)), .int .i64 (0), .int .i64 (D2 - D1)], .int .i64 (0)]) (by simp [results, Tryz.results34, go_sem, *]) rfl ⟨rfl, ?_⟩
  iterate 4 refine Below.setCell ?_ (show w.heap.size ≤ w.heap.size + 1 + 1 by omega) _
  exact hB4
set_option maxHeartbeats 4000000 in
theorem until_Date_u3 (y n : Int) (l : Bool) (d z k : Int) (h : Bool) (f : Int) (ry rn : Int) (rl : Bool) (rd D1 D2 s : Int) (J K : Nat) (w : World) (hT : Tab w 8 kevCells) (hL : Tab w 6 lenCells) (HS : Hid (∀ w : World, Tab w 8 kevCells → Tab w 6 lenCells → Calls Tryz.prog 76 #[.agg #[.int .i64 (y), .int .i64 (n), .bool (l), .int .i64 (d)], .agg #[.int .i64 (z), .int .i64 (k), .bool (h), .int .i64 (f)], .int .i64 3] w fun e w' => e = .returned (.agg #[.int .i64 y, .int .i64 n, .bool l, .int .i64 d, .int .i64 z, .int .i64 k, .bool h, .int .i64 f, .int .i64 (s), .int .i64 (0), .int .i64 (0), .int .i64 (0), .int .i64 (0), .int .i64 (0)]) ∧ Below w.heap.size w w')) (hy : I64 y) (ht : D10.dateE z k h f = 0) (hs : s = 1 ∨ s = -1) (hj : J ≤ 200000) (hk : K ≤ 200000) (yd : Hid (∀ i : Nat, i ≤ J → U17.fit y n l d (s * (i : Int)) 0 s (D10.dayV z k h f) = true)) (yu : Hid (∀ i : Nat, J < i → U17.fit y n l d (s * (i : Int)) 0 s (D10.dayV z k h f) = false)) (md : Hid (∀ i : Nat, i ≤ K → U17.fit y n l d (s * (J : Int)) (s * (i : Int)) s (D10.dayV z k h f) = true)) (mu : Hid (∀ i : Nat, K < i → U17.fit y n l d (s * (J : Int)) (s * (i : Int)) s (D10.dayV z k h f) = false)) (HA : Hid (∀ w : World, Tab w 8 kevCells → Tab w 6 lenCells → Calls Tryz.prog 27 #[.agg #[.int .i64 (y), .int .i64 (n), .bool (l), .int .i64 (d)], .agg #[.int .i64 (s * (J : Int)), .int .i64 (s * (K : Int)), .int .i64 (0), .int .i64 (0)], .int .i64 0] w fun e w' => e = .returned (.tuple #[.agg #[.int .i64 (ry), .int .i64 (rn), .bool (rl), .int .i64 (rd)], .int .i64 (0)]) ∧ Below w.heap.size w w')) (HX : Hid (∀ w : World, Tab w 8 kevCells → Tab w 6 lenCells → Calls Tryz.prog 114 #[.agg #[.int .i64 (ry), .int .i64 (rn), .bool (rl), .int .i64 (rd)]] w fun e w' => e = .returned (.tuple #[.int .i64 (D1), .int .i64 0]) ∧ Below w.heap.size w w')) (HY : Hid (∀ w : World, Tab w 8 kevCells → Tab w 6 lenCells → Calls Tryz.prog 114 #[.agg #[.int .i64 (z), .int .i64 (k), .bool (h), .int .i64 (f)]] w fun e w' => e = .returned (.tuple #[.int .i64 (D2), .int .i64 0]) ∧ Below w.heap.size w w')) (h1 : -3000000 ≤ D1 ∧ D1 ≤ 3000000) (h2 : -3000000 ≤ D2 ∧ D2 ≤ 3000000) :
    Calls Tryz.prog 34 #[.agg #[.int .i64 (y), .int .i64 (n), .bool (l), .int .i64 (d)], .agg #[.int .i64 (z), .int .i64 (k), .bool (h), .int .i64 (f)], .int .i64 3] w fun e w' => e = .returned (.tuple #[.agg #[.int .i64 (s * (J : Int)), .int .i64 (s * (K : Int)), .int .i64 (0), .int .i64 (D2 - D1)], .int .i64 (0)]) ∧ Below w.heap.size w w' := by
  obtain ⟨h11, h12⟩ := h1
  obtain ⟨h21, h22⟩ := h2
  have hw1 := hT.lt
  have hw2 := hL.lt
  go_enter Tryz.func34, Tryz.ntmps34
  go_wp2_with fail
  refine settleC (fun W => SpaAt W (w.heap.size + 1 + 1) 0 0 0 0 ∧ Below w.heap.size w W) ⟨⟨by simp [go_sem], by simp [go_sem], by simp [go_sem], by simp [go_sem], fun i => by simp [go_sem], by simp⟩, by repeat (first | (with_reducible exact Below.refl _ _) | (with_reducible assumption) | (with_reducible refine bdrew ?_) | (with_reducible refine baa ?_ _) | (with_reducible refine bs ?_ (by first | exact Nat.le_refl _ | omega | (simp; done) | (simp; omega)) _) | (with_reducible refine bt ?_ (by with_reducible assumption)))⟩ ?_
  rintro W0 ⟨hR0, hB0⟩
  refine (HS.out _ (Tab.below hT hB0) (Tab.below hL hB0)).mono ?_
  rintro e w1 ⟨rfl, hb1⟩
  have hR1 := spa_below hR0 hb1
  have hB1 := bt hB0 hb1
  go_wp2_with fail
  refine settleC (fun W => WayAt W w1.heap.size y n l d z k h f (s) 0 0 0 0 (0) ∧ SpaAt W (w.heap.size + 1 + 1) 0 0 0 0 ∧ Below w.heap.size w W) ⟨?_, spa_below hR1 (by repeat (first | (with_reducible exact Below.refl _ _) | (with_reducible assumption) | (with_reducible refine bdrew ?_) | (with_reducible refine baa ?_ _) | (with_reducible refine bs ?_ (by first | exact Nat.le_refl _ | omega | (simp; done) | (simp; omega)) _) | (with_reducible refine bt ?_ (by with_reducible assumption)))), bt hB1 (by repeat (first | (with_reducible exact Below.refl _ _) | (with_reducible assumption) | (with_reducible refine bdrew ?_) | (with_reducible refine baa ?_ _) | (with_reducible refine bs ?_ (by first | exact Nat.le_refl _ | omega | (simp; done) | (simp; omega)) _) | (with_reducible refine bt ?_ (by with_reducible assumption))))⟩ ?_
  · first | exact way_alloc w1 y n l d z k h f (s) 0 0 0 0 (0) 90 | exact way_set13 (way_set12 (way_set11 (way_set10 (way_set9 (way_set8 (way_set7 (way_set6 (way_set5 (way_set4 (way_set3 (way_set2 (way_set1 (way_set0 (way_alloc w1 0 0 false 0 0 0 false 0 0 0 0 0 0 0 90) _) _) _) _) _) _) _) _) _) _) _) _) _) _
  rintro W2 ⟨hP2, hR2, hB2⟩
  have hg : w.heap.size + 1 + 1 < w1.heap.size := hR1.2.2.2.2.2
  have hT2 := Tab.below hT hB2
  have hL2 := Tab.below hL hB2
  clear hR0 hB0 hR1 hB1 hb1
  refine (way_years y n l d z k h f s 0 0 0 0 0 J w1.heap.size _ hT2 hL2 hy ht hs hj yd.out yu.out hP2).mono ?_
  rintro e W3 ⟨rfl, hP3, hU3⟩
  have hR3 := spa_but hR2 hU3 (by omega)
  have hB3 := hU3.below hB2 (by omega)
  have hT3 := But.tab hT2 hU3 (by omega)
  have hL3 := But.tab hL2 hU3 (by omega)
  go_wp2_with fail
  refine (way_months y n l d z k h f s (s * (J : Int)) 0 0 0 0 K w1.heap.size _ hT3 hL3 hy ht hs hk md.out mu.out hP3).mono ?_
  rintro e W4 ⟨rfl, hP4, hU4⟩
  have hR4 := spa_but hR3 hU4 (by omega)
  have hB4 := hU4.below hB3 (by omega)
  have hT4 := But.tab hT3 hU4 (by omega)
  have hL4 := But.tab hL3 hU4 (by omega)
  go_wp2_with fail
  refine (way_days_go y n l d z k h f s (s * (J : Int)) (s * (K : Int)) 0 0 0 ry rn rl rd D1 D2 w1.heap.size _ hT4 hL4 HA HX HY ⟨by omega, by omega⟩ ⟨by omega, by omega⟩ hP4).mono ?_
  rintro e W5 ⟨rfl, hP5, hU5⟩
  have hR5 := spa_but hR4 hU5 (by omega)
  have hB5 := hU5.below hB4 (by omega)
  have hT5 := But.tab hT4 hU5 (by omega)
  have hL5 := But.tab hL4 hU5 (by omega)
  have hq := hP5
  obtain ⟨x0, x1, x2, x3, x4, x5, x6, x7, x8, x9, x10, x11, x12, x13, xf, xs⟩ := hq
  have hq := hR5
  obtain ⟨r0, r1, r2, r3, rf, rs⟩ := hq
  go_wp2_with fail
  refine bodyPost_ret (v := .tuple #[.agg #[.int .i64 (s * (J : Int)), .int .i64 (s * (K : Int)), .int .i64 (0), .int .i64 (D2 - D1)], .int .i64 (0)]) (by simp [results, Tryz.results34, go_sem, *]) rfl ⟨rfl, ?_⟩
  iterate 4 refine Below.setCell ?_ (show w.heap.size ≤ w.heap.size + 1 + 1 by omega) _
  exact hB5
end Go.Proofs.YtafenpgafmdenaaGreatDoor
/- Layer 17: the duration from any date to any other one. -/
namespace Go.Proofs.YtafenpgafmdenaaGreatDoor
open Go.ChangeShapes Go.WideShapes Go.ChangeAt Go.RowKit
set_option linter.unusedVariables false
set_option maxRecDepth 100000
namespace U17
/-- What the document asks of the duration, by any unit. -/
def DIs (y n : Int) (l : Bool) (d z k : Int) (h : Bool) (f : Int) (unit va vb vc vq er : Int) : Prop :=
  (¬ (0 ≤ unit ∧ unit ≤ 3) ∧ er = 1 ∧ va = 0 ∧ vb = 0 ∧ vc = 0 ∧ vq = 0) ∨
  ((0 ≤ unit ∧ unit ≤ 3) ∧ er = (if D10.dateE y n l d = 0 then D10.dateE z k h f else D10.dateE y n l d) ∧ ¬ er = 0 ∧ va = 0 ∧ vb = 0 ∧ vc = 0 ∧ vq = 0) ∨
  ((0 ≤ unit ∧ unit ≤ 3) ∧ D10.dateE y n l d = 0 ∧ D10.dateE z k h f = 0 ∧ er = 0 ∧ Is y n l d (D10.dayV y n l d) (D10.dayV z k h f) unit va vb vc vq)
theorem d_some (y n : Int) (l : Bool) (d z k : Int) (h : Bool) (f : Int) (unit : Int) : ∃ va vb vc vq er, DIs y n l d z k h f unit va vb vc vq er := by
  by_cases hu : 0 ≤ unit ∧ unit ≤ 3
  · by_cases ha : D10.dateE y n l d = 0
    · by_cases hb : D10.dateE z k h f = 0
      · obtain ⟨a, b, c, q, hI⟩ := is_some (B := D10.dayV z k h f) ha hu.1 hu.2
        exact ⟨a, b, c, q, 0, .inr (.inr ⟨hu, ha, hb, rfl, hI⟩)⟩
      · exact ⟨0, 0, 0, 0, _, .inr (.inl ⟨hu, (if_pos ha).symm, hb, rfl, rfl, rfl, rfl⟩)⟩
    · exact ⟨0, 0, 0, 0, _, .inr (.inl ⟨hu, (if_neg ha).symm, ha, rfl, rfl, rfl, rfl⟩)⟩
  · exact ⟨0, 0, 0, 0, 1, .inl ⟨hu, rfl, rfl, rfl, rfl, rfl⟩⟩
theorem toE_of {y n d a b s B : Int} {l : Bool} (h : fit y n l d a b s B = true) : A16.toE y n l d a b 0 0 0 = 0 := by
  unfold fit at h
  simp only [Bool.and_eq_true, decide_eq_true_eq] at h
  exact h.1
theorem up_false {p : Nat → Bool} {K : Nat} (hd : ∀ {j k : Nat}, j ≤ k → p k = true → p j = true) (hK : p (K + 1) = false) : ∀ i : Nat, K < i → p i = false := by
  intro i hi
  cases c : p i
  · rfl
  · rw [hd (show K + 1 ≤ i from hi) c] at hK; cases hK
theorem small {p : Nat → Bool} {K N : Nat} (hK : p K = true) (hn : ∀ {k : Nat}, N ≤ k → p k = false) : K < N := by
  rcases Nat.lt_or_ge K N with c | c
  · exact c
  · rw [hn c] at hK; cases hK
end U17
theorem add_To_at (y n : Int) (l : Bool) (d a b : Int) (hy : I64 y) (h : A16.toE y n l d a b 0 0 0 = 0) : ∃ (ry rn : Int) (rl : Bool) (rd : Int), D10.dateE ry rn rl rd = 0 ∧ D10.dayV ry rn rl rd = A16.day y n l d a b 0 0 0 ∧ I64 ry ∧
    ∀ w : World, Tab w 8 kevCells → Tab w 6 lenCells → Calls Tryz.prog 27 #[.agg #[.int .i64 (y), .int .i64 (n), .bool (l), .int .i64 (d)], .agg #[.int .i64 (a), .int .i64 (b), .int .i64 (0), .int .i64 (0)], .int .i64 0] w fun e w' => e = .returned (.tuple #[.agg #[.int .i64 (ry), .int .i64 (rn), .bool (rl), .int .i64 (rd)], .int .i64 (0)]) ∧ Below w.heap.size w w' := by
  obtain ⟨ry, rn, rl, rd, er, hto⟩ := A16.to_some y n l d a b 0 0 0
  obtain ⟨rfl, r1, r2, r3, r4⟩ := hto.date h
  exact ⟨ry, rn, rl, rd, r1, r2, ⟨by omega, by omega⟩, fun w hT hL => add_To y n l d a b 0 0 0 w hy hT hL ry rn rl rd 0 (Lib.hid hto)⟩
theorem heb_ToDay_at (y n : Int) (l : Bool) (d : Int) (hy : I64 y) (h : D10.dateE y n l d = 0) (D : Int) (hD : D10.dayV y n l d = D) : ∀ w : World, Tab w 8 kevCells → Tab w 6 lenCells → Calls Tryz.prog 114 #[.agg #[.int .i64 (y), .int .i64 (n), .bool (l), .int .i64 (d)]] w fun e w' => e = .returned (.tuple #[.int .i64 (D), .int .i64 0]) ∧ Below w.heap.size w w' := by
  intro w hT hL
  have := heb_ToDay y n l d w hy hT hL
  rwa [h, hD] at this
theorem until_start_at (y n : Int) (l : Bool) (d z k : Int) (h : Bool) (f : Int) (unit sv ev : Int) (hy : I64 y) (hz : I64 z) (hu : 0 ≤ unit ∧ unit ≤ 3) (hs : sv = if D10.lessD z k h f y n l d then -1 else 1) (he : ev = if D10.dateE y n l d = 0 then D10.dateE z k h f else D10.dateE y n l d) (w : World) (hT : Tab w 8 kevCells) (hL : Tab w 6 lenCells) :
    Calls Tryz.prog 76 #[.agg #[.int .i64 (y), .int .i64 (n), .bool (l), .int .i64 (d)], .agg #[.int .i64 (z), .int .i64 (k), .bool (h), .int .i64 (f)], .int .i64 unit] w fun e w' => e = .returned (.agg #[.int .i64 y, .int .i64 n, .bool l, .int .i64 d, .int .i64 z, .int .i64 k, .bool h, .int .i64 f, .int .i64 (sv), .int .i64 (0), .int .i64 (0), .int .i64 (0), .int .i64 (0), .int .i64 (ev)]) ∧ Below w.heap.size w w' := by
  have HC1 := Lib.hid (fun w hT hL => heb_Check y n l d w hy hT hL)
  have HC2 := Lib.hid (fun w hT hL => heb_Check z k h f w hz hT hL)
  have HL2 := Lib.hid (fun w => heb_Less z k h f y n l d w)
  by_cases ha : D10.dateE y n l d = 0
  · rw [if_pos ha] at he
    rw [ha] at HC1
    subst he
    cases hl : D10.lessD z k h f y n l d
    · rw [hl] at HL2 hs
      rw [show sv = 1 from hs]
      exact until_start_ok_false y n l d z k h f unit _ w hT hL HC1 HC2 HL2 hu
    · rw [hl] at HL2 hs
      rw [show sv = -1 from hs]
      exact until_start_ok_true y n l d z k h f unit _ w hT hL HC1 HC2 HL2 hu
  · rw [if_neg ha] at he
    subst he
    cases hl : D10.lessD z k h f y n l d
    · rw [hl] at HL2 hs
      rw [show sv = 1 from hs]
      exact until_start_no_false y n l d z k h f unit _ w hT hL HC1 HL2 (by simpa using ha) (by simpa using ha) hu
    · rw [hl] at HL2 hs
      rw [show sv = -1 from hs]
      exact until_start_no_true y n l d z k h f unit _ w hT hL HC1 HL2 (by simpa using ha) (by simpa using ha) hu
theorem until_Date (y n : Int) (l : Bool) (d z k : Int) (h : Bool) (f : Int) (unit : Int) (w : World) (hy : I64 y) (hz : I64 z) (hT : Tab w 8 kevCells) (hL : Tab w 6 lenCells) (va vb vc vq er : Int) (hres : Hid (U17.DIs y n l d z k h f unit va vb vc vq er)) :
    Calls Tryz.prog 34 #[.agg #[.int .i64 (y), .int .i64 (n), .bool (l), .int .i64 (d)], .agg #[.int .i64 (z), .int .i64 (k), .bool (h), .int .i64 (f)], .int .i64 unit] w fun e w' => e = .returned (.tuple #[.agg #[.int .i64 (va), .int .i64 (vb), .int .i64 (vc), .int .i64 (vq)], .int .i64 (er)]) ∧ Below w.heap.size w w' := by
  rcases hres.out with ⟨hu, rfl, rfl, rfl, rfl, rfl⟩ | ⟨hu, he, hne, rfl, rfl, rfl, rfl⟩ | ⟨hu, ha, hb, rfl, hI⟩
  · have HS : Hid (∀ w : World, Tab w 8 kevCells → Tab w 6 lenCells → Calls Tryz.prog 76 #[.agg #[.int .i64 (y), .int .i64 (n), .bool (l), .int .i64 (d)], .agg #[.int .i64 (z), .int .i64 (k), .bool (h), .int .i64 (f)], .int .i64 unit] w fun e w' => e = .returned (.agg #[.int .i64 y, .int .i64 n, .bool l, .int .i64 d, .int .i64 z, .int .i64 k, .bool h, .int .i64 f, .int .i64 (1), .int .i64 (0), .int .i64 (0), .int .i64 (0), .int .i64 (0), .int .i64 (1)]) ∧ Below w.heap.size w w') := Lib.hid (fun w _ _ => by
      by_cases c : unit < 0
      · exact until_start_low y n l d z k h f unit w c
      · exact until_start_high y n l d z k h f unit w (by omega) (by omega))
    exact until_Date_errb y n l d z k h f 1 1 unit w hT hL HS (by decide) (by simpa using (show ¬ unit = 3 by omega)) (by simpa using (show ¬ unit = 2 by omega)) (by simpa using (show ¬ unit = 1 by omega))
  · have HS := Lib.hid (fun w hT hL => until_start_at y n l d z k h f unit _ er hy hz hu rfl he w hT hL)
    generalize (if D10.lessD z k h f y n l d then (-1 : Int) else 1) = sv at *
    rcases (show unit = 0 ∨ unit = 1 ∨ unit = 2 ∨ unit = 3 by omega) with rfl | rfl | rfl | rfl
    · exact until_Date_err0 y n l d z k h f sv er w hT hL HS hne
    · exact until_Date_err1 y n l d z k h f sv er w hT hL HS hne
    · exact until_Date_err2 y n l d z k h f sv er w hT hL HS hne
    · exact until_Date_err3 y n l d z k h f sv er w hT hL HS hne
  · have HS := Lib.hid (fun w hT hL => until_start_at y n l d z k h f unit (U17.sg (D10.dayV y n l d) (D10.dayV z k h f)) 0 hy hz hu (by rw [D10.less_day hb ha]; unfold U17.sg; simp) (by rw [if_pos ha, hb]) w hT hL)
    have hsg := U17.sg_or (D10.dayV y n l d) (D10.dayV z k h f)
    obtain ⟨_, a1, a2⟩ := D10.dayV_ok y n l d ha
    obtain ⟨_, b1, b2⟩ := D10.dayV_ok z k h f hb
    have HY := Lib.hid (heb_ToDay_at z k h f hz hb _ rfl)
    rcases hI with ⟨rfl, rfl, rfl, rfl, rfl⟩ | ⟨rfl, rfl, rfl, rfl, rfl⟩ | ⟨rfl, rfl, rfl, rfl, K, rfl, q0, qk, qk1⟩ | ⟨rfl, rfl, rfl, J, K, rfl, pj, pj1, rfl, q0, qk, qk1⟩
    · obtain ⟨e1, e2⟩ := A16.to_days (c := 0) (f := 0) (m := 0) ha rfl rfl
      rw [if_neg (by unfold A16.out; omega)] at e2
      obtain ⟨ry, rn, rl, rd, r1, r2, r3, HA⟩ := add_To_at y n l d 0 0 hy e2
      have HX := Lib.hid (heb_ToDay_at ry rn rl rd r3 r1 (D10.dayV y n l d) (by rw [r2, e1]; omega))
      exact until_Date_u0 y n l d z k h f ry rn rl rd _ _ _ w hT hL HS (Lib.hid HA) HX HY ⟨by omega, by omega⟩ ⟨by omega, by omega⟩
    · obtain ⟨e1, e2⟩ := A16.to_days (c := 0) (f := 0) (m := 0) ha rfl rfl
      rw [if_neg (by unfold A16.out; omega)] at e2
      obtain ⟨ry, rn, rl, rd, r1, r2, r3, HA⟩ := add_To_at y n l d 0 0 hy e2
      have HX := Lib.hid (heb_ToDay_at ry rn rl rd r3 r1 (D10.dayV y n l d) (by rw [r2, e1]; omega))
      exact until_Date_u1 y n l d z k h f ry rn rl rd _ _ _ w hT hL HS (Lib.hid HA) HX HY ⟨by omega, by omega⟩ ⟨by omega, by omega⟩
    · have hK := U17.small (p := U17.Q y n l d 0 (U17.sg (D10.dayV y n l d) (D10.dayV z k h f)) (D10.dayV z k h f)) qk (fun hk => U17.Q_no ha hsg hk)
      have ht := U17.toE_of (show U17.fit y n l d 0 ((U17.sg (D10.dayV y n l d) (D10.dayV z k h f)) * (K : Int)) (U17.sg (D10.dayV y n l d) (D10.dayV z k h f)) (D10.dayV z k h f) = true from qk)
      obtain ⟨ry, rn, rl, rd, r1, r2, r3, HA⟩ := add_To_at y n l d 0 ((U17.sg (D10.dayV y n l d) (D10.dayV z k h f)) * (K : Int)) hy ht
      obtain ⟨_, d1, d2⟩ := D10.dayV_ok ry rn rl rd r1
      have HX := Lib.hid (heb_ToDay_at ry rn rl rd r3 r1 _ r2)
      rw [r2] at d1 d2
      exact until_Date_u2 y n l d z k h f ry rn rl rd _ _ _ K w hT hL HS hy hb hsg (by omega) (Lib.hid (fun i hi => U17.Q_down ha hsg q0 hi qk)) (Lib.hid (U17.up_false (p := U17.Q y n l d 0 (U17.sg (D10.dayV y n l d) (D10.dayV z k h f)) (D10.dayV z k h f)) (fun hjk hk => U17.Q_down ha hsg q0 hjk hk) qk1)) (Lib.hid HA) HX HY ⟨by omega, by omega⟩ ⟨by omega, by omega⟩
    · have hJ := U17.small (p := U17.P y n l d (U17.sg (D10.dayV y n l d) (D10.dayV z k h f)) (D10.dayV z k h f)) pj (fun hk => U17.P_no ha hsg hk)
      have hK := U17.small (p := U17.Q y n l d ((U17.sg (D10.dayV y n l d) (D10.dayV z k h f)) * (J : Int)) (U17.sg (D10.dayV y n l d) (D10.dayV z k h f)) (D10.dayV z k h f)) qk (fun hk => U17.Q_no ha hsg hk)
      have ht := U17.toE_of (show U17.fit y n l d ((U17.sg (D10.dayV y n l d) (D10.dayV z k h f)) * (J : Int)) ((U17.sg (D10.dayV y n l d) (D10.dayV z k h f)) * (K : Int)) (U17.sg (D10.dayV y n l d) (D10.dayV z k h f)) (D10.dayV z k h f) = true from qk)
      obtain ⟨ry, rn, rl, rd, r1, r2, r3, HA⟩ := add_To_at y n l d ((U17.sg (D10.dayV y n l d) (D10.dayV z k h f)) * (J : Int)) ((U17.sg (D10.dayV y n l d) (D10.dayV z k h f)) * (K : Int)) hy ht
      obtain ⟨_, d1, d2⟩ := D10.dayV_ok ry rn rl rd r1
      have HX := Lib.hid (heb_ToDay_at ry rn rl rd r3 r1 _ r2)
      rw [r2] at d1 d2
      exact until_Date_u3 y n l d z k h f ry rn rl rd _ _ _ J K w hT hL HS hy hb hsg (by omega) (by omega) (Lib.hid (fun i hi => U17.P_down ha hsg hi pj)) (Lib.hid (U17.up_false (p := U17.P y n l d (U17.sg (D10.dayV y n l d) (D10.dayV z k h f)) (D10.dayV z k h f)) (fun hjk hk => U17.P_down ha hsg hjk hk) pj1)) (Lib.hid (fun i hi => U17.Q_down ha hsg q0 hi qk)) (Lib.hid (U17.up_false (p := U17.Q y n l d ((U17.sg (D10.dayV y n l d) (D10.dayV z k h f)) * (J : Int)) (U17.sg (D10.dayV y n l d) (D10.dayV z k h f)) (D10.dayV z k h f)) (fun hjk hk => U17.Q_down ha hsg q0 hjk hk) qk1)) (Lib.hid HA) HX HY ⟨by omega, by omega⟩ ⟨by omega, by omega⟩
end Go.Proofs.YtafenpgafmdenaaGreatDoor
/- Layer 17: the laws' arithmetic. -/
namespace Go.Proofs.YtafenpgafmdenaaGreatDoor
open Go.RowKit
set_option linter.unusedVariables false
set_option maxRecDepth 100000
namespace U17
open A16
theorem mi_next (i : Int) : (S15.mY (i + 1) = S15.mY i ∧ S15.mM (i + 1) = S15.mM i + 1 ∧ S15.mM i + 1 ≤ Cal.most (Cal.leap (S15.mY i))) ∨ (S15.mY (i + 1) = S15.mY i + 1 ∧ S15.mM (i + 1) = 1 ∧ S15.mM i = Cal.most (Cal.leap (S15.mY i))) := by
  obtain ⟨h1, h2⟩ := S15.mY_spec i
  have hb := S15.before_next (S15.mY i)
  by_cases c : i + 1 < Cal.before (S15.mY i + 1)
  · have e := S15.mY_one (i + 1) (S15.mY i) (by omega) c
    refine .inl ⟨e, ?_, ?_⟩
    · unfold S15.mM; rw [e]; omega
    · unfold S15.mM; omega
  · have hb2 := S15.before_next (S15.mY i + 1)
    have hm : 1 ≤ Cal.most (Cal.leap (S15.mY i + 1)) := by unfold Cal.most; split <;> omega
    have e := S15.mY_one (i + 1) (S15.mY i + 1) (by omega) (by omega)
    refine .inr ⟨e, ?_, ?_⟩
    · unfold S15.mM; rw [e]; omega
    · unfold S15.mM; omega
theorem first_next {i : Int} (h0 : 0 ≤ i) (h1 : i + 1 < 123671) : D10.dayOf (S15.mY (i + 1)) (S15.mM (i + 1)) 1 = D10.dayOf (S15.mY i) (S15.mM i) 1 + len i := by
  obtain ⟨y1, y2⟩ := S15.mY_in i h0 (by omega)
  obtain ⟨z1, z2⟩ := S15.mY_in (i + 1) (by omega) h1
  obtain ⟨m1, m2⟩ := S15.mM_in i
  rcases mi_next i with ⟨e1, e2, e3⟩ | ⟨e1, e2, e3⟩
  · rw [e1, e2]
    have := D10.ahead_next (S15.mY i) (S15.mM i) y1 y2 m1 e3
    unfold len D10.dayOf; omega
  · rw [e1, e2]
    rw [e1] at z2
    have a := D10.ahead_most (S15.mY i) y1 y2
    have b := D10.ahead_one (S15.mY i + 1) (by omega) z2
    have hl : Cal.long (S15.mY i) = Cal.first (S15.mY i + 1) - Cal.first (S15.mY i) := rfl
    rw [← e3] at a
    unfold len D10.dayOf; omega
theorem F_first (d i : Int) : F d i = D10.dayOf (S15.mY i) (S15.mM i) 1 + cut d i - 1 := by unfold F D10.dayOf; omega
theorem len_in {i : Int} (h0 : 0 ≤ i) (h1 : i < 123671) : 29 ≤ len i ∧ len i ≤ 30 := by
  obtain ⟨y1, y2⟩ := S15.mY_in i h0 h1
  obtain ⟨m1, m2⟩ := S15.mM_in i
  exact D10.len_bd _ _ y1 y2 m1 m2
theorem F_step {d i : Int} (d1 : 1 ≤ d) (d30 : d ≤ 30) (h0 : 0 ≤ i) (h1 : i + 1 < 123671) : F d (i + 1) ≤ F d i + 30 := by
  have a := first_next h0 h1
  have b := len_in h0 (show i < 123671 by omega)
  have c := len_in (show 0 ≤ i + 1 by omega) h1
  rw [F_first, F_first, a]
  unfold cut
  split <;> split <;> omega
theorem F_last {d : Int} (d1 : 1 ≤ d) (d30 : d ≤ 30) : 2278650 ≤ F d 123670 + 29 := by
  have y : S15.mY 123670 = 9999 := by decide +kernel
  have m : S15.mM 123670 = Cal.most (Cal.leap 9999) := by decide +kernel
  have a := D10.ahead_most 9999 (by omega) (by omega)
  have hl : Cal.long 9999 = Cal.first 10000 - Cal.first 9999 := rfl
  have f := first_last
  have b := len_in (show (0 : Int) ≤ 123670 by omega) (by omega)
  have e : len 123670 = D10.dLen 9999 (Cal.most (Cal.leap 9999)) := by unfold len; rw [y, m]
  rw [F_first, y, m]
  unfold cut D10.dayOf
  split <;> omega
theorem F_begin {d : Int} (d1 : 1 ≤ d) (d30 : d ≤ 30) : F d 0 ≤ -1373427 + 29 := by
  have y : S15.mY 0 = 1 := by decide +kernel
  have m : S15.mM 0 = 1 := by decide +kernel
  have a := D10.ahead_one 1 (by omega) (by omega)
  have f := first_one
  rw [F_first, y, m]
  unfold cut D10.dayOf
  split <;> omega
/-- The place of a code that is brought into a year. -/
def pl (lp : Bool) (n : Int) (l : Bool) : Int := Cal.plV lp (if Cal.plOk lp n l = true then n else 6) (if Cal.plOk lp n l = true then l else false)
theorem pl_near (n : Int) (l : Bool) (h : Cal.right n l = true) : pl false n l ≤ pl true n l ∧ pl true n l ≤ pl false n l + 1 := by
  have hr : 1 ≤ n ∧ n ≤ 12 := by simp [Cal.right] at h; omega
  have hn : n = 1 ∨ n = 2 ∨ n = 3 ∨ n = 4 ∨ n = 5 ∨ n = 6 ∨ n = 7 ∨ n = 8 ∨ n = 9 ∨ n = 10 ∨ n = 11 ∨ n = 12 := by omega
  rcases hn with rfl | rfl | rfl | rfl | rfl | rfl | rfl | rfl | rfl | rfl | rfl | rfl <;> cases l <;> first | (revert h; decide) | decide
theorem ix_pl {y n d a : Int} {l : Bool} (h : D10.dateE y n l d = 0) (h1 : 1 ≤ y + a) (h2 : y + a ≤ 9999) : ix y n l a = Cal.before (y + a) + pl (Cal.leap (y + a)) n l - 1 := by
  obtain ⟨e, _⟩ := into_ok h h1 h2
  have en : n1 y n l a 0 = if Cal.plOk (Cal.leap (y + a)) n l = true then n else 6 := by unfold n1 S15.intoN; rw [if_pos e]
  have el : l1 y n l a 0 = if Cal.plOk (Cal.leap (y + a)) n l = true then l else false := by unfold l1 S15.intoL; rw [if_pos e]
  unfold ix S15.monA pl
  rw [en, el]; omega
theorem most_of (lp : Bool) : Cal.most lp = if lp then 13 else 12 := by cases lp <;> rfl
theorem ix_near {y n d a : Int} {l : Bool} (h : D10.dateE y n l d = 0) (h1 : 1 ≤ y + a) (h2 : y + a + 1 ≤ 9999) : ix y n l (a + 1) ≤ ix y n l a + 13 := by
  obtain ⟨hr, _⟩ := right_of h
  have p := pl_near n l hr
  have e1 := ix_pl h h1 (by omega)
  have e2 := ix_pl (a := a + 1) h (by omega) (by omega)
  have hb := S15.before_next (y + a)
  rw [most_of] at hb
  rw [show y + (a + 1) = y + a + 1 by omega] at e2
  rw [e1, e2, hb]
  cases Cal.leap (y + a) <;> cases Cal.leap (y + a + 1) <;> simp <;> omega
/-- Weeks and days behind years and months. -/
theorem to_more {y n d a b c f : Int} {l : Bool} (h : toE y n l d a b 0 0 0 = 0) (hr : right a b c f = true) (h1 : -1373427 ≤ day y n l d a b 0 0 0 + (7 * c + f)) (h2 : day y n l d a b 0 0 0 + (7 * c + f) ≤ 2278650) :
    toE y n l d a b c f 0 = 0 ∧ day y n l d a b c f 0 = day y n l d a b 0 0 0 + (7 * c + f) := by
  obtain ⟨_, _, g1, g2, g3, g4, _⟩ := to_0 h
  have e : day y n l d a b c f 0 = day y n l d a b 0 0 0 + (7 * c + f) := by unfold day; omega
  refine ⟨?_, e⟩
  have hx : (right a b c f && S15.mode 0) = true := by rw [hr]; rfl
  unfold toE
  rw [hx, if_pos rfl, if_pos g1, if_pos g2, if_pos g3, if_pos g4, if_neg (by rw [e]; unfold out; omega)]
theorem nb_of {y n d a b s B : Int} {l : Bool} (h : fit y n l d a b s B = true) : nb s (day y n l d a b 0 0 0) B = true := by
  unfold fit at h
  simp only [Bool.and_eq_true] at h
  exact h.2
theorem day_in {y n d a b c f m : Int} {l : Bool} (h : toE y n l d a b c f m = 0) : -1373427 ≤ day y n l d a b c f m ∧ day y n l d a b c f m ≤ 2278650 := by
  obtain ⟨_, _, _, _, _, _, g⟩ := to_0 h
  unfold out at g; omega
theorem sg_up {A B : Int} (h : A ≤ B) : sg A B = 1 := by unfold sg; rw [if_neg (by omega)]
theorem sg_down {A B : Int} (h : B < A) : sg A B = -1 := by unfold sg; rw [if_pos h]
/-- What is told leads there, and no field opposes the way. -/
theorem back {y n d B unit a b c f : Int} {l : Bool} (h : D10.dateE y n l d = 0) (hB1 : -1373427 ≤ B) (hB2 : B ≤ 2278650) (hI : Is y n l d (D10.dayV y n l d) B unit a b c f) :
    toE y n l d a b c f 0 = 0 ∧ day y n l d a b c f 0 = B ∧ (D10.dayV y n l d ≤ B → 0 ≤ a ∧ 0 ≤ b ∧ 0 ≤ c ∧ 0 ≤ f) ∧ (B < D10.dayV y n l d → a ≤ 0 ∧ b ≤ 0 ∧ c ≤ 0 ∧ f ≤ 0) := by
  obtain ⟨_, A1, A2⟩ := D10.dayV_ok y n l d h
  have hsg := sg_or (D10.dayV y n l d) B
  rcases hI with ⟨_, rfl, rfl, rfl, rfl⟩ | ⟨_, rfl, rfl, rfl, rfl⟩ | ⟨_, rfl, rfl, rfl, K, rfl, q0, qk, qk1⟩ | ⟨_, rfl, rfl, J, K, rfl, pj, pj1, rfl, q0, qk, qk1⟩
  · obtain ⟨e1, e2⟩ := to_days (c := 0) (f := B - D10.dayV y n l d) (m := 0) h (right_days (by omega) (by omega)) rfl
    rw [if_neg (by unfold out; omega)] at e2
    exact ⟨e2, by rw [e1]; omega, fun _ => by omega, fun _ => by omega⟩
  · have t := Int.mul_tdiv_add_tmod (B - D10.dayV y n l d) 7
    have t1 : (D10.dayV y n l d ≤ B → 0 ≤ (B - D10.dayV y n l d).tdiv 7 ∧ 0 ≤ (B - D10.dayV y n l d).tmod 7) := fun hh => ⟨Int.tdiv_nonneg (by omega) (by omega), Int.tmod_nonneg _ (by omega)⟩
    have t2 : (B < D10.dayV y n l d → (B - D10.dayV y n l d).tdiv 7 ≤ 0 ∧ (B - D10.dayV y n l d).tmod 7 ≤ 0) := fun hh => by
      have e1 : (B - D10.dayV y n l d).tdiv 7 = -((D10.dayV y n l d - B).tdiv 7) := by rw [← Int.neg_tdiv]; congr 1; omega
      have e2 : (B - D10.dayV y n l d).tmod 7 = -((D10.dayV y n l d - B).tmod 7) := by rw [← Int.neg_tmod]; congr 1; omega
      have := Int.tdiv_nonneg (show 0 ≤ D10.dayV y n l d - B by omega) (show (0 : Int) ≤ 7 by omega)
      have := Int.tmod_nonneg 7 (show 0 ≤ D10.dayV y n l d - B by omega)
      omega
    have m1 := Int.lt_tmod_of_pos (B - D10.dayV y n l d) (show (0 : Int) < 7 by omega)
    have m2 := Int.tmod_lt_of_pos (B - D10.dayV y n l d) (show (0 : Int) < 7 by omega)
    obtain ⟨e1, e2⟩ := to_days (c := (B - D10.dayV y n l d).tdiv 7) (f := (B - D10.dayV y n l d).tmod 7) (m := 0) h (right_days (by omega) (by omega)) rfl
    rw [if_neg (by unfold out; omega)] at e2
    exact ⟨e2, by rw [e1]; omega, fun hh => ⟨by omega, by omega, (t1 hh).1, (t1 hh).2⟩, fun hh => ⟨by omega, by omega, (t2 hh).1, (t2 hh).2⟩⟩
  · have ht := toE_of (show fit y n l d 0 (sg (D10.dayV y n l d) B * (K : Int)) (sg (D10.dayV y n l d) B) B = true from qk)
    have hn := nb_of (show fit y n l d 0 (sg (D10.dayV y n l d) B * (K : Int)) (sg (D10.dayV y n l d) B) B = true from qk)
    obtain ⟨b1, b2⟩ := day_in ht
    obtain ⟨hr, _⟩ := to_0 ht
    obtain ⟨r1, r2, _, _⟩ := right_in hr
    obtain ⟨e1, e2⟩ := to_more (c := 0) (f := B - day y n l d 0 (sg (D10.dayV y n l d) B * (K : Int)) 0 0 0) ht (by simp [right, may]; omega) (by omega) (by omega)
    refine ⟨e1, by rw [e2]; omega, fun hh => ?_, fun hh => ?_⟩
    · rw [sg_up hh] at hn ⊢
      simp [nb] at hn ⊢
      omega
    · rw [sg_down hh] at hn ⊢
      simp [nb] at hn ⊢
      omega
  · have ht := toE_of (show fit y n l d (sg (D10.dayV y n l d) B * (J : Int)) (sg (D10.dayV y n l d) B * (K : Int)) (sg (D10.dayV y n l d) B) B = true from qk)
    have hn := nb_of (show fit y n l d (sg (D10.dayV y n l d) B * (J : Int)) (sg (D10.dayV y n l d) B * (K : Int)) (sg (D10.dayV y n l d) B) B = true from qk)
    obtain ⟨b1, b2⟩ := day_in ht
    obtain ⟨hr, _⟩ := to_0 ht
    obtain ⟨r1, r2, _, _⟩ := right_in hr
    obtain ⟨e1, e2⟩ := to_more (c := 0) (f := B - day y n l d (sg (D10.dayV y n l d) B * (J : Int)) (sg (D10.dayV y n l d) B * (K : Int)) 0 0 0) ht (by simp [right, may]; omega) (by omega) (by omega)
    refine ⟨e1, by rw [e2]; omega, fun hh => ?_, fun hh => ?_⟩
    · rw [sg_up hh] at hn ⊢
      simp [nb] at hn ⊢
      omega
    · rw [sg_down hh] at hn ⊢
      simp [nb] at hn ⊢
      omega
/-- One more than fits: out of range, or beyond. -/
theorem beyond_of {y n d a b s B : Int} {l : Bool} (h : D10.dateE y n l d = 0) (hr : right a b 0 0 = true) (hf : fit y n l d a b s B = false) :
    toE y n l d a b 0 0 0 = 2 ∨ (toE y n l d a b 0 0 0 = 0 ∧ (s = 1 → B < day y n l d a b 0 0 0) ∧ (s = -1 → day y n l d a b 0 0 0 < B)) := by
  obtain ⟨t1, t2⟩ := to_F h hr
  by_cases c : 1 ≤ y + a ∧ y + a ≤ 9999 ∧ 0 ≤ ix y n l a + b ∧ ix y n l a + b < 123671
  · obtain ⟨e1, e2⟩ := t2 c
    refine .inr ⟨e1, ?_, ?_⟩
    · rintro rfl
      unfold fit nb at hf
      rw [decide_eq_true e1, if_neg (by omega)] at hf
      simpa using hf
    · rintro rfl
      unfold fit nb at hf
      rw [decide_eq_true e1, if_pos (by omega)] at hf
      simpa using hf
  · exact .inl (t1 c)
/-- Months behind years: less than a month is left. -/
theorem days_left {y n d a s B : Int} {l : Bool} {K : Nat} (h : D10.dateE y n l d = 0) (hs : s = 1 ∨ s = -1) (hB1 : -1373427 ≤ B) (hB2 : B ≤ 2278650) (qk : Q y n l d a s B K = true) (qk1 : Q y n l d a s B (K + 1) = false) :
    -31 < B - day y n l d a (s * (K : Int)) 0 0 0 ∧ B - day y n l d a (s * (K : Int)) 0 0 0 < 31 := by
  obtain ⟨_, y1, y2, d1, d30⟩ := right_of h
  have hk := small (p := Q y n l d a s B) qk (fun hk => Q_no h hs hk)
  obtain ⟨hr, hc, hb⟩ := (fit_iff h).1 (show fit y n l d a (s * (K : Int)) s B = true from qk)
  obtain ⟨_, e2⟩ := (to_F h hr).2 hc
  rw [e2]
  obtain ⟨ra, _⟩ := right_in hr
  have hr1 : right a (s * ((K + 1 : Nat) : Int)) 0 0 = true := right2 ra (by rcases hs with rfl | rfl <;> omega)
  have hq1 : ¬ (fit y n l d a (s * ((K + 1 : Nat) : Int)) s B = true) := by
    have : fit y n l d a (s * ((K + 1 : Nat) : Int)) s B = false := qk1
    rw [this]; decide
  rw [fit_iff h] at hq1
  obtain ⟨c1, c2, c3, c4⟩ := hc
  rcases hs with rfl | rfl
  · have e : (1 : Int) * (K : Int) = K := by omega
    have e' : (1 : Int) * ((K + 1 : Nat) : Int) = (K : Int) + 1 := by omega
    simp only [e, e'] at c3 c4 hb hq1 hr1 ⊢
    simp [nb] at hb
    by_cases c : ix y n l a + K + 1 < 123671
    · have st := F_step d1 d30 c3 c
      have : ¬ F d (ix y n l a + (K + 1)) ≤ B := fun hh => hq1 ⟨hr1, ⟨c1, c2, by omega, by omega⟩, by simp [nb]; exact hh⟩
      rw [show ix y n l a + ((K : Int) + 1) = ix y n l a + K + 1 by omega] at this
      omega
    · have e3 : ix y n l a + K = 123670 := by omega
      have := F_last d1 d30
      rw [e3] at hb ⊢
      omega
  · have e : (-1 : Int) * (K : Int) = -K := by omega
    have e' : (-1 : Int) * ((K + 1 : Nat) : Int) = -(K : Int) - 1 := by omega
    simp only [e, e'] at c3 c4 hb hq1 hr1 ⊢
    simp [nb] at hb
    by_cases c : 0 ≤ ix y n l a + -(K : Int) - 1
    · have st := F_step (d := d) (i := ix y n l a + -(K : Int) - 1) d1 d30 c (by omega)
      rw [show ix y n l a + -(K : Int) - 1 + 1 = ix y n l a + -(K : Int) by omega] at st
      have : ¬ B ≤ F d (ix y n l a + (-(K : Int) - 1)) := fun hh => hq1 ⟨hr1, ⟨c1, c2, by omega, by omega⟩, by simp [nb]; exact hh⟩
      rw [show ix y n l a + (-(K : Int) - 1) = ix y n l a + -(K : Int) - 1 by omega] at this
      omega
    · have e3 : ix y n l a + -(K : Int) = 0 := by omega
      have := F_begin d1 d30
      rw [e3] at hb ⊢
      omega
/-- Months behind years are fewer than a year's. -/
theorem months_left {y n d s B : Int} {l : Bool} {J K : Nat} (h : D10.dateE y n l d = 0) (hs : s = 1 ∨ s = -1) (pj : P y n l d s B J = true) (pj1 : P y n l d s B (J + 1) = false) (qk : Q y n l d (s * (J : Int)) s B K = true) : K < 14 := by
  obtain ⟨_, y1, y2, d1, d30⟩ := right_of h
  have hj := small (p := P y n l d s B) pj (fun hk => P_no h hs hk)
  obtain ⟨hr, ⟨c1, c2, c3, c4⟩, hb⟩ := (fit_iff h).1 (show fit y n l d (s * (J : Int)) (s * (K : Int)) s B = true from qk)
  obtain ⟨ra, _⟩ := right_in hr
  have hr1 : right (s * ((J + 1 : Nat) : Int)) 0 0 0 = true := right2 (by rcases hs with rfl | rfl <;> omega) (by omega)
  have hq1 : ¬ (fit y n l d (s * ((J + 1 : Nat) : Int)) 0 s B = true) := by
    have : fit y n l d (s * ((J + 1 : Nat) : Int)) 0 s B = false := pj1
    rw [this]; decide
  rw [fit_iff h] at hq1
  have hin := ix_in h c1 c2
  rcases hs with rfl | rfl
  · have e : (1 : Int) * (J : Int) = J := by omega
    have e' : (1 : Int) * ((J + 1 : Nat) : Int) = (J : Int) + 1 := by omega
    have e'' : (1 : Int) * (K : Int) = K := by omega
    simp only [e, e', e''] at c1 c2 c3 c4 hb hq1 hr1 hin
    simp [nb] at hb
    by_cases c : y + J + 1 ≤ 9999
    · have hnr := ix_near h c1 c
      have hbd := ix_bd (a := (J : Int) + 1) h (by omega) (by omega)
      have hn : ¬ F d (ix y n l (J + 1)) ≤ B := fun hh => hq1 ⟨hr1, ⟨by omega, by omega, by omega, by omega⟩, by simp [nb]; exact hh⟩
      have : ¬ ix y n l (J + 1) ≤ ix y n l J + K := fun hh => by
        have := F_le d1 hbd.1 hh c4
        omega
      omega
    · have e3 : y + J = 9999 := by omega
      rw [e3] at hin
      have hm : Cal.before 9999 = 123671 - 12 ∨ Cal.before 9999 = 123671 - 13 := by decide +kernel
      omega
  · have e : (-1 : Int) * (J : Int) = -J := by omega
    have e' : (-1 : Int) * ((J + 1 : Nat) : Int) = -(J : Int) - 1 := by omega
    have e'' : (-1 : Int) * (K : Int) = -K := by omega
    simp only [e, e', e''] at c1 c2 c3 c4 hb hq1 hr1 hin
    simp [nb] at hb
    by_cases c : 1 ≤ y + -(J : Int) - 1
    · have hnr := ix_near (a := -(J : Int) - 1) h (by omega) (by omega)
      rw [show -(J : Int) - 1 + 1 = -(J : Int) by omega] at hnr
      have hbd := ix_bd (a := -(J : Int) - 1) h (by omega) (by omega)
      have hn : ¬ B ≤ F d (ix y n l (-(J : Int) - 1)) := fun hh => hq1 ⟨hr1, ⟨by omega, by omega, by omega, by omega⟩, by simp [nb]; exact hh⟩
      have : ¬ ix y n l (-J) + -(K : Int) ≤ ix y n l (-(J : Int) - 1) := fun hh => by
        have := F_le d1 c3 hh hbd.2
        omega
      omega
    · have e3 : y + -(J : Int) = 1 := by omega
      rw [e3] at hin
      have hm : Cal.before (1 + 1) = 12 ∨ Cal.before (1 + 1) = 13 := by decide +kernel
      omega
end U17
end Go.Proofs.YtafenpgafmdenaaGreatDoor
/- Layer 17: its laws. -/
namespace Go.Proofs.YtafenpgafmdenaaGreatDoor
open Go.ChangeShapes Go.WideShapes Go.ChangeAt Go.RowKit
set_option linter.unusedVariables false
set_option maxRecDepth 100000
theorem until_Date_a (w : World) (hT : Tab w 8 kevCells) (hL : Tab w 6 lenCells) : Calls Tryz.prog 34 #[.agg #[.int .i64 (5784), .int .i64 (5), .bool (true), .int .i64 (30)], .agg #[.int .i64 (5785), .int .i64 (6), .bool (false), .int .i64 (29)], .int .i64 3] w fun e w' => e = .returned (.tuple #[.agg #[.int .i64 (1), .int .i64 (0), .int .i64 (0), .int .i64 (0)], .int .i64 (0)]) ∧ Below w.heap.size w w' :=
  until_Date 5784 5 true 30 5785 6 false 29 3 w ⟨by omega, by omega⟩ ⟨by omega, by omega⟩ hT hL 1 0 0 0 0 (Lib.hid (.inr (.inr ⟨⟨by omega, by omega⟩, by decide +kernel, by decide +kernel, rfl, .inr (.inr (.inr ⟨rfl, rfl, by decide +kernel, 1, 0, by decide +kernel, by decide +kernel, by decide +kernel, by decide +kernel, by decide +kernel, by decide +kernel, by decide +kernel⟩))⟩)))
theorem until_Date_b (w : World) (hT : Tab w 8 kevCells) (hL : Tab w 6 lenCells) : Calls Tryz.prog 34 #[.agg #[.int .i64 (5785), .int .i64 (6), .bool (false), .int .i64 (29)], .agg #[.int .i64 (5784), .int .i64 (5), .bool (true), .int .i64 (30)], .int .i64 0] w fun e w' => e = .returned (.tuple #[.agg #[.int .i64 (0), .int .i64 (0), .int .i64 (0), .int .i64 (-384)], .int .i64 (0)]) ∧ Below w.heap.size w w' :=
  until_Date 5785 6 false 29 5784 5 true 30 0 w ⟨by omega, by omega⟩ ⟨by omega, by omega⟩ hT hL 0 0 0 (-384) 0 (Lib.hid (.inr (.inr ⟨⟨by omega, by omega⟩, by decide +kernel, by decide +kernel, rfl, .inl ⟨rfl, rfl, rfl, rfl, by decide +kernel⟩⟩)))
set_option maxHeartbeats 2000000 in
theorem awake17 (w : World) (hT : Tab w 8 kevCells) (hL : Tab w 6 lenCells) : Calls Tryz.prog 36 #[] w fun e w' => e = .returned (.bool true) ∧ Below w.heap.size w w' := by
  go_enter Tryz.func36, Tryz.ntmps36
  go_wp2_with fail
  refine (until_Date_a _ (Tab.below hT (by repeat (first | (with_reducible exact Below.refl _ _) | (with_reducible assumption) | (with_reducible refine bdrew ?_) | (with_reducible refine baa ?_ _) | (with_reducible refine bs ?_ (by first | exact Nat.le_refl _ | omega | (simp; done) | (simp; omega)) _) | (with_reducible refine bt ?_ (by with_reducible assumption))))) (Tab.below hL (by repeat (first | (with_reducible exact Below.refl _ _) | (with_reducible assumption) | (with_reducible refine bdrew ?_) | (with_reducible refine baa ?_ _) | (with_reducible refine bs ?_ (by first | exact Nat.le_refl _ | omega | (simp; done) | (simp; omega)) _) | (with_reducible refine bt ?_ (by with_reducible assumption)))))).mono ?_
  rintro e w1 ⟨rfl, hb1⟩
  obtain ⟨hc1, hf1⟩ := bcell hb1
  have hz1 := hb1.size
  try simp at hz1
  have hs1x0 : w.heap.size < w1.heap.size := by omega
  have hs1x1 : (w.heap.size + 1) < w1.heap.size := by omega
  have g1x0 : w1.cell? ⟨w.heap.size, 0, none⟩ = some (.int .i64 (5784)) := (hc1 _ _ (by first | omega | (simp; done) | (simp; omega))).trans (by first | (with_reducible assumption) | (simp [go_sem]; done) | (simp [go_sem, *]; done) | assumption)
  have g1x1 : w1.cell? ⟨w.heap.size, 1, none⟩ = some (.int .i64 (5)) := (hc1 _ _ (by first | omega | (simp; done) | (simp; omega))).trans (by first | (with_reducible assumption) | (simp [go_sem]; done) | (simp [go_sem, *]; done) | assumption)
  have g1x2 : w1.cell? ⟨w.heap.size, 2, none⟩ = some (.bool (true)) := (hc1 _ _ (by first | omega | (simp; done) | (simp; omega))).trans (by first | (with_reducible assumption) | (simp [go_sem]; done) | (simp [go_sem, *]; done) | assumption)
  have g1x3 : w1.cell? ⟨w.heap.size, 3, none⟩ = some (.int .i64 (30)) := (hc1 _ _ (by first | omega | (simp; done) | (simp; omega))).trans (by first | (with_reducible assumption) | (simp [go_sem]; done) | (simp [go_sem, *]; done) | assumption)
  have g1x4 : w1.cell? ⟨(w.heap.size + 1), 0, none⟩ = some (.int .i64 (5785)) := (hc1 _ _ (by first | omega | (simp; done) | (simp; omega))).trans (by first | (with_reducible assumption) | (simp [go_sem]; done) | (simp [go_sem, *]; done) | assumption)
  have g1x5 : w1.cell? ⟨(w.heap.size + 1), 1, none⟩ = some (.int .i64 (6)) := (hc1 _ _ (by first | omega | (simp; done) | (simp; omega))).trans (by first | (with_reducible assumption) | (simp [go_sem]; done) | (simp [go_sem, *]; done) | assumption)
  have g1x6 : w1.cell? ⟨(w.heap.size + 1), 2, none⟩ = some (.bool (false)) := (hc1 _ _ (by first | omega | (simp; done) | (simp; omega))).trans (by first | (with_reducible assumption) | (simp [go_sem]; done) | (simp [go_sem, *]; done) | assumption)
  have g1x7 : w1.cell? ⟨(w.heap.size + 1), 3, none⟩ = some (.int .i64 (29)) := (hc1 _ _ (by first | omega | (simp; done) | (simp; omega))).trans (by first | (with_reducible assumption) | (simp [go_sem]; done) | (simp [go_sem, *]; done) | assumption)
  go_wp2_with fail
  refine (until_Date_b _ (Tab.below hT (by repeat (first | (with_reducible exact Below.refl _ _) | (with_reducible assumption) | (with_reducible refine bdrew ?_) | (with_reducible refine baa ?_ _) | (with_reducible refine bs ?_ (by first | exact Nat.le_refl _ | omega | (simp; done) | (simp; omega)) _) | (with_reducible refine bt ?_ (by with_reducible assumption))))) (Tab.below hL (by repeat (first | (with_reducible exact Below.refl _ _) | (with_reducible assumption) | (with_reducible refine bdrew ?_) | (with_reducible refine baa ?_ _) | (with_reducible refine bs ?_ (by first | exact Nat.le_refl _ | omega | (simp; done) | (simp; omega)) _) | (with_reducible refine bt ?_ (by with_reducible assumption)))))).mono ?_
  rintro e w2 ⟨rfl, hb2⟩
  obtain ⟨hc2, hf2⟩ := bcell hb2
  have hz2 := hb2.size
  try simp at hz2
  have hl2w1 : w1.heap.size < w2.heap.size := by omega
  have hm2w1 : w1.heap.size ≤ w2.heap.size := by omega
  have hs2x0 : w.heap.size < w2.heap.size := by omega
  have hs2x1 : (w.heap.size + 1) < w2.heap.size := by omega
  have g2x0 : w2.cell? ⟨w.heap.size, 0, none⟩ = some (.int .i64 (5784)) := (hc2 _ _ (by first | omega | (simp; done) | (simp; omega))).trans (by first | (with_reducible assumption) | (simp [go_sem]; done) | (simp [go_sem, *]; done) | assumption)
  have g2x1 : w2.cell? ⟨w.heap.size, 1, none⟩ = some (.int .i64 (5)) := (hc2 _ _ (by first | omega | (simp; done) | (simp; omega))).trans (by first | (with_reducible assumption) | (simp [go_sem]; done) | (simp [go_sem, *]; done) | assumption)
  have g2x2 : w2.cell? ⟨w.heap.size, 2, none⟩ = some (.bool (true)) := (hc2 _ _ (by first | omega | (simp; done) | (simp; omega))).trans (by first | (with_reducible assumption) | (simp [go_sem]; done) | (simp [go_sem, *]; done) | assumption)
  have g2x3 : w2.cell? ⟨w.heap.size, 3, none⟩ = some (.int .i64 (30)) := (hc2 _ _ (by first | omega | (simp; done) | (simp; omega))).trans (by first | (with_reducible assumption) | (simp [go_sem]; done) | (simp [go_sem, *]; done) | assumption)
  have g2x4 : w2.cell? ⟨(w.heap.size + 1), 0, none⟩ = some (.int .i64 (5785)) := (hc2 _ _ (by first | omega | (simp; done) | (simp; omega))).trans (by first | (with_reducible assumption) | (simp [go_sem]; done) | (simp [go_sem, *]; done) | assumption)
  have g2x5 : w2.cell? ⟨(w.heap.size + 1), 1, none⟩ = some (.int .i64 (6)) := (hc2 _ _ (by first | omega | (simp; done) | (simp; omega))).trans (by first | (with_reducible assumption) | (simp [go_sem]; done) | (simp [go_sem, *]; done) | assumption)
  have g2x6 : w2.cell? ⟨(w.heap.size + 1), 2, none⟩ = some (.bool (false)) := (hc2 _ _ (by first | omega | (simp; done) | (simp; omega))).trans (by first | (with_reducible assumption) | (simp [go_sem]; done) | (simp [go_sem, *]; done) | assumption)
  have g2x7 : w2.cell? ⟨(w.heap.size + 1), 3, none⟩ = some (.int .i64 (29)) := (hc2 _ _ (by first | omega | (simp; done) | (simp; omega))).trans (by first | (with_reducible assumption) | (simp [go_sem]; done) | (simp [go_sem, *]; done) | assumption)
  have g2x8 : w2.cell? ⟨w1.heap.size, 0, none⟩ = some (.int .i64 (1)) := (hc2 _ _ (by first | omega | (simp; done) | (simp; omega))).trans (by first | (with_reducible assumption) | (simp [go_sem]; done) | (simp [go_sem, *]; done) | assumption)
  have g2x9 : w2.cell? ⟨w1.heap.size, 1, none⟩ = some (.int .i64 (0)) := (hc2 _ _ (by first | omega | (simp; done) | (simp; omega))).trans (by first | (with_reducible assumption) | (simp [go_sem]; done) | (simp [go_sem, *]; done) | assumption)
  have g2x10 : w2.cell? ⟨w1.heap.size, 2, none⟩ = some (.int .i64 (0)) := (hc2 _ _ (by first | omega | (simp; done) | (simp; omega))).trans (by first | (with_reducible assumption) | (simp [go_sem]; done) | (simp [go_sem, *]; done) | assumption)
  have g2x11 : w2.cell? ⟨w1.heap.size, 3, none⟩ = some (.int .i64 (0)) := (hc2 _ _ (by first | omega | (simp; done) | (simp; omega))).trans (by first | (with_reducible assumption) | (simp [go_sem]; done) | (simp [go_sem, *]; done) | assumption)
  go_wp2_with fail
  go_ret
  refine ⟨by first | rfl | (simp [*]; done), ?_⟩
  repeat (first | (with_reducible exact Below.refl _ _) | (with_reducible assumption) | (with_reducible refine bdrew ?_) | (with_reducible refine baa ?_ _) | (with_reducible refine bs ?_ (by first | exact Nat.le_refl _ | omega | (simp; done) | (simp; omega)) _) | (with_reducible refine bt ?_ (by with_reducible assumption)))
end Go.Proofs.YtafenpgafmdenaaGreatDoor
