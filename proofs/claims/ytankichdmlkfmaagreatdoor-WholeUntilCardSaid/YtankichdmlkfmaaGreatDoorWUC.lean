import Derived.Test.YtankichdmlkfmaaGreatDoorWUB
import Derived.RegionTactic
import Derived.IntWalk
set_option maxHeartbeats 8000000
set_option maxRecDepth 100000
set_option linter.unusedVariables false
section
namespace Go.Proofs.YtankichdmlkfmaaGreatDoor
open Go.ChangeShapes Go.WideShapes Go.ChangeAt Go.RowKit
def SpaAt (w : World) (r : Nat) (a b c q : Int) : Prop := w.cell? ⟨r, 0, none⟩ = some (.int .i64 a) ∧ w.cell? ⟨r, 1, none⟩ = some (.int .i64 b) ∧ w.cell? ⟨r, 2, none⟩ = some (.int .i64 c) ∧ w.cell? ⟨r, 3, none⟩ = some (.int .i64 q) ∧ (∀ i, w.frozen? ⟨r, i, none⟩ = false) ∧ r < w.heap.size
theorem spa_below {w w' : World} {g : Nat} {a b c q : Int} (h : SpaAt w g a b c q) (hb : Below w.heap.size w w') : SpaAt w' g a b c q := by
 obtain ⟨h0, h1, h2, h3, hf, hs⟩ := h
 have c := fun i => hb.cell (p := ⟨g, i, none⟩) hs
 exact ⟨(c 0).trans h0, (c 1).trans h1, (c 2).trans h2, (c 3).trans h3, fun i => (hb.frozen (p := ⟨g, i, none⟩) hs).trans (hf i), Nat.lt_of_lt_of_le hs hb.size⟩
theorem spa_but {w w' : World} {g g' : Nat} {a b c q : Int} (h : SpaAt w g a b c q) (hb : But g' w w') (hg : g ≠ g') : SpaAt w' g a b c q := by
 obtain ⟨h0, h1, h2, h3, hf, hs⟩ := h
 have c := fun i => hb.cell (k := g) (o := i) hs hg
 exact ⟨(c 0).trans h0, (c 1).trans h1, (c 2).trans h2, (c 3).trans h3, fun i => (hb.frozen (k := g) (o := i) hs hg).trans (hf i), Nat.lt_of_lt_of_le hs hb.size⟩
theorem until_Date_err3 (y n : Int) (l : Bool) (d z k : Int) (h : Bool) (f : Int) (sv ev : Int) (w : World) (hT : Tab w 7 kevCells) (hL : Tab w 6 lenCells) (HS : Hid (∀ w : World, Tab w 7 kevCells → Tab w 6 lenCells → Calls Tryo.prog 45 #[.agg #[.int .i64 (y), .int .i64 (n), .bool (l), .int .i64 (d)], .agg #[.int .i64 (z), .int .i64 (k), .bool (h), .int .i64 (f)], .int .i64 3] w fun e w' => e = .returned (.agg #[.int .i64 y, .int .i64 n, .bool l, .int .i64 d, .int .i64 z, .int .i64 k, .bool h, .int .i64 f, .int .i64 (sv), .int .i64 (0), .int .i64 (0), .int .i64 (0), .int .i64 (0), .int .i64 (ev)]) ∧ Below w.heap.size w w')) (hne : ¬ ev = 0) :
  Calls Tryo.prog 17 #[.agg #[.int .i64 (y), .int .i64 (n), .bool (l), .int .i64 (d)], .agg #[.int .i64 (z), .int .i64 (k), .bool (h), .int .i64 (f)], .int .i64 3] w fun e w' => e = .returned (.tuple #[.agg #[.int .i64 (0), .int .i64 (0), .int .i64 (0), .int .i64 (0)], .int .i64 (ev)]) ∧ Below w.heap.size w w' := by
 have hne2 : (ev != 0) = true := by simpa using hne
 have hw1 := hT.lt
 have hw2 := hL.lt
 go_enter Tryo.func17, Tryz.ntmps17
 go_wp2_with fail
 refine settleC (fun W => SpaAt W (w.heap.size + 1 + 1) 0 0 0 0 ∧ Below w.heap.size w W) ⟨⟨by simp [go_sem], by simp [go_sem], by simp [go_sem], by simp [go_sem], fun i => by simp [go_sem], by simp⟩, bel⟩ ?_
 rintro W0 ⟨hR0, hB0⟩
 refine (HS.out _ (Tab.below hT hB0) (Tab.below hL hB0)).mono ?_
 rintro e w1 ⟨rfl, hb1⟩
 have hR1 := spa_below hR0 hb1
 have hB1 := bt hB0 hb1
 go_wp2_with fail
 refine settleC (fun W => WayAt W w1.heap.size y n l d z k h f (sv) 0 0 0 0 (ev) ∧ SpaAt W (w.heap.size + 1 + 1) 0 0 0 0 ∧ Below w.heap.size w W) ⟨?_, spa_below hR1 bel, bt hB1 bel⟩ ?_
 ·first | exact way_alloc w1 y n l d z k h f (sv) 0 0 0 0 (ev) 89 | exact way_set13 (way_set12 (way_set11 (way_set10 (way_set9 (way_set8 (way_set7 (way_set6 (way_set5 (way_set4 (way_set3 (way_set2 (way_set1 (way_set0 (way_alloc w1 0 0 false 0 0 0 false 0 0 0 0 0 0 0 89) _) _) _) _) _) _) _) _) _) _) _) _) _) _
 rintro W2 ⟨hP2, hR2, hB2⟩
 have hg : w.heap.size + 1 + 1 < w1.heap.size := hR1.2.2.2.2.2
 have hT2 := Tab.below hT hB2
 have hL2 := Tab.below hL hB2
 clear hR0 hB0 hR1 hB1 hb1
 refine (way_years_err y n l d z k h f sv 0 0 0 0 ev hne w1.heap.size _ hP2).mono ?_
 rintro e W3 ⟨rfl, hP3, hU3⟩
 have hR3 := spa_but hR2 hU3 (by omega)
 have hB3 := hU3.below hB2 (by omega)
 have hT3 := But.tab hT2 hU3 (by omega)
 have hL3 := But.tab hL2 hU3 (by omega)
 go_wp2_with fail
 refine (way_months_err y n l d z k h f sv 0 0 0 0 ev hne w1.heap.size _ hP3).mono ?_
 rintro e W4 ⟨rfl, hP4, hU4⟩
 have hR4 := spa_but hR3 hU4 (by omega)
 have hB4 := hU4.below hB3 (by omega)
 have hT4 := But.tab hT3 hU4 (by omega)
 have hL4 := But.tab hL3 hU4 (by omega)
 go_wp2_with fail
 refine (way_days_err y n l d z k h f sv 0 0 0 0 ev hne w1.heap.size _ hP4).mono ?_
 rintro e W5 ⟨rfl, hP5, hU5⟩
 have hR5 := spa_but hR4 hU5 (by omega)
 have hB5 := hU5.below hB4 (by omega)
 have hT5 := But.tab hT4 hU5 (by omega)
 have hL5 := But.tab hL4 hU5 (by omega)
 have hq := hP5
 obtain ⟨x0, x1, x2, x3, x4, x5, x6, x7, x8, x9, x10, x11, x12, x13, xf, xs⟩ := hq
 have hq := hR5
 obtain ⟨r0, r1, r2, r3, rf, rs⟩ := hq
 go_wp2_with fail
 go_region
 all_goals go_wp2_with fail
 all_goals refine bodyPost_ret (v := .tuple #[.agg #[.int .i64 (0), .int .i64 (0), .int .i64 (0), .int .i64 (0)], .int .i64 (ev)]) (by simp [results, Tryz.results17, go_sem, *]) rfl ⟨rfl, ?_⟩
 all_goals repeat (first | (with_reducible assumption) | (with_reducible refine bdrew ?_) | (with_reducible refine bs ?_ (show w.heap.size ≤ w.heap.size + 1 + 1 by omega) _))
theorem until_Date_err2 (y n : Int) (l : Bool) (d z k : Int) (h : Bool) (f : Int) (sv ev : Int) (w : World) (hT : Tab w 7 kevCells) (hL : Tab w 6 lenCells) (HS : Hid (∀ w : World, Tab w 7 kevCells → Tab w 6 lenCells → Calls Tryo.prog 45 #[.agg #[.int .i64 (y), .int .i64 (n), .bool (l), .int .i64 (d)], .agg #[.int .i64 (z), .int .i64 (k), .bool (h), .int .i64 (f)], .int .i64 2] w fun e w' => e = .returned (.agg #[.int .i64 y, .int .i64 n, .bool l, .int .i64 d, .int .i64 z, .int .i64 k, .bool h, .int .i64 f, .int .i64 (sv), .int .i64 (0), .int .i64 (0), .int .i64 (0), .int .i64 (0), .int .i64 (ev)]) ∧ Below w.heap.size w w')) (hne : ¬ ev = 0) :
  Calls Tryo.prog 17 #[.agg #[.int .i64 (y), .int .i64 (n), .bool (l), .int .i64 (d)], .agg #[.int .i64 (z), .int .i64 (k), .bool (h), .int .i64 (f)], .int .i64 2] w fun e w' => e = .returned (.tuple #[.agg #[.int .i64 (0), .int .i64 (0), .int .i64 (0), .int .i64 (0)], .int .i64 (ev)]) ∧ Below w.heap.size w w' := by
 have hne2 : (ev != 0) = true := by simpa using hne
 have hw1 := hT.lt
 have hw2 := hL.lt
 go_enter Tryo.func17, Tryz.ntmps17
 go_wp2_with fail
 refine settleC (fun W => SpaAt W (w.heap.size + 1 + 1) 0 0 0 0 ∧ Below w.heap.size w W) ⟨⟨by simp [go_sem], by simp [go_sem], by simp [go_sem], by simp [go_sem], fun i => by simp [go_sem], by simp⟩, bel⟩ ?_
 rintro W0 ⟨hR0, hB0⟩
 refine (HS.out _ (Tab.below hT hB0) (Tab.below hL hB0)).mono ?_
 rintro e w1 ⟨rfl, hb1⟩
 have hR1 := spa_below hR0 hb1
 have hB1 := bt hB0 hb1
 go_wp2_with fail
 refine settleC (fun W => WayAt W w1.heap.size y n l d z k h f (sv) 0 0 0 0 (ev) ∧ SpaAt W (w.heap.size + 1 + 1) 0 0 0 0 ∧ Below w.heap.size w W) ⟨?_, spa_below hR1 bel, bt hB1 bel⟩ ?_
 ·first | exact way_alloc w1 y n l d z k h f (sv) 0 0 0 0 (ev) 89 | exact way_set13 (way_set12 (way_set11 (way_set10 (way_set9 (way_set8 (way_set7 (way_set6 (way_set5 (way_set4 (way_set3 (way_set2 (way_set1 (way_set0 (way_alloc w1 0 0 false 0 0 0 false 0 0 0 0 0 0 0 89) _) _) _) _) _) _) _) _) _) _) _) _) _) _
 rintro W2 ⟨hP2, hR2, hB2⟩
 have hg : w.heap.size + 1 + 1 < w1.heap.size := hR1.2.2.2.2.2
 have hT2 := Tab.below hT hB2
 have hL2 := Tab.below hL hB2
 clear hR0 hB0 hR1 hB1 hb1
 refine (way_months_err y n l d z k h f sv 0 0 0 0 ev hne w1.heap.size _ hP2).mono ?_
 rintro e W3 ⟨rfl, hP3, hU3⟩
 have hR3 := spa_but hR2 hU3 (by omega)
 have hB3 := hU3.below hB2 (by omega)
 have hT3 := But.tab hT2 hU3 (by omega)
 have hL3 := But.tab hL2 hU3 (by omega)
 go_wp2_with fail
 refine (way_days_err y n l d z k h f sv 0 0 0 0 ev hne w1.heap.size _ hP3).mono ?_
 rintro e W4 ⟨rfl, hP4, hU4⟩
 have hR4 := spa_but hR3 hU4 (by omega)
 have hB4 := hU4.below hB3 (by omega)
 have hT4 := But.tab hT3 hU4 (by omega)
 have hL4 := But.tab hL3 hU4 (by omega)
 have hq := hP4
 obtain ⟨x0, x1, x2, x3, x4, x5, x6, x7, x8, x9, x10, x11, x12, x13, xf, xs⟩ := hq
 have hq := hR4
 obtain ⟨r0, r1, r2, r3, rf, rs⟩ := hq
 go_wp2_with fail
 go_region
 all_goals go_wp2_with fail
 all_goals refine bodyPost_ret (v := .tuple #[.agg #[.int .i64 (0), .int .i64 (0), .int .i64 (0), .int .i64 (0)], .int .i64 (ev)]) (by simp [results, Tryz.results17, go_sem, *]) rfl ⟨rfl, ?_⟩
 all_goals repeat (first | (with_reducible assumption) | (with_reducible refine bdrew ?_) | (with_reducible refine bs ?_ (show w.heap.size ≤ w.heap.size + 1 + 1 by omega) _))
theorem until_Date_err1 (y n : Int) (l : Bool) (d z k : Int) (h : Bool) (f : Int) (sv ev : Int) (w : World) (hT : Tab w 7 kevCells) (hL : Tab w 6 lenCells) (HS : Hid (∀ w : World, Tab w 7 kevCells → Tab w 6 lenCells → Calls Tryo.prog 45 #[.agg #[.int .i64 (y), .int .i64 (n), .bool (l), .int .i64 (d)], .agg #[.int .i64 (z), .int .i64 (k), .bool (h), .int .i64 (f)], .int .i64 1] w fun e w' => e = .returned (.agg #[.int .i64 y, .int .i64 n, .bool l, .int .i64 d, .int .i64 z, .int .i64 k, .bool h, .int .i64 f, .int .i64 (sv), .int .i64 (0), .int .i64 (0), .int .i64 (0), .int .i64 (0), .int .i64 (ev)]) ∧ Below w.heap.size w w')) (hne : ¬ ev = 0) :
  Calls Tryo.prog 17 #[.agg #[.int .i64 (y), .int .i64 (n), .bool (l), .int .i64 (d)], .agg #[.int .i64 (z), .int .i64 (k), .bool (h), .int .i64 (f)], .int .i64 1] w fun e w' => e = .returned (.tuple #[.agg #[.int .i64 (0), .int .i64 (0), .int .i64 (0), .int .i64 (0)], .int .i64 (ev)]) ∧ Below w.heap.size w w' := by
 have hne2 : (ev != 0) = true := by simpa using hne
 have hw1 := hT.lt
 have hw2 := hL.lt
 go_enter Tryo.func17, Tryz.ntmps17
 go_wp2_with fail
 refine settleC (fun W => SpaAt W (w.heap.size + 1 + 1) 0 0 0 0 ∧ Below w.heap.size w W) ⟨⟨by simp [go_sem], by simp [go_sem], by simp [go_sem], by simp [go_sem], fun i => by simp [go_sem], by simp⟩, bel⟩ ?_
 rintro W0 ⟨hR0, hB0⟩
 refine (HS.out _ (Tab.below hT hB0) (Tab.below hL hB0)).mono ?_
 rintro e w1 ⟨rfl, hb1⟩
 have hR1 := spa_below hR0 hb1
 have hB1 := bt hB0 hb1
 go_wp2_with fail
 refine settleC (fun W => WayAt W w1.heap.size y n l d z k h f (sv) 0 0 0 0 (ev) ∧ SpaAt W (w.heap.size + 1 + 1) 0 0 0 0 ∧ Below w.heap.size w W) ⟨?_, spa_below hR1 bel, bt hB1 bel⟩ ?_
 ·first | exact way_alloc w1 y n l d z k h f (sv) 0 0 0 0 (ev) 89 | exact way_set13 (way_set12 (way_set11 (way_set10 (way_set9 (way_set8 (way_set7 (way_set6 (way_set5 (way_set4 (way_set3 (way_set2 (way_set1 (way_set0 (way_alloc w1 0 0 false 0 0 0 false 0 0 0 0 0 0 0 89) _) _) _) _) _) _) _) _) _) _) _) _) _) _
 rintro W2 ⟨hP2, hR2, hB2⟩
 have hg : w.heap.size + 1 + 1 < w1.heap.size := hR1.2.2.2.2.2
 have hT2 := Tab.below hT hB2
 have hL2 := Tab.below hL hB2
 clear hR0 hB0 hR1 hB1 hb1
 refine (way_days_err y n l d z k h f sv 0 0 0 0 ev hne w1.heap.size _ hP2).mono ?_
 rintro e W3 ⟨rfl, hP3, hU3⟩
 have hR3 := spa_but hR2 hU3 (by omega)
 have hB3 := hU3.below hB2 (by omega)
 have hT3 := But.tab hT2 hU3 (by omega)
 have hL3 := But.tab hL2 hU3 (by omega)
 go_wp2_with fail
 refine (way_weeks_err y n l d z k h f sv 0 0 0 0 ev hne w1.heap.size _ hP3).mono ?_
 rintro e W4 ⟨rfl, hP4, hU4⟩
 have hR4 := spa_but hR3 hU4 (by omega)
 have hB4 := hU4.below hB3 (by omega)
 have hT4 := But.tab hT3 hU4 (by omega)
 have hL4 := But.tab hL3 hU4 (by omega)
 have hq := hP4
 obtain ⟨x0, x1, x2, x3, x4, x5, x6, x7, x8, x9, x10, x11, x12, x13, xf, xs⟩ := hq
 have hq := hR4
 obtain ⟨r0, r1, r2, r3, rf, rs⟩ := hq
 go_wp2_with fail
 go_region
 all_goals go_wp2_with fail
 all_goals refine bodyPost_ret (v := .tuple #[.agg #[.int .i64 (0), .int .i64 (0), .int .i64 (0), .int .i64 (0)], .int .i64 (ev)]) (by simp [results, Tryz.results17, go_sem, *]) rfl ⟨rfl, ?_⟩
 all_goals repeat (first | (with_reducible assumption) | (with_reducible refine bdrew ?_) | (with_reducible refine bs ?_ (show w.heap.size ≤ w.heap.size + 1 + 1 by omega) _))
theorem until_Date_err0 (y n : Int) (l : Bool) (d z k : Int) (h : Bool) (f : Int) (sv ev : Int) (w : World) (hT : Tab w 7 kevCells) (hL : Tab w 6 lenCells) (HS : Hid (∀ w : World, Tab w 7 kevCells → Tab w 6 lenCells → Calls Tryo.prog 45 #[.agg #[.int .i64 (y), .int .i64 (n), .bool (l), .int .i64 (d)], .agg #[.int .i64 (z), .int .i64 (k), .bool (h), .int .i64 (f)], .int .i64 0] w fun e w' => e = .returned (.agg #[.int .i64 y, .int .i64 n, .bool l, .int .i64 d, .int .i64 z, .int .i64 k, .bool h, .int .i64 f, .int .i64 (sv), .int .i64 (0), .int .i64 (0), .int .i64 (0), .int .i64 (0), .int .i64 (ev)]) ∧ Below w.heap.size w w')) (hne : ¬ ev = 0) :
  Calls Tryo.prog 17 #[.agg #[.int .i64 (y), .int .i64 (n), .bool (l), .int .i64 (d)], .agg #[.int .i64 (z), .int .i64 (k), .bool (h), .int .i64 (f)], .int .i64 0] w fun e w' => e = .returned (.tuple #[.agg #[.int .i64 (0), .int .i64 (0), .int .i64 (0), .int .i64 (0)], .int .i64 (ev)]) ∧ Below w.heap.size w w' := by
 have hne2 : (ev != 0) = true := by simpa using hne
 have hw1 := hT.lt
 have hw2 := hL.lt
 go_enter Tryo.func17, Tryz.ntmps17
 go_wp2_with fail
 refine settleC (fun W => SpaAt W (w.heap.size + 1 + 1) 0 0 0 0 ∧ Below w.heap.size w W) ⟨⟨by simp [go_sem], by simp [go_sem], by simp [go_sem], by simp [go_sem], fun i => by simp [go_sem], by simp⟩, bel⟩ ?_
 rintro W0 ⟨hR0, hB0⟩
 refine (HS.out _ (Tab.below hT hB0) (Tab.below hL hB0)).mono ?_
 rintro e w1 ⟨rfl, hb1⟩
 have hR1 := spa_below hR0 hb1
 have hB1 := bt hB0 hb1
 go_wp2_with fail
 refine settleC (fun W => WayAt W w1.heap.size y n l d z k h f (sv) 0 0 0 0 (ev) ∧ SpaAt W (w.heap.size + 1 + 1) 0 0 0 0 ∧ Below w.heap.size w W) ⟨?_, spa_below hR1 bel, bt hB1 bel⟩ ?_
 ·first | exact way_alloc w1 y n l d z k h f (sv) 0 0 0 0 (ev) 89 | exact way_set13 (way_set12 (way_set11 (way_set10 (way_set9 (way_set8 (way_set7 (way_set6 (way_set5 (way_set4 (way_set3 (way_set2 (way_set1 (way_set0 (way_alloc w1 0 0 false 0 0 0 false 0 0 0 0 0 0 0 89) _) _) _) _) _) _) _) _) _) _) _) _) _) _
 rintro W2 ⟨hP2, hR2, hB2⟩
 have hg : w.heap.size + 1 + 1 < w1.heap.size := hR1.2.2.2.2.2
 have hT2 := Tab.below hT hB2
 have hL2 := Tab.below hL hB2
 clear hR0 hB0 hR1 hB1 hb1
 refine (way_days_err y n l d z k h f sv 0 0 0 0 ev hne w1.heap.size _ hP2).mono ?_
 rintro e W3 ⟨rfl, hP3, hU3⟩
 have hR3 := spa_but hR2 hU3 (by omega)
 have hB3 := hU3.below hB2 (by omega)
 have hT3 := But.tab hT2 hU3 (by omega)
 have hL3 := But.tab hL2 hU3 (by omega)
 have hq := hP3
 obtain ⟨x0, x1, x2, x3, x4, x5, x6, x7, x8, x9, x10, x11, x12, x13, xf, xs⟩ := hq
 have hq := hR3
 obtain ⟨r0, r1, r2, r3, rf, rs⟩ := hq
 go_wp2_with fail
 go_region
 all_goals go_wp2_with fail
 all_goals refine bodyPost_ret (v := .tuple #[.agg #[.int .i64 (0), .int .i64 (0), .int .i64 (0), .int .i64 (0)], .int .i64 (ev)]) (by simp [results, Tryz.results17, go_sem, *]) rfl ⟨rfl, ?_⟩
 all_goals repeat (first | (with_reducible assumption) | (with_reducible refine bdrew ?_) | (with_reducible refine bs ?_ (show w.heap.size ≤ w.heap.size + 1 + 1 by omega) _))
theorem until_Date_errb (y n : Int) (l : Bool) (d z k : Int) (h : Bool) (f : Int) (sv ev : Int) (unit : Int) (w : World) (hT : Tab w 7 kevCells) (hL : Tab w 6 lenCells) (HS : Hid (∀ w : World, Tab w 7 kevCells → Tab w 6 lenCells → Calls Tryo.prog 45 #[.agg #[.int .i64 (y), .int .i64 (n), .bool (l), .int .i64 (d)], .agg #[.int .i64 (z), .int .i64 (k), .bool (h), .int .i64 (f)], .int .i64 unit] w fun e w' => e = .returned (.agg #[.int .i64 y, .int .i64 n, .bool l, .int .i64 d, .int .i64 z, .int .i64 k, .bool h, .int .i64 f, .int .i64 (sv), .int .i64 (0), .int .i64 (0), .int .i64 (0), .int .i64 (0), .int .i64 (ev)]) ∧ Below w.heap.size w w')) (hne : ¬ ev = 0) (u3 : (unit == 3) = false) (u2 : (unit == 2) = false) (u1 : (unit == 1) = false) :
  Calls Tryo.prog 17 #[.agg #[.int .i64 (y), .int .i64 (n), .bool (l), .int .i64 (d)], .agg #[.int .i64 (z), .int .i64 (k), .bool (h), .int .i64 (f)], .int .i64 unit] w fun e w' => e = .returned (.tuple #[.agg #[.int .i64 (0), .int .i64 (0), .int .i64 (0), .int .i64 (0)], .int .i64 (ev)]) ∧ Below w.heap.size w w' := by
 have hne2 : (ev != 0) = true := by simpa using hne
 have hw1 := hT.lt
 have hw2 := hL.lt
 go_enter Tryo.func17, Tryz.ntmps17
 go_wp2_with fail
 refine settleC (fun W => SpaAt W (w.heap.size + 1 + 1) 0 0 0 0 ∧ Below w.heap.size w W) ⟨⟨by simp [go_sem], by simp [go_sem], by simp [go_sem], by simp [go_sem], fun i => by simp [go_sem], by simp⟩, bel⟩ ?_
 rintro W0 ⟨hR0, hB0⟩
 refine (HS.out _ (Tab.below hT hB0) (Tab.below hL hB0)).mono ?_
 rintro e w1 ⟨rfl, hb1⟩
 have hR1 := spa_below hR0 hb1
 have hB1 := bt hB0 hb1
 go_wp2_with fail
 refine settleC (fun W => WayAt W w1.heap.size y n l d z k h f (sv) 0 0 0 0 (ev) ∧ SpaAt W (w.heap.size + 1 + 1) 0 0 0 0 ∧ Below w.heap.size w W) ⟨?_, spa_below hR1 bel, bt hB1 bel⟩ ?_
 ·first | exact way_alloc w1 y n l d z k h f (sv) 0 0 0 0 (ev) 89 | exact way_set13 (way_set12 (way_set11 (way_set10 (way_set9 (way_set8 (way_set7 (way_set6 (way_set5 (way_set4 (way_set3 (way_set2 (way_set1 (way_set0 (way_alloc w1 0 0 false 0 0 0 false 0 0 0 0 0 0 0 89) _) _) _) _) _) _) _) _) _) _) _) _) _) _
 rintro W2 ⟨hP2, hR2, hB2⟩
 have hg : w.heap.size + 1 + 1 < w1.heap.size := hR1.2.2.2.2.2
 have hT2 := Tab.below hT hB2
 have hL2 := Tab.below hL hB2
 clear hR0 hB0 hR1 hB1 hb1
 refine (way_days_err y n l d z k h f sv 0 0 0 0 ev hne w1.heap.size _ hP2).mono ?_
 rintro e W3 ⟨rfl, hP3, hU3⟩
 have hR3 := spa_but hR2 hU3 (by omega)
 have hB3 := hU3.below hB2 (by omega)
 have hT3 := But.tab hT2 hU3 (by omega)
 have hL3 := But.tab hL2 hU3 (by omega)
 have hq := hP3
 obtain ⟨x0, x1, x2, x3, x4, x5, x6, x7, x8, x9, x10, x11, x12, x13, xf, xs⟩ := hq
 have hq := hR3
 obtain ⟨r0, r1, r2, r3, rf, rs⟩ := hq
 go_wp2_with fail
 go_region
 all_goals go_wp2_with fail
 all_goals refine bodyPost_ret (v := .tuple #[.agg #[.int .i64 (0), .int .i64 (0), .int .i64 (0), .int .i64 (0)], .int .i64 (ev)]) (by simp [results, Tryz.results17, go_sem, *]) rfl ⟨rfl, ?_⟩
 all_goals repeat (first | (with_reducible assumption) | (with_reducible refine bdrew ?_) | (with_reducible refine bs ?_ (show w.heap.size ≤ w.heap.size + 1 + 1 by omega) _))
theorem until_Date_u0 (y n : Int) (l : Bool) (d z k : Int) (h : Bool) (f : Int) (ry rn : Int) (rl : Bool) (rd D1 D2 s : Int) (w : World) (hT : Tab w 7 kevCells) (hL : Tab w 6 lenCells) (HS : Hid (∀ w : World, Tab w 7 kevCells → Tab w 6 lenCells → Calls Tryo.prog 45 #[.agg #[.int .i64 (y), .int .i64 (n), .bool (l), .int .i64 (d)], .agg #[.int .i64 (z), .int .i64 (k), .bool (h), .int .i64 (f)], .int .i64 0] w fun e w' => e = .returned (.agg #[.int .i64 y, .int .i64 n, .bool l, .int .i64 d, .int .i64 z, .int .i64 k, .bool h, .int .i64 f, .int .i64 (s), .int .i64 (0), .int .i64 (0), .int .i64 (0), .int .i64 (0), .int .i64 (0)]) ∧ Below w.heap.size w w')) (HA : Hid (∀ w : World, Tab w 7 kevCells → Tab w 6 lenCells → Calls Tryo.prog 20 #[.agg #[.int .i64 (y), .int .i64 (n), .bool (l), .int .i64 (d)], .agg #[.int .i64 (0), .int .i64 (0), .int .i64 (0), .int .i64 (0)], .int .i64 0] w fun e w' => e = .returned (.tuple #[.agg #[.int .i64 (ry), .int .i64 (rn), .bool (rl), .int .i64 (rd)], .int .i64 (0)]) ∧ Below w.heap.size w w')) (HX : Hid (∀ w : World, Tab w 7 kevCells → Tab w 6 lenCells → Calls Tryo.prog 18 #[.agg #[.int .i64 (ry), .int .i64 (rn), .bool (rl), .int .i64 (rd)]] w fun e w' => e = .returned (.tuple #[.int .i64 (D1), .int .i64 0]) ∧ Below w.heap.size w w')) (HY : Hid (∀ w : World, Tab w 7 kevCells → Tab w 6 lenCells → Calls Tryo.prog 18 #[.agg #[.int .i64 (z), .int .i64 (k), .bool (h), .int .i64 (f)]] w fun e w' => e = .returned (.tuple #[.int .i64 (D2), .int .i64 0]) ∧ Below w.heap.size w w')) (h1 : -3000000 ≤ D1 ∧ D1 ≤ 3000000) (h2 : -3000000 ≤ D2 ∧ D2 ≤ 3000000) :
  Calls Tryo.prog 17 #[.agg #[.int .i64 (y), .int .i64 (n), .bool (l), .int .i64 (d)], .agg #[.int .i64 (z), .int .i64 (k), .bool (h), .int .i64 (f)], .int .i64 0] w fun e w' => e = .returned (.tuple #[.agg #[.int .i64 (0), .int .i64 (0), .int .i64 (0), .int .i64 (D2 - D1)], .int .i64 (0)]) ∧ Below w.heap.size w w' := by
 obtain ⟨h11, h12⟩ := h1
 obtain ⟨h21, h22⟩ := h2
 have hw1 := hT.lt
 have hw2 := hL.lt
 go_enter Tryo.func17, Tryz.ntmps17
 go_wp2_with fail
 refine settleC (fun W => SpaAt W (w.heap.size + 1 + 1) 0 0 0 0 ∧ Below w.heap.size w W) ⟨⟨by simp [go_sem], by simp [go_sem], by simp [go_sem], by simp [go_sem], fun i => by simp [go_sem], by simp⟩, bel⟩ ?_
 rintro W0 ⟨hR0, hB0⟩
 refine (HS.out _ (Tab.below hT hB0) (Tab.below hL hB0)).mono ?_
 rintro e w1 ⟨rfl, hb1⟩
 have hR1 := spa_below hR0 hb1
 have hB1 := bt hB0 hb1
 go_wp2_with fail
 refine settleC (fun W => WayAt W w1.heap.size y n l d z k h f (s) 0 0 0 0 (0) ∧ SpaAt W (w.heap.size + 1 + 1) 0 0 0 0 ∧ Below w.heap.size w W) ⟨?_, spa_below hR1 bel, bt hB1 bel⟩ ?_
 ·first | exact way_alloc w1 y n l d z k h f (s) 0 0 0 0 (0) 89 | exact way_set13 (way_set12 (way_set11 (way_set10 (way_set9 (way_set8 (way_set7 (way_set6 (way_set5 (way_set4 (way_set3 (way_set2 (way_set1 (way_set0 (way_alloc w1 0 0 false 0 0 0 false 0 0 0 0 0 0 0 89) _) _) _) _) _) _) _) _) _) _) _) _) _) _
 rintro W2 ⟨hP2, hR2, hB2⟩
 have hg : w.heap.size + 1 + 1 < w1.heap.size := hR1.2.2.2.2.2
 have hT2 := Tab.below hT hB2
 have hL2 := Tab.below hL hB2
 clear hR0 hB0 hR1 hB1 hb1
 refine (way_days_go y n l d z k h f s 0 0 0 0 0 ry rn rl rd D1 D2 w1.heap.size _ hT2 hL2 HA HX HY ⟨by omega, by omega⟩ ⟨by omega, by omega⟩ hP2).mono ?_
 rintro e W3 ⟨rfl, hP3, hU3⟩
 have hR3 := spa_but hR2 hU3 (by omega)
 have hB3 := hU3.below hB2 (by omega)
 have hT3 := But.tab hT2 hU3 (by omega)
 have hL3 := But.tab hL2 hU3 (by omega)
 have hq := hP3
 obtain ⟨x0, x1, x2, x3, x4, x5, x6, x7, x8, x9, x10, x11, x12, x13, xf, xs⟩ := hq
 have hq := hR3
 obtain ⟨r0, r1, r2, r3, rf, rs⟩ := hq
 go_wp2_with fail
 refine bodyPost_ret (v := .tuple #[.agg #[.int .i64 (0), .int .i64 (0), .int .i64 (0), .int .i64 (D2 - D1)], .int .i64 (0)]) (by simp [results, Tryz.results17, go_sem, *]) rfl ⟨rfl, ?_⟩
 iterate 4 refine Below.setCell ?_ (show w.heap.size ≤ w.heap.size + 1 + 1 by omega) _
 exact hB3
theorem until_Date_u1 (y n : Int) (l : Bool) (d z k : Int) (h : Bool) (f : Int) (ry rn : Int) (rl : Bool) (rd D1 D2 s : Int) (w : World) (hT : Tab w 7 kevCells) (hL : Tab w 6 lenCells) (HS : Hid (∀ w : World, Tab w 7 kevCells → Tab w 6 lenCells → Calls Tryo.prog 45 #[.agg #[.int .i64 (y), .int .i64 (n), .bool (l), .int .i64 (d)], .agg #[.int .i64 (z), .int .i64 (k), .bool (h), .int .i64 (f)], .int .i64 1] w fun e w' => e = .returned (.agg #[.int .i64 y, .int .i64 n, .bool l, .int .i64 d, .int .i64 z, .int .i64 k, .bool h, .int .i64 f, .int .i64 (s), .int .i64 (0), .int .i64 (0), .int .i64 (0), .int .i64 (0), .int .i64 (0)]) ∧ Below w.heap.size w w')) (HA : Hid (∀ w : World, Tab w 7 kevCells → Tab w 6 lenCells → Calls Tryo.prog 20 #[.agg #[.int .i64 (y), .int .i64 (n), .bool (l), .int .i64 (d)], .agg #[.int .i64 (0), .int .i64 (0), .int .i64 (0), .int .i64 (0)], .int .i64 0] w fun e w' => e = .returned (.tuple #[.agg #[.int .i64 (ry), .int .i64 (rn), .bool (rl), .int .i64 (rd)], .int .i64 (0)]) ∧ Below w.heap.size w w')) (HX : Hid (∀ w : World, Tab w 7 kevCells → Tab w 6 lenCells → Calls Tryo.prog 18 #[.agg #[.int .i64 (ry), .int .i64 (rn), .bool (rl), .int .i64 (rd)]] w fun e w' => e = .returned (.tuple #[.int .i64 (D1), .int .i64 0]) ∧ Below w.heap.size w w')) (HY : Hid (∀ w : World, Tab w 7 kevCells → Tab w 6 lenCells → Calls Tryo.prog 18 #[.agg #[.int .i64 (z), .int .i64 (k), .bool (h), .int .i64 (f)]] w fun e w' => e = .returned (.tuple #[.int .i64 (D2), .int .i64 0]) ∧ Below w.heap.size w w')) (h1 : -3000000 ≤ D1 ∧ D1 ≤ 3000000) (h2 : -3000000 ≤ D2 ∧ D2 ≤ 3000000) :
  Calls Tryo.prog 17 #[.agg #[.int .i64 (y), .int .i64 (n), .bool (l), .int .i64 (d)], .agg #[.int .i64 (z), .int .i64 (k), .bool (h), .int .i64 (f)], .int .i64 1] w fun e w' => e = .returned (.tuple #[.agg #[.int .i64 (0), .int .i64 (0), .int .i64 ((D2 - D1).tdiv 7), .int .i64 ((D2 - D1).tmod 7)], .int .i64 (0)]) ∧ Below w.heap.size w w' := by
 obtain ⟨h11, h12⟩ := h1
 obtain ⟨h21, h22⟩ := h2
 have hw1 := hT.lt
 have hw2 := hL.lt
 go_enter Tryo.func17, Tryz.ntmps17
 go_wp2_with fail
 refine settleC (fun W => SpaAt W (w.heap.size + 1 + 1) 0 0 0 0 ∧ Below w.heap.size w W) ⟨⟨by simp [go_sem], by simp [go_sem], by simp [go_sem], by simp [go_sem], fun i => by simp [go_sem], by simp⟩, bel⟩ ?_
 rintro W0 ⟨hR0, hB0⟩
 refine (HS.out _ (Tab.below hT hB0) (Tab.below hL hB0)).mono ?_
 rintro e w1 ⟨rfl, hb1⟩
 have hR1 := spa_below hR0 hb1
 have hB1 := bt hB0 hb1
 go_wp2_with fail
 refine settleC (fun W => WayAt W w1.heap.size y n l d z k h f (s) 0 0 0 0 (0) ∧ SpaAt W (w.heap.size + 1 + 1) 0 0 0 0 ∧ Below w.heap.size w W) ⟨?_, spa_below hR1 bel, bt hB1 bel⟩ ?_
 ·first | exact way_alloc w1 y n l d z k h f (s) 0 0 0 0 (0) 89 | exact way_set13 (way_set12 (way_set11 (way_set10 (way_set9 (way_set8 (way_set7 (way_set6 (way_set5 (way_set4 (way_set3 (way_set2 (way_set1 (way_set0 (way_alloc w1 0 0 false 0 0 0 false 0 0 0 0 0 0 0 89) _) _) _) _) _) _) _) _) _) _) _) _) _) _
 rintro W2 ⟨hP2, hR2, hB2⟩
 have hg : w.heap.size + 1 + 1 < w1.heap.size := hR1.2.2.2.2.2
 have hT2 := Tab.below hT hB2
 have hL2 := Tab.below hL hB2
 clear hR0 hB0 hR1 hB1 hb1
 refine (way_days_go y n l d z k h f s 0 0 0 0 0 ry rn rl rd D1 D2 w1.heap.size _ hT2 hL2 HA HX HY ⟨by omega, by omega⟩ ⟨by omega, by omega⟩ hP2).mono ?_
 rintro e W3 ⟨rfl, hP3, hU3⟩
 have hR3 := spa_but hR2 hU3 (by omega)
 have hB3 := hU3.below hB2 (by omega)
 have hT3 := But.tab hT2 hU3 (by omega)
 have hL3 := But.tab hL2 hU3 (by omega)
 go_wp2_with fail
 refine (way_weeks y n l d z k h f s 0 0 0 (D2 - D1) 0 w1.heap.size _ (by omega) (by omega) hP3).mono ?_
 rintro e W4 ⟨rfl, hP4, hU4⟩
 have hR4 := spa_but hR3 hU4 (by omega)
 have hB4 := hU4.below hB3 (by omega)
 have hT4 := But.tab hT3 hU4 (by omega)
 have hL4 := But.tab hL3 hU4 (by omega)
 have hq := hP4
 obtain ⟨x0, x1, x2, x3, x4, x5, x6, x7, x8, x9, x10, x11, x12, x13, xf, xs⟩ := hq
 have hq := hR4
 obtain ⟨r0, r1, r2, r3, rf, rs⟩ := hq
 go_wp2_with fail
 refine bodyPost_ret (v := .tuple #[.agg #[.int .i64 (0), .int .i64 (0), .int .i64 ((D2 - D1).tdiv 7), .int .i64 ((D2 - D1).tmod 7)], .int .i64 (0)]) (by simp [results, Tryz.results17, go_sem, *]) rfl ⟨rfl, ?_⟩
 iterate 4 refine Below.setCell ?_ (show w.heap.size ≤ w.heap.size + 1 + 1 by omega) _
 exact hB4
theorem until_Date_u2 (y n : Int) (l : Bool) (d z k : Int) (h : Bool) (f : Int) (ry rn : Int) (rl : Bool) (rd D1 D2 s : Int) (K : Nat) (w : World) (hT : Tab w 7 kevCells) (hL : Tab w 6 lenCells) (HS : Hid (∀ w : World, Tab w 7 kevCells → Tab w 6 lenCells → Calls Tryo.prog 45 #[.agg #[.int .i64 (y), .int .i64 (n), .bool (l), .int .i64 (d)], .agg #[.int .i64 (z), .int .i64 (k), .bool (h), .int .i64 (f)], .int .i64 2] w fun e w' => e = .returned (.agg #[.int .i64 y, .int .i64 n, .bool l, .int .i64 d, .int .i64 z, .int .i64 k, .bool h, .int .i64 f, .int .i64 (s), .int .i64 (0), .int .i64 (0), .int .i64 (0), .int .i64 (0), .int .i64 (0)]) ∧ Below w.heap.size w w')) (hy : I64 y) (ht : D10.dateE z k h f = 0) (hs : s = 1 ∨ s = -1) (hk : K ≤ 200000) (md : Hid (∀ i : Nat, i ≤ K → U17.fit y n l d 0 (s * (i : Int)) s (D10.dayV z k h f) = true)) (mu : Hid (∀ i : Nat, K < i → U17.fit y n l d 0 (s * (i : Int)) s (D10.dayV z k h f) = false)) (HA : Hid (∀ w : World, Tab w 7 kevCells → Tab w 6 lenCells → Calls Tryo.prog 20 #[.agg #[.int .i64 (y), .int .i64 (n), .bool (l), .int .i64 (d)], .agg #[.int .i64 (0), .int .i64 (s * (K : Int)), .int .i64 (0), .int .i64 (0)], .int .i64 0] w fun e w' => e = .returned (.tuple #[.agg #[.int .i64 (ry), .int .i64 (rn), .bool (rl), .int .i64 (rd)], .int .i64 (0)]) ∧ Below w.heap.size w w')) (HX : Hid (∀ w : World, Tab w 7 kevCells → Tab w 6 lenCells → Calls Tryo.prog 18 #[.agg #[.int .i64 (ry), .int .i64 (rn), .bool (rl), .int .i64 (rd)]] w fun e w' => e = .returned (.tuple #[.int .i64 (D1), .int .i64 0]) ∧ Below w.heap.size w w')) (HY : Hid (∀ w : World, Tab w 7 kevCells → Tab w 6 lenCells → Calls Tryo.prog 18 #[.agg #[.int .i64 (z), .int .i64 (k), .bool (h), .int .i64 (f)]] w fun e w' => e = .returned (.tuple #[.int .i64 (D2), .int .i64 0]) ∧ Below w.heap.size w w')) (h1 : -3000000 ≤ D1 ∧ D1 ≤ 3000000) (h2 : -3000000 ≤ D2 ∧ D2 ≤ 3000000) :
  Calls Tryo.prog 17 #[.agg #[.int .i64 (y), .int .i64 (n), .bool (l), .int .i64 (d)], .agg #[.int .i64 (z), .int .i64 (k), .bool (h), .int .i64 (f)], .int .i64 2] w fun e w' => e = .returned (.tuple #[.agg #[.int .i64 (0), .int .i64 (s * (K : Int)), .int .i64 (0), .int .i64 (D2 - D1)], .int .i64 (0)]) ∧ Below w.heap.size w w' := by
 obtain ⟨h11, h12⟩ := h1
 obtain ⟨h21, h22⟩ := h2
 have hw1 := hT.lt
 have hw2 := hL.lt
 go_enter Tryo.func17, Tryz.ntmps17
 go_wp2_with fail
 refine settleC (fun W => SpaAt W (w.heap.size + 1 + 1) 0 0 0 0 ∧ Below w.heap.size w W) ⟨⟨by simp [go_sem], by simp [go_sem], by simp [go_sem], by simp [go_sem], fun i => by simp [go_sem], by simp⟩, bel⟩ ?_
 rintro W0 ⟨hR0, hB0⟩
 refine (HS.out _ (Tab.below hT hB0) (Tab.below hL hB0)).mono ?_
 rintro e w1 ⟨rfl, hb1⟩
 have hR1 := spa_below hR0 hb1
 have hB1 := bt hB0 hb1
 go_wp2_with fail
 refine settleC (fun W => WayAt W w1.heap.size y n l d z k h f (s) 0 0 0 0 (0) ∧ SpaAt W (w.heap.size + 1 + 1) 0 0 0 0 ∧ Below w.heap.size w W) ⟨?_, spa_below hR1 bel, bt hB1 bel⟩ ?_
 ·first | exact way_alloc w1 y n l d z k h f (s) 0 0 0 0 (0) 89 | exact way_set13 (way_set12 (way_set11 (way_set10 (way_set9 (way_set8 (way_set7 (way_set6 (way_set5 (way_set4 (way_set3 (way_set2 (way_set1 (way_set0 (way_alloc w1 0 0 false 0 0 0 false 0 0 0 0 0 0 0 89) _) _) _) _) _) _) _) _) _) _) _) _) _) _
 rintro W2 ⟨hP2, hR2, hB2⟩
 have hg : w.heap.size + 1 + 1 < w1.heap.size := hR1.2.2.2.2.2
 have hT2 := Tab.below hT hB2
 have hL2 := Tab.below hL hB2
 clear hR0 hB0 hR1 hB1 hb1
 refine (way_months y n l d z k h f s 0 0 0 0 0 K w1.heap.size _ hT2 hL2 hy ht hs hk md.out mu.out hP2).mono ?_
 rintro e W3 ⟨rfl, hP3, hU3⟩
 have hR3 := spa_but hR2 hU3 (by omega)
 have hB3 := hU3.below hB2 (by omega)
 have hT3 := But.tab hT2 hU3 (by omega)
 have hL3 := But.tab hL2 hU3 (by omega)
 go_wp2_with fail
 refine (way_days_go y n l d z k h f s 0 (s * (K : Int)) 0 0 0 ry rn rl rd D1 D2 w1.heap.size _ hT3 hL3 HA HX HY ⟨by omega, by omega⟩ ⟨by omega, by omega⟩ hP3).mono ?_
 rintro e W4 ⟨rfl, hP4, hU4⟩
 have hR4 := spa_but hR3 hU4 (by omega)
 have hB4 := hU4.below hB3 (by omega)
 have hT4 := But.tab hT3 hU4 (by omega)
 have hL4 := But.tab hL3 hU4 (by omega)
 have hq := hP4
 obtain ⟨x0, x1, x2, x3, x4, x5, x6, x7, x8, x9, x10, x11, x12, x13, xf, xs⟩ := hq
 have hq := hR4
 obtain ⟨r0, r1, r2, r3, rf, rs⟩ := hq
 go_wp2_with fail
 refine bodyPost_ret (v := .tuple #[.agg #[.int .i64 (0), .int .i64 (s * (K : Int)), .int .i64 (0), .int .i64 (D2 - D1)], .int .i64 (0)]) (by simp [results, Tryz.results17, go_sem, *]) rfl ⟨rfl, ?_⟩
 iterate 4 refine Below.setCell ?_ (show w.heap.size ≤ w.heap.size + 1 + 1 by omega) _
 exact hB4
theorem until_Date_u3 (y n : Int) (l : Bool) (d z k : Int) (h : Bool) (f : Int) (ry rn : Int) (rl : Bool) (rd D1 D2 s : Int) (J K : Nat) (w : World) (hT : Tab w 7 kevCells) (hL : Tab w 6 lenCells) (HS : Hid (∀ w : World, Tab w 7 kevCells → Tab w 6 lenCells → Calls Tryo.prog 45 #[.agg #[.int .i64 (y), .int .i64 (n), .bool (l), .int .i64 (d)], .agg #[.int .i64 (z), .int .i64 (k), .bool (h), .int .i64 (f)], .int .i64 3] w fun e w' => e = .returned (.agg #[.int .i64 y, .int .i64 n, .bool l, .int .i64 d, .int .i64 z, .int .i64 k, .bool h, .int .i64 f, .int .i64 (s), .int .i64 (0), .int .i64 (0), .int .i64 (0), .int .i64 (0), .int .i64 (0)]) ∧ Below w.heap.size w w')) (hy : I64 y) (ht : D10.dateE z k h f = 0) (hs : s = 1 ∨ s = -1) (hj : J ≤ 200000) (hk : K ≤ 200000) (yd : Hid (∀ i : Nat, i ≤ J → U17.fit y n l d (s * (i : Int)) 0 s (D10.dayV z k h f) = true)) (yu : Hid (∀ i : Nat, J < i → U17.fit y n l d (s * (i : Int)) 0 s (D10.dayV z k h f) = false)) (md : Hid (∀ i : Nat, i ≤ K → U17.fit y n l d (s * (J : Int)) (s * (i : Int)) s (D10.dayV z k h f) = true)) (mu : Hid (∀ i : Nat, K < i → U17.fit y n l d (s * (J : Int)) (s * (i : Int)) s (D10.dayV z k h f) = false)) (HA : Hid (∀ w : World, Tab w 7 kevCells → Tab w 6 lenCells → Calls Tryo.prog 20 #[.agg #[.int .i64 (y), .int .i64 (n), .bool (l), .int .i64 (d)], .agg #[.int .i64 (s * (J : Int)), .int .i64 (s * (K : Int)), .int .i64 (0), .int .i64 (0)], .int .i64 0] w fun e w' => e = .returned (.tuple #[.agg #[.int .i64 (ry), .int .i64 (rn), .bool (rl), .int .i64 (rd)], .int .i64 (0)]) ∧ Below w.heap.size w w')) (HX : Hid (∀ w : World, Tab w 7 kevCells → Tab w 6 lenCells → Calls Tryo.prog 18 #[.agg #[.int .i64 (ry), .int .i64 (rn), .bool (rl), .int .i64 (rd)]] w fun e w' => e = .returned (.tuple #[.int .i64 (D1), .int .i64 0]) ∧ Below w.heap.size w w')) (HY : Hid (∀ w : World, Tab w 7 kevCells → Tab w 6 lenCells → Calls Tryo.prog 18 #[.agg #[.int .i64 (z), .int .i64 (k), .bool (h), .int .i64 (f)]] w fun e w' => e = .returned (.tuple #[.int .i64 (D2), .int .i64 0]) ∧ Below w.heap.size w w')) (h1 : -3000000 ≤ D1 ∧ D1 ≤ 3000000) (h2 : -3000000 ≤ D2 ∧ D2 ≤ 3000000) :
  Calls Tryo.prog 17 #[.agg #[.int .i64 (y), .int .i64 (n), .bool (l), .int .i64 (d)], .agg #[.int .i64 (z), .int .i64 (k), .bool (h), .int .i64 (f)], .int .i64 3] w fun e w' => e = .returned (.tuple #[.agg #[.int .i64 (s * (J : Int)), .int .i64 (s * (K : Int)), .int .i64 (0), .int .i64 (D2 - D1)], .int .i64 (0)]) ∧ Below w.heap.size w w' := by
 obtain ⟨h11, h12⟩ := h1
 obtain ⟨h21, h22⟩ := h2
 have hw1 := hT.lt
 have hw2 := hL.lt
 go_enter Tryo.func17, Tryz.ntmps17
 go_wp2_with fail
 refine settleC (fun W => SpaAt W (w.heap.size + 1 + 1) 0 0 0 0 ∧ Below w.heap.size w W) ⟨⟨by simp [go_sem], by simp [go_sem], by simp [go_sem], by simp [go_sem], fun i => by simp [go_sem], by simp⟩, bel⟩ ?_
 rintro W0 ⟨hR0, hB0⟩
 refine (HS.out _ (Tab.below hT hB0) (Tab.below hL hB0)).mono ?_
 rintro e w1 ⟨rfl, hb1⟩
 have hR1 := spa_below hR0 hb1
 have hB1 := bt hB0 hb1
 go_wp2_with fail
 refine settleC (fun W => WayAt W w1.heap.size y n l d z k h f (s) 0 0 0 0 (0) ∧ SpaAt W (w.heap.size + 1 + 1) 0 0 0 0 ∧ Below w.heap.size w W) ⟨?_, spa_below hR1 bel, bt hB1 bel⟩ ?_
 ·first | exact way_alloc w1 y n l d z k h f (s) 0 0 0 0 (0) 89 | exact way_set13 (way_set12 (way_set11 (way_set10 (way_set9 (way_set8 (way_set7 (way_set6 (way_set5 (way_set4 (way_set3 (way_set2 (way_set1 (way_set0 (way_alloc w1 0 0 false 0 0 0 false 0 0 0 0 0 0 0 89) _) _) _) _) _) _) _) _) _) _) _) _) _) _
 rintro W2 ⟨hP2, hR2, hB2⟩
 have hg : w.heap.size + 1 + 1 < w1.heap.size := hR1.2.2.2.2.2
 have hT2 := Tab.below hT hB2
 have hL2 := Tab.below hL hB2
 clear hR0 hB0 hR1 hB1 hb1
 refine (way_years y n l d z k h f s 0 0 0 0 0 J w1.heap.size _ hT2 hL2 hy ht hs hj yd.out yu.out hP2).mono ?_
 rintro e W3 ⟨rfl, hP3, hU3⟩
 have hR3 := spa_but hR2 hU3 (by omega)
 have hB3 := hU3.below hB2 (by omega)
 have hT3 := But.tab hT2 hU3 (by omega)
 have hL3 := But.tab hL2 hU3 (by omega)
 go_wp2_with fail
 refine (way_months y n l d z k h f s (s * (J : Int)) 0 0 0 0 K w1.heap.size _ hT3 hL3 hy ht hs hk md.out mu.out hP3).mono ?_
 rintro e W4 ⟨rfl, hP4, hU4⟩
 have hR4 := spa_but hR3 hU4 (by omega)
 have hB4 := hU4.below hB3 (by omega)
 have hT4 := But.tab hT3 hU4 (by omega)
 have hL4 := But.tab hL3 hU4 (by omega)
 go_wp2_with fail
 refine (way_days_go y n l d z k h f s (s * (J : Int)) (s * (K : Int)) 0 0 0 ry rn rl rd D1 D2 w1.heap.size _ hT4 hL4 HA HX HY ⟨by omega, by omega⟩ ⟨by omega, by omega⟩ hP4).mono ?_
 rintro e W5 ⟨rfl, hP5, hU5⟩
 have hR5 := spa_but hR4 hU5 (by omega)
 have hB5 := hU5.below hB4 (by omega)
 have hT5 := But.tab hT4 hU5 (by omega)
 have hL5 := But.tab hL4 hU5 (by omega)
 have hq := hP5
 obtain ⟨x0, x1, x2, x3, x4, x5, x6, x7, x8, x9, x10, x11, x12, x13, xf, xs⟩ := hq
 have hq := hR5
 obtain ⟨r0, r1, r2, r3, rf, rs⟩ := hq
 go_wp2_with fail
 refine bodyPost_ret (v := .tuple #[.agg #[.int .i64 (s * (J : Int)), .int .i64 (s * (K : Int)), .int .i64 (0), .int .i64 (D2 - D1)], .int .i64 (0)]) (by simp [results, Tryz.results17, go_sem, *]) rfl ⟨rfl, ?_⟩
 iterate 4 refine Below.setCell ?_ (show w.heap.size ≤ w.heap.size + 1 + 1 by omega) _
 exact hB5
end Go.Proofs.YtankichdmlkfmaaGreatDoor
end
section
namespace Go.Proofs.YtankichdmlkfmaaGreatDoor
open Go.ChangeShapes Go.WideShapes Go.ChangeAt Go.RowKit
namespace U17
def DIs (y n : Int) (l : Bool) (d z k : Int) (h : Bool) (f : Int) (unit va vb vc vq er : Int) : Prop :=
 (¬ (0 ≤ unit ∧ unit ≤ 3) ∧ er = 1 ∧ va = 0 ∧ vb = 0 ∧ vc = 0 ∧ vq = 0) ∨
 ((0 ≤ unit ∧ unit ≤ 3) ∧ er = (if D10.dateE y n l d = 0 then D10.dateE z k h f else D10.dateE y n l d) ∧ ¬ er = 0 ∧ va = 0 ∧ vb = 0 ∧ vc = 0 ∧ vq = 0) ∨
 ((0 ≤ unit ∧ unit ≤ 3) ∧ D10.dateE y n l d = 0 ∧ D10.dateE z k h f = 0 ∧ er = 0 ∧ Is y n l d (D10.dayV y n l d) (D10.dayV z k h f) unit va vb vc vq)
theorem d_some (y n : Int) (l : Bool) (d z k : Int) (h : Bool) (f : Int) (unit : Int) : ∃ va vb vc vq er, DIs y n l d z k h f unit va vb vc vq er := by
 by_cases hu : 0 ≤ unit ∧ unit ≤ 3
 ·by_cases ha : D10.dateE y n l d = 0
  ·by_cases hb : D10.dateE z k h f = 0
   ·obtain ⟨a, b, c, q, hI⟩ := is_some (B := D10.dayV z k h f) ha hu.1 hu.2
    exact ⟨a, b, c, q, 0, .inr (.inr ⟨hu, ha, hb, rfl, hI⟩)⟩
   ·exact ⟨0, 0, 0, 0, _, .inr (.inl ⟨hu, (if_pos ha).symm, hb, rfl, rfl, rfl, rfl⟩)⟩
  ·exact ⟨0, 0, 0, 0, _, .inr (.inl ⟨hu, (if_neg ha).symm, ha, rfl, rfl, rfl, rfl⟩)⟩
 ·exact ⟨0, 0, 0, 0, 1, .inl ⟨hu, rfl, rfl, rfl, rfl, rfl⟩⟩
theorem toE_of {y n d a b s B : Int} {l : Bool} (h : fit y n l d a b s B = true) : A16.toE y n l d a b 0 0 0 = 0 := by
 unfold fit at h
 simp only [Bool.and_eq_true, decide_eq_true_eq] at h
 exact h.1
theorem up_false {p : Nat → Bool} {K : Nat} (hd : ∀ {j k : Nat}, j ≤ k → p k = true → p j = true) (hK : p (K + 1) = false) : ∀ i : Nat, K < i → p i = false := by
 intro i hi
 cases c : p i
 ·rfl
 ·rw [hd (show K + 1 ≤ i from hi) c] at hK; cases hK
theorem small {p : Nat → Bool} {K N : Nat} (hK : p K = true) (hn : ∀ {k : Nat}, N ≤ k → p k = false) : K < N := by
 rcases Nat.lt_or_ge K N with c | c
 ·exact c
 ·rw [hn c] at hK; cases hK
end U17
theorem add_To_at (y n : Int) (l : Bool) (d a b : Int) (hy : I64 y) (h : A16.toE y n l d a b 0 0 0 = 0) : ∃ (ry rn : Int) (rl : Bool) (rd : Int), D10.dateE ry rn rl rd = 0 ∧ D10.dayV ry rn rl rd = A16.day y n l d a b 0 0 0 ∧ I64 ry ∧
  ∀ w : World, Tab w 7 kevCells → Tab w 6 lenCells → Calls Tryo.prog 20 #[.agg #[.int .i64 (y), .int .i64 (n), .bool (l), .int .i64 (d)], .agg #[.int .i64 (a), .int .i64 (b), .int .i64 (0), .int .i64 (0)], .int .i64 0] w fun e w' => e = .returned (.tuple #[.agg #[.int .i64 (ry), .int .i64 (rn), .bool (rl), .int .i64 (rd)], .int .i64 (0)]) ∧ Below w.heap.size w w' := by
 obtain ⟨ry, rn, rl, rd, er, hto⟩ := A16.to_some y n l d a b 0 0 0
 obtain ⟨rfl, r1, r2, r3, r4⟩ := hto.date h
 exact ⟨ry, rn, rl, rd, r1, r2, ⟨by omega, by omega⟩, fun w hT hL => add_To y n l d a b 0 0 0 w hy hT hL ry rn rl rd 0 (Lib.hid hto)⟩
theorem heb_ToDay_at (y n : Int) (l : Bool) (d : Int) (hy : I64 y) (h : D10.dateE y n l d = 0) (D : Int) (hD : D10.dayV y n l d = D) : ∀ w : World, Tab w 7 kevCells → Tab w 6 lenCells → Calls Tryo.prog 18 #[.agg #[.int .i64 (y), .int .i64 (n), .bool (l), .int .i64 (d)]] w fun e w' => e = .returned (.tuple #[.int .i64 (D), .int .i64 0]) ∧ Below w.heap.size w w' := by
 intro w hT hL
 have := heb_ToDay y n l d w hy hT hL
 rwa [h, hD] at this
theorem until_start_at (y n : Int) (l : Bool) (d z k : Int) (h : Bool) (f : Int) (unit sv ev : Int) (hy : I64 y) (hz : I64 z) (hu : 0 ≤ unit ∧ unit ≤ 3) (hs : sv = if D10.lessD z k h f y n l d then -1 else 1) (he : ev = if D10.dateE y n l d = 0 then D10.dateE z k h f else D10.dateE y n l d) (w : World) (hT : Tab w 7 kevCells) (hL : Tab w 6 lenCells) :
  Calls Tryo.prog 45 #[.agg #[.int .i64 (y), .int .i64 (n), .bool (l), .int .i64 (d)], .agg #[.int .i64 (z), .int .i64 (k), .bool (h), .int .i64 (f)], .int .i64 unit] w fun e w' => e = .returned (.agg #[.int .i64 y, .int .i64 n, .bool l, .int .i64 d, .int .i64 z, .int .i64 k, .bool h, .int .i64 f, .int .i64 (sv), .int .i64 (0), .int .i64 (0), .int .i64 (0), .int .i64 (0), .int .i64 (ev)]) ∧ Below w.heap.size w w' := by
 have HC1 := Lib.hid (fun w hT hL => heb_Check y n l d w hy hT hL)
 have HC2 := Lib.hid (fun w hT hL => heb_Check z k h f w hz hT hL)
 have HL2 := Lib.hid (fun w => heb_Less z k h f y n l d w)
 by_cases ha : D10.dateE y n l d = 0
 ·rw [if_pos ha] at he
  rw [ha] at HC1
  subst he
  cases hl : D10.lessD z k h f y n l d
  ·rw [hl] at HL2 hs
   rw [show sv = 1 from hs]
   exact until_start_ok_false y n l d z k h f unit _ w hT hL HC1 HC2 HL2 hu
  ·rw [hl] at HL2 hs
   rw [show sv = -1 from hs]
   exact until_start_ok_true y n l d z k h f unit _ w hT hL HC1 HC2 HL2 hu
 ·rw [if_neg ha] at he
  subst he
  cases hl : D10.lessD z k h f y n l d
  ·rw [hl] at HL2 hs
   rw [show sv = 1 from hs]
   exact until_start_no_false y n l d z k h f unit _ w hT hL HC1 HL2 (by simpa using ha) (by simpa using ha) hu
  ·rw [hl] at HL2 hs
   rw [show sv = -1 from hs]
   exact until_start_no_true y n l d z k h f unit _ w hT hL HC1 HL2 (by simpa using ha) (by simpa using ha) hu
theorem until_Date (y n : Int) (l : Bool) (d z k : Int) (h : Bool) (f : Int) (unit : Int) (w : World) (hy : I64 y) (hz : I64 z) (hT : Tab w 7 kevCells) (hL : Tab w 6 lenCells) (va vb vc vq er : Int) (hres : Hid (U17.DIs y n l d z k h f unit va vb vc vq er)) :
  Calls Tryo.prog 17 #[.agg #[.int .i64 (y), .int .i64 (n), .bool (l), .int .i64 (d)], .agg #[.int .i64 (z), .int .i64 (k), .bool (h), .int .i64 (f)], .int .i64 unit] w fun e w' => e = .returned (.tuple #[.agg #[.int .i64 (va), .int .i64 (vb), .int .i64 (vc), .int .i64 (vq)], .int .i64 (er)]) ∧ Below w.heap.size w w' := by
 rcases hres.out with ⟨hu, rfl, rfl, rfl, rfl, rfl⟩ | ⟨hu, he, hne, rfl, rfl, rfl, rfl⟩ | ⟨hu, ha, hb, rfl, hI⟩
 ·have HS : Hid (∀ w : World, Tab w 7 kevCells → Tab w 6 lenCells → Calls Tryo.prog 45 #[.agg #[.int .i64 (y), .int .i64 (n), .bool (l), .int .i64 (d)], .agg #[.int .i64 (z), .int .i64 (k), .bool (h), .int .i64 (f)], .int .i64 unit] w fun e w' => e = .returned (.agg #[.int .i64 y, .int .i64 n, .bool l, .int .i64 d, .int .i64 z, .int .i64 k, .bool h, .int .i64 f, .int .i64 (1), .int .i64 (0), .int .i64 (0), .int .i64 (0), .int .i64 (0), .int .i64 (1)]) ∧ Below w.heap.size w w') := Lib.hid (fun w _ _ => by
   by_cases c : unit < 0
   ·exact until_start_low y n l d z k h f unit w c
   ·exact until_start_high y n l d z k h f unit w (by omega) (by omega))
  exact until_Date_errb y n l d z k h f 1 1 unit w hT hL HS (by decide) (by simpa using (show ¬ unit = 3 by omega)) (by simpa using (show ¬ unit = 2 by omega)) (by simpa using (show ¬ unit = 1 by omega))
 ·have HS := Lib.hid (fun w hT hL => until_start_at y n l d z k h f unit _ er hy hz hu rfl he w hT hL)
  generalize (if D10.lessD z k h f y n l d then (-1 : Int) else 1) = sv at *
  rcases (show unit = 0 ∨ unit = 1 ∨ unit = 2 ∨ unit = 3 by omega) with rfl | rfl | rfl | rfl
  ·exact until_Date_err0 y n l d z k h f sv er w hT hL HS hne
  ·exact until_Date_err1 y n l d z k h f sv er w hT hL HS hne
  ·exact until_Date_err2 y n l d z k h f sv er w hT hL HS hne
  ·exact until_Date_err3 y n l d z k h f sv er w hT hL HS hne
 ·have HS := Lib.hid (fun w hT hL => until_start_at y n l d z k h f unit (U17.sg (D10.dayV y n l d) (D10.dayV z k h f)) 0 hy hz hu (by rw [D10.less_day hb ha]; unfold U17.sg; simp) (by rw [if_pos ha, hb]) w hT hL)
  have hsg := U17.sg_or (D10.dayV y n l d) (D10.dayV z k h f)
  obtain ⟨_, a1, a2⟩ := D10.dayV_ok y n l d ha
  obtain ⟨_, b1, b2⟩ := D10.dayV_ok z k h f hb
  have HY := Lib.hid (heb_ToDay_at z k h f hz hb _ rfl)
  rcases hI with ⟨rfl, rfl, rfl, rfl, rfl⟩ | ⟨rfl, rfl, rfl, rfl, rfl⟩ | ⟨rfl, rfl, rfl, rfl, K, rfl, q0, qk, qk1⟩ | ⟨rfl, rfl, rfl, J, K, rfl, pj, pj1, rfl, q0, qk, qk1⟩
  ·obtain ⟨e1, e2⟩ := A16.to_days (c := 0) (f := 0) (m := 0) ha rfl rfl
   rw [if_neg (by unfold A16.out; omega)] at e2
   obtain ⟨ry, rn, rl, rd, r1, r2, r3, HA⟩ := add_To_at y n l d 0 0 hy e2
   have HX := Lib.hid (heb_ToDay_at ry rn rl rd r3 r1 (D10.dayV y n l d) (by rw [r2, e1]; omega))
   exact until_Date_u0 y n l d z k h f ry rn rl rd _ _ _ w hT hL HS (Lib.hid HA) HX HY ⟨by omega, by omega⟩ ⟨by omega, by omega⟩
  ·obtain ⟨e1, e2⟩ := A16.to_days (c := 0) (f := 0) (m := 0) ha rfl rfl
   rw [if_neg (by unfold A16.out; omega)] at e2
   obtain ⟨ry, rn, rl, rd, r1, r2, r3, HA⟩ := add_To_at y n l d 0 0 hy e2
   have HX := Lib.hid (heb_ToDay_at ry rn rl rd r3 r1 (D10.dayV y n l d) (by rw [r2, e1]; omega))
   exact until_Date_u1 y n l d z k h f ry rn rl rd _ _ _ w hT hL HS (Lib.hid HA) HX HY ⟨by omega, by omega⟩ ⟨by omega, by omega⟩
  ·have hK := U17.small (p := U17.Q y n l d 0 (U17.sg (D10.dayV y n l d) (D10.dayV z k h f)) (D10.dayV z k h f)) qk (fun hk => U17.Q_no ha hsg hk)
   have ht := U17.toE_of (show U17.fit y n l d 0 ((U17.sg (D10.dayV y n l d) (D10.dayV z k h f)) * (K : Int)) (U17.sg (D10.dayV y n l d) (D10.dayV z k h f)) (D10.dayV z k h f) = true from qk)
   obtain ⟨ry, rn, rl, rd, r1, r2, r3, HA⟩ := add_To_at y n l d 0 ((U17.sg (D10.dayV y n l d) (D10.dayV z k h f)) * (K : Int)) hy ht
   obtain ⟨_, d1, d2⟩ := D10.dayV_ok ry rn rl rd r1
   have HX := Lib.hid (heb_ToDay_at ry rn rl rd r3 r1 _ r2)
   rw [r2] at d1 d2
   exact until_Date_u2 y n l d z k h f ry rn rl rd _ _ _ K w hT hL HS hy hb hsg (by omega) (Lib.hid (fun i hi => U17.Q_down ha hsg q0 hi qk)) (Lib.hid (U17.up_false (p := U17.Q y n l d 0 (U17.sg (D10.dayV y n l d) (D10.dayV z k h f)) (D10.dayV z k h f)) (fun hjk hk => U17.Q_down ha hsg q0 hjk hk) qk1)) (Lib.hid HA) HX HY ⟨by omega, by omega⟩ ⟨by omega, by omega⟩
  ·have hJ := U17.small (p := U17.P y n l d (U17.sg (D10.dayV y n l d) (D10.dayV z k h f)) (D10.dayV z k h f)) pj (fun hk => U17.P_no ha hsg hk)
   have hK := U17.small (p := U17.Q y n l d ((U17.sg (D10.dayV y n l d) (D10.dayV z k h f)) * (J : Int)) (U17.sg (D10.dayV y n l d) (D10.dayV z k h f)) (D10.dayV z k h f)) qk (fun hk => U17.Q_no ha hsg hk)
   have ht := U17.toE_of (show U17.fit y n l d ((U17.sg (D10.dayV y n l d) (D10.dayV z k h f)) * (J : Int)) ((U17.sg (D10.dayV y n l d) (D10.dayV z k h f)) * (K : Int)) (U17.sg (D10.dayV y n l d) (D10.dayV z k h f)) (D10.dayV z k h f) = true from qk)
   obtain ⟨ry, rn, rl, rd, r1, r2, r3, HA⟩ := add_To_at y n l d ((U17.sg (D10.dayV y n l d) (D10.dayV z k h f)) * (J : Int)) ((U17.sg (D10.dayV y n l d) (D10.dayV z k h f)) * (K : Int)) hy ht
   obtain ⟨_, d1, d2⟩ := D10.dayV_ok ry rn rl rd r1
   have HX := Lib.hid (heb_ToDay_at ry rn rl rd r3 r1 _ r2)
   rw [r2] at d1 d2
   exact until_Date_u3 y n l d z k h f ry rn rl rd _ _ _ J K w hT hL HS hy hb hsg (by omega) (by omega) (Lib.hid (fun i hi => U17.P_down ha hsg hi pj)) (Lib.hid (U17.up_false (p := U17.P y n l d (U17.sg (D10.dayV y n l d) (D10.dayV z k h f)) (D10.dayV z k h f)) (fun hjk hk => U17.P_down ha hsg hjk hk) pj1)) (Lib.hid (fun i hi => U17.Q_down ha hsg q0 hi qk)) (Lib.hid (U17.up_false (p := U17.Q y n l d ((U17.sg (D10.dayV y n l d) (D10.dayV z k h f)) * (J : Int)) (U17.sg (D10.dayV y n l d) (D10.dayV z k h f)) (D10.dayV z k h f)) (fun hjk hk => U17.Q_down ha hsg q0 hjk hk) qk1)) (Lib.hid HA) HX HY ⟨by omega, by omega⟩ ⟨by omega, by omega⟩
end Go.Proofs.YtankichdmlkfmaaGreatDoor
end
section
namespace Go.Proofs.YtankichdmlkfmaaGreatDoor
open Go.RowKit
namespace U17
open A16
def pl (lp : Bool) (n : Int) (l : Bool) : Int := Cal.plV lp (if Cal.plOk lp n l = true then n else 6) (if Cal.plOk lp n l = true then l else false)
theorem to_more {y n d a b c f : Int} {l : Bool} (h : toE y n l d a b 0 0 0 = 0) (hr : right a b c f = true) (h1 : -1373427 ≤ day y n l d a b 0 0 0 + (7 * c + f)) (h2 : day y n l d a b 0 0 0 + (7 * c + f) ≤ 2278650) :
  toE y n l d a b c f 0 = 0 ∧ day y n l d a b c f 0 = day y n l d a b 0 0 0 + (7 * c + f) := by
 obtain ⟨_, _, g1, g2, g3, g4, _⟩ := to_0 h
 have e : day y n l d a b c f 0 = day y n l d a b 0 0 0 + (7 * c + f) := by unfold day; omega
 refine ⟨?_, e⟩
 have hx : (right a b c f && S15.mode 0) = true := by rw [hr]; rfl
 unfold toE
 rw [hx, if_pos rfl, if_pos g1, if_pos g2, if_pos g3, if_pos g4, if_neg (by rw [e]; unfold out; omega)]
theorem nb_of {y n d a b s B : Int} {l : Bool} (h : fit y n l d a b s B = true) : nb s (day y n l d a b 0 0 0) B = true := by
 unfold fit at h
 simp only [Bool.and_eq_true] at h
 exact h.2
theorem day_in {y n d a b c f m : Int} {l : Bool} (h : toE y n l d a b c f m = 0) : -1373427 ≤ day y n l d a b c f m ∧ day y n l d a b c f m ≤ 2278650 := by
 obtain ⟨_, _, _, _, _, _, g⟩ := to_0 h
 unfold out at g; omega
theorem sg_up {A B : Int} (h : A ≤ B) : sg A B = 1 := by unfold sg; rw [if_neg (by omega)]
theorem sg_down {A B : Int} (h : B < A) : sg A B = -1 := by unfold sg; rw [if_pos h]
theorem back {y n d B unit a b c f : Int} {l : Bool} (h : D10.dateE y n l d = 0) (hB1 : -1373427 ≤ B) (hB2 : B ≤ 2278650) (hI : Is y n l d (D10.dayV y n l d) B unit a b c f) :
  toE y n l d a b c f 0 = 0 ∧ day y n l d a b c f 0 = B ∧ (D10.dayV y n l d ≤ B → 0 ≤ a ∧ 0 ≤ b ∧ 0 ≤ c ∧ 0 ≤ f) ∧ (B < D10.dayV y n l d → a ≤ 0 ∧ b ≤ 0 ∧ c ≤ 0 ∧ f ≤ 0) := by
 obtain ⟨_, A1, A2⟩ := D10.dayV_ok y n l d h
 have hsg := sg_or (D10.dayV y n l d) B
 rcases hI with ⟨_, rfl, rfl, rfl, rfl⟩ | ⟨_, rfl, rfl, rfl, rfl⟩ | ⟨_, rfl, rfl, rfl, K, rfl, q0, qk, qk1⟩ | ⟨_, rfl, rfl, J, K, rfl, pj, pj1, rfl, q0, qk, qk1⟩
 ·obtain ⟨e1, e2⟩ := to_days (c := 0) (f := B - D10.dayV y n l d) (m := 0) h (right_days (by omega) (by omega)) rfl
  rw [if_neg (by unfold out; omega)] at e2
  exact ⟨e2, by rw [e1]; omega, fun _ => by omega, fun _ => by omega⟩
 ·have t := Int.mul_tdiv_add_tmod (B - D10.dayV y n l d) 7
  have t1 : (D10.dayV y n l d ≤ B → 0 ≤ (B - D10.dayV y n l d).tdiv 7 ∧ 0 ≤ (B - D10.dayV y n l d).tmod 7) := fun hh => ⟨Int.tdiv_nonneg (by omega) (by omega), Int.tmod_nonneg _ (by omega)⟩
  have t2 : (B < D10.dayV y n l d → (B - D10.dayV y n l d).tdiv 7 ≤ 0 ∧ (B - D10.dayV y n l d).tmod 7 ≤ 0) := fun hh => by
   have e1 : (B - D10.dayV y n l d).tdiv 7 = -((D10.dayV y n l d - B).tdiv 7) := by rw [← Int.neg_tdiv]; congr 1; omega
   have e2 : (B - D10.dayV y n l d).tmod 7 = -((D10.dayV y n l d - B).tmod 7) := by rw [← Int.neg_tmod]; congr 1; omega
   have := Int.tdiv_nonneg (show 0 ≤ D10.dayV y n l d - B by omega) (show (0 : Int) ≤ 7 by omega)
   have := Int.tmod_nonneg 7 (show 0 ≤ D10.dayV y n l d - B by omega)
   omega
  have m1 := Int.lt_tmod_of_pos (B - D10.dayV y n l d) (show (0 : Int) < 7 by omega)
  have m2 := Int.tmod_lt_of_pos (B - D10.dayV y n l d) (show (0 : Int) < 7 by omega)
  obtain ⟨e1, e2⟩ := to_days (c := (B - D10.dayV y n l d).tdiv 7) (f := (B - D10.dayV y n l d).tmod 7) (m := 0) h (right_days (by omega) (by omega)) rfl
  rw [if_neg (by unfold out; omega)] at e2
  exact ⟨e2, by rw [e1]; omega, fun hh => ⟨by omega, by omega, (t1 hh).1, (t1 hh).2⟩, fun hh => ⟨by omega, by omega, (t2 hh).1, (t2 hh).2⟩⟩
 ·have ht := toE_of (show fit y n l d 0 (sg (D10.dayV y n l d) B * (K : Int)) (sg (D10.dayV y n l d) B) B = true from qk)
  have hn := nb_of (show fit y n l d 0 (sg (D10.dayV y n l d) B * (K : Int)) (sg (D10.dayV y n l d) B) B = true from qk)
  obtain ⟨b1, b2⟩ := day_in ht
  obtain ⟨hr, _⟩ := to_0 ht
  obtain ⟨r1, r2, _, _⟩ := right_in hr
  obtain ⟨e1, e2⟩ := to_more (c := 0) (f := B - day y n l d 0 (sg (D10.dayV y n l d) B * (K : Int)) 0 0 0) ht (by simp [right, may]; omega) (by omega) (by omega)
  refine ⟨e1, by rw [e2]; omega, fun hh => ?_, fun hh => ?_⟩
  ·rw [sg_up hh] at hn ⊢
   simp [nb] at hn ⊢
   omega
  ·rw [sg_down hh] at hn ⊢
   simp [nb] at hn ⊢
   omega
 ·have ht := toE_of (show fit y n l d (sg (D10.dayV y n l d) B * (J : Int)) (sg (D10.dayV y n l d) B * (K : Int)) (sg (D10.dayV y n l d) B) B = true from qk)
  have hn := nb_of (show fit y n l d (sg (D10.dayV y n l d) B * (J : Int)) (sg (D10.dayV y n l d) B * (K : Int)) (sg (D10.dayV y n l d) B) B = true from qk)
  obtain ⟨b1, b2⟩ := day_in ht
  obtain ⟨hr, _⟩ := to_0 ht
  obtain ⟨r1, r2, _, _⟩ := right_in hr
  obtain ⟨e1, e2⟩ := to_more (c := 0) (f := B - day y n l d (sg (D10.dayV y n l d) B * (J : Int)) (sg (D10.dayV y n l d) B * (K : Int)) 0 0 0) ht (by simp [right, may]; omega) (by omega) (by omega)
  refine ⟨e1, by rw [e2]; omega, fun hh => ?_, fun hh => ?_⟩
  ·rw [sg_up hh] at hn ⊢
   simp [nb] at hn ⊢
   omega
  ·rw [sg_down hh] at hn ⊢
   simp [nb] at hn ⊢
   omega
end U17
end Go.Proofs.YtankichdmlkfmaaGreatDoor
end
