/- Layer 10: the date of a day; the document's answers. -/
import Derived.Test.YtbmcpeccofadhaaDoorHeb2
namespace Go.Proofs.YtbmcpeccofadhaaDoor
open Go.ChangeShapes Go.WideShapes Go.ChangeAt Go.RowKit
set_option linter.unusedVariables false
set_option maxRecDepth 100000
def ResAt (w : World) (g : Nat) : Prop := w.cell? ⟨g, 0, none⟩ = some (.int .i64 0) ∧ w.cell? ⟨g, 1, none⟩ = some (.int .i64 0) ∧ w.cell? ⟨g, 2, none⟩ = some (.bool false) ∧ w.cell? ⟨g, 3, none⟩ = some (.int .i64 0) ∧ (∀ i, w.frozen? ⟨g, i, none⟩ = false) ∧ g < w.heap.size
theorem ResAt.below {w w' : World} {g : Nat} (h : ResAt w g) (hb : Below w.heap.size w w') : ResAt w' g := by
  obtain ⟨h0, h1, h2, h3, hf, hs⟩ := h
  have c := fun i => hb.cell (p := ⟨g, i, none⟩) hs
  exact ⟨(c 0).trans h0, (c 1).trans h1, (c 2).trans h2, (c 3).trans h3, fun i => (hb.frozen (p := ⟨g, i, none⟩) hs).trans (hf i), Nat.lt_of_lt_of_le hs hb.size⟩
theorem ResAt.but {w w' : World} {g g' : Nat} (h : ResAt w g) (hb : But g' w w') (hg : g ≠ g') : ResAt w' g := by
  obtain ⟨h0, h1, h2, h3, hf, hs⟩ := h
  have c := fun i => hb.cell (k := g) (o := i) hs hg
  exact ⟨(c 0).trans h0, (c 1).trans h1, (c 2).trans h2, (c 3).trans h3, fun i => (hb.frozen (k := g) (o := i) hs hg).trans (hf i), Nat.lt_of_lt_of_le hs hb.size⟩
theorem res_alloc (w : World) (t : TypeId) : ResAt (w.alloc (.cells #[.int .i64 0, .int .i64 0, .bool false, .int .i64 0] t)) w.heap.size := ⟨by simp [go_sem], by simp [go_sem], by simp [go_sem], by simp [go_sem], fun i => by simp [go_sem], by simp⟩
set_option maxHeartbeats 1000000 in
theorem heb_FromDay_no (D : Int) (w : World) (h : D < -1373427 ∨ 2278650 < D) :
    Calls Tryd.prog 28 #[.int .i64 D] w fun e w' => e = .returned (.tuple #[.agg #[.int .i64 0, .int .i64 0, .bool false, .int .i64 0], .int .i64 2]) ∧ Below w.heap.size w w' := by
  go_enter Tryd.func28, Tryd.ntmps28
  go_wp2_with fail
  refine (closed_Year_no D _ h).mono ?_
  rintro e w1 ⟨rfl, hb1⟩
  have hR := ResAt.below (res_alloc w _) hb1
  have hB := bt (ba _ _) hb1
  clear hb1
  obtain ⟨r0, r1, r2, r3, rf, rs⟩ := hR
  go_wp2_with fail
  refine bodyPost_ret (v := .tuple #[.agg #[.int .i64 0, .int .i64 0, .bool false, .int .i64 0], .int .i64 2]) (by simp [results, Tryd.results28, go_sem, *]) rfl ⟨rfl, ?_⟩
  iterate 4 refine Below.setCell ?_ (Nat.le_refl w.heap.size) _
  exact hB
set_option maxHeartbeats 1000000 in
theorem ref10_FromDay_no (D : Int) (w : World) (h : D < -1373427 ∨ 2278650 < D) :
    Calls Tryd.prog 22 #[.int .i64 D] w fun e w' => e = .returned (.tuple #[.agg #[.int .i64 0, .int .i64 0, .bool false, .int .i64 0], .int .i64 2]) ∧ Below w.heap.size w w' := by
  go_enter Tryd.func22, Tryd.ntmps22
  go_wp2_with fail
  refine (ref6_Year_no D _ h).mono ?_
  rintro e w1 ⟨rfl, hb1⟩
  have hR := ResAt.below (res_alloc w _) hb1
  have hB := bt (ba _ _) hb1
  clear hb1
  obtain ⟨r0, r1, r2, r3, rf, rs⟩ := hR
  go_wp2_with fail
  refine bodyPost_ret (v := .tuple #[.agg #[.int .i64 0, .int .i64 0, .bool false, .int .i64 0], .int .i64 2]) (by simp [results, Tryd.results22, go_sem, *]) rfl ⟨rfl, ?_⟩
  iterate 4 refine Below.setCell ?_ (Nat.le_refl w.heap.size) _
  exact hB
set_option maxHeartbeats 2000000 in
theorem heb_FromDay_at (y m d : Int) (w : World) (hT : Tab w 1 kevCells) (hL : Tab w 0 lenCells) (hv : D10.Valid y m d) :
    Calls Tryd.prog 28 #[.int .i64 (D10.dayOf y m d)] w fun e w' => e = .returned (.tuple #[.agg #[.int .i64 y, .int .i64 (Cal.ofN (Cal.leap y) m), .bool (Cal.ofL (Cal.leap y) m), .int .i64 d], .int .i64 0]) ∧ Below w.heap.size w w' := by
  have hin := D10.day_in hv
  have hbd := D10.day_bd hv
  have hfb := first_bd y (by have := hv.1; omega) (by have := hv.2.1; omega)
  have HY := Lib.hid (fun w => closed_Year_at (D10.dayOf y m d) y w hv.1 hv.2.1 hin.1 hin.2 hbd.1 hbd.2)
  have HP := Lib.hid (fun g w h => path_year_ok y hv.1 hv.2.1 g w h)
  have HO := Lib.hid (fun w => code_Of_any (Cal.leap y) m w (by have := hv.2.2.2.1; unfold Cal.most at this; split at this <;> omega))
  have hF := D10.day_find hv
  have HF : ∀ w, Tab w 1 kevCells → Tab w 0 lenCells → Calls Tryd.prog 54 #[.agg #[.int .i64 (Cal.first y % 7), .int .i64 (Cal.kind y), .bool (Cal.leap y)], .int .i64 (D10.dayOf y m d - Cal.first y + 1)] w fun e w' => e = .returned (.tuple #[.int .i64 m, .int .i64 d, .bool true]) ∧ Below w.heap.size w w' := fun w hT hL => by
    have := month_Find (Cal.first y % 7) (Cal.kind y) (Cal.leap y) (D10.dayOf y m d - Cal.first y + 1) w hT hL (by omega)
    rwa [hF] at this
  have HF := Lib.hid HF
  clear hF
  rename_i HF0
  clear HF0
  generalize D10.dayOf y m d = D at *
  generalize Cal.ofN (Cal.leap y) m = cn at *
  generalize Cal.ofL (Cal.leap y) m = cl at *
  generalize Cal.ofOk (Cal.leap y) m = co at *
  generalize Cal.first y % 7 = kb at *
  generalize Cal.first y = fy at *
  generalize Cal.kind y = kk at *
  generalize Cal.leap y = lp at *
  clear hv hin
  have hw1 := hT.lt
  have hw2 := hL.lt
  go_enter Tryd.func28, Tryd.ntmps28
  go_wp2_with fail
  refine (HY.out _).mono ?_
  rintro e w1 ⟨rfl, hb1⟩
  have hR1 := ResAt.below (res_alloc w _) hb1
  have hB1 := bt (ba _ _) hb1
  have hz1 := hR1.2.2.2.2.2
  clear hb1
  go_wp2_with fail
  refine settleC (fun W => ResAt W w.heap.size ∧ PathAt W w1.heap.size 0 0 0 false 0 0 0 ∧ Below w.heap.size w W) ⟨ResAt.below hR1 (ba _ _), ⟨by simp [go_sem], by simp [go_sem], by simp [go_sem], by simp [go_sem], by simp [go_sem], by simp [go_sem], by simp [go_sem], fun i => by simp [go_sem], by simp⟩, baa hB1 _⟩ ?_
  rintro W2 ⟨hR2, hP2, hB2⟩
  refine (HP.out w1.heap.size W2 hP2).mono ?_
  rintro e w3 ⟨rfl, hP3, hb3⟩
  have hR3 := ResAt.but hR2 hb3 (by omega)
  have hB3 : Below w.heap.size w w3 := But.below hb3 hB2 (by omega)
  have hq := hP3
  obtain ⟨q0, q1, q2, q3, q4, q5, q6, qf, qs⟩ := hq
  go_wp2_with fail
  refine (HF.out _ (Tab.below hT hB3) (Tab.below hL hB3)).mono ?_
  rintro e w4 ⟨rfl, hb4⟩
  have hP4 := path_below hP3 hb4
  have hR4 := ResAt.below hR3 hb4
  have hB4 := bt hB3 hb4
  clear q0 q1 q2 q3 q4 q5 q6 qf qs
  have hq := hP4
  obtain ⟨q0, q1, q2, q3, q4, q5, q6, qf, qs⟩ := hq
  go_wp2_with fail
  refine (HO.out _).mono ?_
  rintro e w5 ⟨rfl, hb5⟩
  have hR5 := ResAt.below hR4 hb5
  have hB5 := bt hB4 hb5
  clear q0 q1 q2 q3 q4 q5 q6 qf qs
  obtain ⟨r0, r1, r2, r3, rf, rs⟩ := hR5
  go_wp2_with fail
  refine bodyPost_ret (v := .tuple #[.agg #[.int .i64 y, .int .i64 cn, .bool cl, .int .i64 d], .int .i64 0]) (by simp [results, Tryd.results28, go_sem, *]) rfl ⟨rfl, ?_⟩
  refine baa ?_ _
  iterate 4 refine Below.setCell ?_ (Nat.le_refl w.heap.size) _
  exact hB5
end Go.Proofs.YtbmcpeccofadhaaDoor
