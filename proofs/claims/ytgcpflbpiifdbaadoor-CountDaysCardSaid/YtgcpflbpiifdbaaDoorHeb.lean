/- Layer 10: dates and days, at any input. -/
import Derived.Test.YtgcpflbpiifdbaaDoorPath
import Derived.Test.YtgcpflbpiifdbaaDoorDates
namespace Go.Proofs.YtgcpflbpiifdbaaDoor
open Go.ChangeShapes Go.WideShapes Go.ChangeAt Go.RowKit
set_option linter.unusedVariables false
set_option maxRecDepth 100000
namespace D10
def toF (y : Int) : Int := if Cal.yearIn y then Cal.first y else 0
def toM (y n : Int) (l : Bool) : Int := if Cal.yearIn y && Cal.plOk (Cal.leap y) n l then Cal.plV (Cal.leap y) n l else 0
def toO (y n : Int) (l : Bool) (d : Int) : Int := if dateE y n l d = 0 then dAhead y (Cal.plV (Cal.leap y) n l) + d - 1 else 0
end D10
/-- What the walk of heb.to knows of the world. -/
def ToSt (w W : World) (y n : Int) (l : Bool) (d : Int) : Prop :=
  W.cell? ⟨w.heap.size, 0, none⟩ = some (.int .i64 y) ∧ W.cell? ⟨w.heap.size, 1, none⟩ = some (.int .i64 n) ∧ W.cell? ⟨w.heap.size, 2, none⟩ = some (.bool l) ∧ W.cell? ⟨w.heap.size, 3, none⟩ = some (.int .i64 d) ∧ w.heap.size < W.heap.size ∧ PathAt W (w.heap.size + 1) 0 0 0 false 0 0 0 ∧ Below w.heap.size w W ∧ Tab W 1 kevCells ∧ Tab W 0 lenCells
theorem ToSt.but {w W W' : World} {y n : Int} {l : Bool} {d : Int} (hw1 : 1 < w.heap.size) (hw2 : 0 < w.heap.size) (h : ToSt w W y n l d) (hb : But (w.heap.size + 1 + 1) W W') : ToSt w W' y n l d := by
  obtain ⟨h0, h1, h2, h3, hs, hp, hB, hT, hL⟩ := h
  have c := fun i => hb.cell (k := w.heap.size) (o := i) hs (by omega)
  exact ⟨(c 0).trans h0, (c 1).trans h1, (c 2).trans h2, (c 3).trans h3, Nat.lt_of_lt_of_le hs hb.size, path_but hp hb (by omega), hb.below hB (by omega), But.tab hT hb (by omega), But.tab hL hb (by omega)⟩
set_option maxHeartbeats 2000000 in
theorem heb_to_ok (y n : Int) (l : Bool) (d : Int) (w : World) (hy : I64 y) (hT : Tab w 1 kevCells) (hL : Tab w 0 lenCells) (h1 : 1 ≤ y) (h2 : y ≤ 9999) (hp : Cal.plOk (Cal.leap y) n l = true) (hd1 : 1 ≤ d) (hd2 : d ≤ D10.dLen y (Cal.plV (Cal.leap y) n l)) :
    Calls Tryd.prog 38 #[.agg #[.int .i64 y, .int .i64 n, .bool l, .int .i64 d]] w fun e w' => e = .returned (.agg #[.int .i64 (Cal.first y), .int .i64 (Cal.first y % 7), .int .i64 (Cal.kind y), .bool (Cal.leap y), .int .i64 (Cal.plV (Cal.leap y) n l), .int .i64 (aheadV (Cal.first y % 7) (Cal.kind y) (Cal.leap y) (Cal.plV (Cal.leap y) n l) + d - 1), .int .i64 (0)]) ∧ Below w.heap.size w w' := by
  have hw1 := hT.lt
  have hw2 := hL.lt
  go_enter Tryd.func38, Tryd.ntmps38
  go_wp2_with fail
  refine settleC (fun W => ToSt w W y n l d ∧ PathAt W (w.heap.size + 1 + 1) 0 0 0 false 0 0 0) ⟨⟨by simp [go_sem], by simp [go_sem], by simp [go_sem], by simp [go_sem], by (simp; omega), ⟨by simp [go_sem], by simp [go_sem], by simp [go_sem], by simp [go_sem], by simp [go_sem], by simp [go_sem], by simp [go_sem], fun i => by simp [go_sem], by simp⟩, baa (baa (ba _ _) _) _, Tab.below hT (baa (baa (ba _ _) _) _), Tab.below hL (baa (baa (ba _ _) _) _)⟩, ⟨by simp [go_sem], by simp [go_sem], by simp [go_sem], by simp [go_sem], by simp [go_sem], by simp [go_sem], by simp [go_sem], fun i => by simp [go_sem], by simp⟩⟩ ?_
  rintro W0 ⟨hS0, hP0⟩
  refine (path_year_ok y h1 h2 (w.heap.size + 1 + 1) _ hP0).mono ?_
  rintro e w1 ⟨rfl, hP1, hB1⟩
  have hS1 := ToSt.but hw1 hw2 hS0 hB1
  have hs1 := hS1
  have hq1 := hP1
  obtain ⟨s1b0, s1b1, s1b2, s1b3, s1bs, s1p, s1B, s1T, s1L⟩ := hs1
  obtain ⟨q10, q11, q12, q13, q14, q15, q16, q1f, q1s⟩ := hq1
  have hr1 := s1p
  obtain ⟨r10, r11, r12, r13, r14, r15, r16, r1f, r1s⟩ := hr1
  go_wp2_with fail
  clear s1b0 s1b1 s1b2 s1b3 s1bs s1p q10 q11 q12 q13 q14 q15 q16 q1f q1s r10 r11 r12 r13 r14 r15 r16 r1f r1s
  refine (path_month_ok n l _ _ _ _ hp (w.heap.size + 1 + 1) _ hP1).mono ?_
  rintro e w2 ⟨rfl, hP2, hB2⟩
  have hS2 := ToSt.but hw1 hw2 hS1 hB2
  have hs2 := hS2
  have hq2 := hP2
  obtain ⟨s2b0, s2b1, s2b2, s2b3, s2bs, s2p, s2B, s2T, s2L⟩ := hs2
  obtain ⟨q20, q21, q22, q23, q24, q25, q26, q2f, q2s⟩ := hq2
  have hr2 := s2p
  obtain ⟨r20, r21, r22, r23, r24, r25, r26, r2f, r2s⟩ := hr2
  go_wp2_with fail
  clear s2b0 s2b1 s2b2 s2b3 s2bs s2p q20 q21 q22 q23 q24 q25 q26 q2f q2s r20 r21 r22 r23 r24 r25 r26 r2f r2s
  refine (path_day_ok d _ _ _ _ _ hd1 hd2 (w.heap.size + 1 + 1) _ s2T s2L hP2).mono ?_
  rintro e w3 ⟨rfl, hP3, hB3⟩
  have hS3 := ToSt.but hw1 hw2 hS2 hB3
  have hs3 := hS3
  have hq3 := hP3
  obtain ⟨s3b0, s3b1, s3b2, s3b3, s3bs, s3p, s3B, s3T, s3L⟩ := hs3
  obtain ⟨q30, q31, q32, q33, q34, q35, q36, q3f, q3s⟩ := hq3
  have hr3 := s3p
  obtain ⟨r30, r31, r32, r33, r34, r35, r36, r3f, r3s⟩ := hr3
  go_wp2_with fail
  refine bodyPost_ret (v := .agg #[.int .i64 (Cal.first y), .int .i64 (Cal.first y % 7), .int .i64 (Cal.kind y), .bool (Cal.leap y), .int .i64 (Cal.plV (Cal.leap y) n l), .int .i64 (aheadV (Cal.first y % 7) (Cal.kind y) (Cal.leap y) (Cal.plV (Cal.leap y) n l) + d - 1), .int .i64 (0)]) (by simp [results, Tryd.results38, go_sem, *]) rfl ⟨rfl, ?_⟩
  iterate 7 refine Below.setCell ?_ (show w.heap.size ≤ w.heap.size + 1 from Nat.le_succ _) _
  exact s3B
set_option maxHeartbeats 2000000 in
theorem heb_to_low (y n : Int) (l : Bool) (d : Int) (w : World) (hy : I64 y) (hT : Tab w 1 kevCells) (hL : Tab w 0 lenCells) (h1 : 1 ≤ y) (h2 : y ≤ 9999) (hp : Cal.plOk (Cal.leap y) n l = true) (hd1 : d < 1) :
    Calls Tryd.prog 38 #[.agg #[.int .i64 y, .int .i64 n, .bool l, .int .i64 d]] w fun e w' => e = .returned (.agg #[.int .i64 (Cal.first y), .int .i64 (Cal.first y % 7), .int .i64 (Cal.kind y), .bool (Cal.leap y), .int .i64 (Cal.plV (Cal.leap y) n l), .int .i64 (0), .int .i64 (4)]) ∧ Below w.heap.size w w' := by
  have hw1 := hT.lt
  have hw2 := hL.lt
  go_enter Tryd.func38, Tryd.ntmps38
  go_wp2_with fail
  refine settleC (fun W => ToSt w W y n l d ∧ PathAt W (w.heap.size + 1 + 1) 0 0 0 false 0 0 0) ⟨⟨by simp [go_sem], by simp [go_sem], by simp [go_sem], by simp [go_sem], by (simp; omega), ⟨by simp [go_sem], by simp [go_sem], by simp [go_sem], by simp [go_sem], by simp [go_sem], by simp [go_sem], by simp [go_sem], fun i => by simp [go_sem], by simp⟩, baa (baa (ba _ _) _) _, Tab.below hT (baa (baa (ba _ _) _) _), Tab.below hL (baa (baa (ba _ _) _) _)⟩, ⟨by simp [go_sem], by simp [go_sem], by simp [go_sem], by simp [go_sem], by simp [go_sem], by simp [go_sem], by simp [go_sem], fun i => by simp [go_sem], by simp⟩⟩ ?_
  rintro W0 ⟨hS0, hP0⟩
  refine (path_year_ok y h1 h2 (w.heap.size + 1 + 1) _ hP0).mono ?_
  rintro e w1 ⟨rfl, hP1, hB1⟩
  have hS1 := ToSt.but hw1 hw2 hS0 hB1
  have hs1 := hS1
  have hq1 := hP1
  obtain ⟨s1b0, s1b1, s1b2, s1b3, s1bs, s1p, s1B, s1T, s1L⟩ := hs1
  obtain ⟨q10, q11, q12, q13, q14, q15, q16, q1f, q1s⟩ := hq1
  have hr1 := s1p
  obtain ⟨r10, r11, r12, r13, r14, r15, r16, r1f, r1s⟩ := hr1
  go_wp2_with fail
  clear s1b0 s1b1 s1b2 s1b3 s1bs s1p q10 q11 q12 q13 q14 q15 q16 q1f q1s r10 r11 r12 r13 r14 r15 r16 r1f r1s
  refine (path_month_ok n l _ _ _ _ hp (w.heap.size + 1 + 1) _ hP1).mono ?_
  rintro e w2 ⟨rfl, hP2, hB2⟩
  have hS2 := ToSt.but hw1 hw2 hS1 hB2
  have hs2 := hS2
  have hq2 := hP2
  obtain ⟨s2b0, s2b1, s2b2, s2b3, s2bs, s2p, s2B, s2T, s2L⟩ := hs2
  obtain ⟨q20, q21, q22, q23, q24, q25, q26, q2f, q2s⟩ := hq2
  have hr2 := s2p
  obtain ⟨r20, r21, r22, r23, r24, r25, r26, r2f, r2s⟩ := hr2
  go_wp2_with fail
  clear s2b0 s2b1 s2b2 s2b3 s2bs s2p q20 q21 q22 q23 q24 q25 q26 q2f q2s r20 r21 r22 r23 r24 r25 r26 r2f r2s
  refine (path_day_low d _ _ _ _ _ hd1 (w.heap.size + 1 + 1) _ s2T s2L hP2).mono ?_
  rintro e w3 ⟨rfl, hP3, hB3⟩
  have hS3 := ToSt.but hw1 hw2 hS2 hB3
  have hs3 := hS3
  have hq3 := hP3
  obtain ⟨s3b0, s3b1, s3b2, s3b3, s3bs, s3p, s3B, s3T, s3L⟩ := hs3
  obtain ⟨q30, q31, q32, q33, q34, q35, q36, q3f, q3s⟩ := hq3
  have hr3 := s3p
  obtain ⟨r30, r31, r32, r33, r34, r35, r36, r3f, r3s⟩ := hr3
  go_wp2_with fail
  refine bodyPost_ret (v := .agg #[.int .i64 (Cal.first y), .int .i64 (Cal.first y % 7), .int .i64 (Cal.kind y), .bool (Cal.leap y), .int .i64 (Cal.plV (Cal.leap y) n l), .int .i64 (0), .int .i64 (4)]) (by simp [results, Tryd.results38, go_sem, *]) rfl ⟨rfl, ?_⟩
  iterate 7 refine Below.setCell ?_ (show w.heap.size ≤ w.heap.size + 1 from Nat.le_succ _) _
  exact s3B
set_option maxHeartbeats 2000000 in
theorem heb_to_high (y n : Int) (l : Bool) (d : Int) (w : World) (hy : I64 y) (hT : Tab w 1 kevCells) (hL : Tab w 0 lenCells) (h1 : 1 ≤ y) (h2 : y ≤ 9999) (hp : Cal.plOk (Cal.leap y) n l = true) (hd1 : 1 ≤ d) (hd2 : D10.dLen y (Cal.plV (Cal.leap y) n l) < d) :
    Calls Tryd.prog 38 #[.agg #[.int .i64 y, .int .i64 n, .bool l, .int .i64 d]] w fun e w' => e = .returned (.agg #[.int .i64 (Cal.first y), .int .i64 (Cal.first y % 7), .int .i64 (Cal.kind y), .bool (Cal.leap y), .int .i64 (Cal.plV (Cal.leap y) n l), .int .i64 (0), .int .i64 (4)]) ∧ Below w.heap.size w w' := by
  have hw1 := hT.lt
  have hw2 := hL.lt
  go_enter Tryd.func38, Tryd.ntmps38
  go_wp2_with fail
  refine settleC (fun W => ToSt w W y n l d ∧ PathAt W (w.heap.size + 1 + 1) 0 0 0 false 0 0 0) ⟨⟨by simp [go_sem], by simp [go_sem], by simp [go_sem], by simp [go_sem], by (simp; omega), ⟨by simp [go_sem], by simp [go_sem], by simp [go_sem], by simp [go_sem], by simp [go_sem], by simp [go_sem], by simp [go_sem], fun i => by simp [go_sem], by simp⟩, baa (baa (ba _ _) _) _, Tab.below hT (baa (baa (ba _ _) _) _), Tab.below hL (baa (baa (ba _ _) _) _)⟩, ⟨by simp [go_sem], by simp [go_sem], by simp [go_sem], by simp [go_sem], by simp [go_sem], by simp [go_sem], by simp [go_sem], fun i => by simp [go_sem], by simp⟩⟩ ?_
  rintro W0 ⟨hS0, hP0⟩
  refine (path_year_ok y h1 h2 (w.heap.size + 1 + 1) _ hP0).mono ?_
  rintro e w1 ⟨rfl, hP1, hB1⟩
  have hS1 := ToSt.but hw1 hw2 hS0 hB1
  have hs1 := hS1
  have hq1 := hP1
  obtain ⟨s1b0, s1b1, s1b2, s1b3, s1bs, s1p, s1B, s1T, s1L⟩ := hs1
  obtain ⟨q10, q11, q12, q13, q14, q15, q16, q1f, q1s⟩ := hq1
  have hr1 := s1p
  obtain ⟨r10, r11, r12, r13, r14, r15, r16, r1f, r1s⟩ := hr1
  go_wp2_with fail
  clear s1b0 s1b1 s1b2 s1b3 s1bs s1p q10 q11 q12 q13 q14 q15 q16 q1f q1s r10 r11 r12 r13 r14 r15 r16 r1f r1s
  refine (path_month_ok n l _ _ _ _ hp (w.heap.size + 1 + 1) _ hP1).mono ?_
  rintro e w2 ⟨rfl, hP2, hB2⟩
  have hS2 := ToSt.but hw1 hw2 hS1 hB2
  have hs2 := hS2
  have hq2 := hP2
  obtain ⟨s2b0, s2b1, s2b2, s2b3, s2bs, s2p, s2B, s2T, s2L⟩ := hs2
  obtain ⟨q20, q21, q22, q23, q24, q25, q26, q2f, q2s⟩ := hq2
  have hr2 := s2p
  obtain ⟨r20, r21, r22, r23, r24, r25, r26, r2f, r2s⟩ := hr2
  go_wp2_with fail
  clear s2b0 s2b1 s2b2 s2b3 s2bs s2p q20 q21 q22 q23 q24 q25 q26 q2f q2s r20 r21 r22 r23 r24 r25 r26 r2f r2s
  refine (path_day_high d _ _ _ _ _ hd1 hd2 (w.heap.size + 1 + 1) _ s2T s2L hP2).mono ?_
  rintro e w3 ⟨rfl, hP3, hB3⟩
  have hS3 := ToSt.but hw1 hw2 hS2 hB3
  have hs3 := hS3
  have hq3 := hP3
  obtain ⟨s3b0, s3b1, s3b2, s3b3, s3bs, s3p, s3B, s3T, s3L⟩ := hs3
  obtain ⟨q30, q31, q32, q33, q34, q35, q36, q3f, q3s⟩ := hq3
  have hr3 := s3p
  obtain ⟨r30, r31, r32, r33, r34, r35, r36, r3f, r3s⟩ := hr3
  go_wp2_with fail
  refine bodyPost_ret (v := .agg #[.int .i64 (Cal.first y), .int .i64 (Cal.first y % 7), .int .i64 (Cal.kind y), .bool (Cal.leap y), .int .i64 (Cal.plV (Cal.leap y) n l), .int .i64 (0), .int .i64 (4)]) (by simp [results, Tryd.results38, go_sem, *]) rfl ⟨rfl, ?_⟩
  iterate 7 refine Below.setCell ?_ (show w.heap.size ≤ w.heap.size + 1 from Nat.le_succ _) _
  exact s3B
set_option maxHeartbeats 2000000 in
theorem heb_to_month (y n : Int) (l : Bool) (d : Int) (w : World) (hy : I64 y) (hT : Tab w 1 kevCells) (hL : Tab w 0 lenCells) (h1 : 1 ≤ y) (h2 : y ≤ 9999) (hp : Cal.plOk (Cal.leap y) n l = false)  :
    Calls Tryd.prog 38 #[.agg #[.int .i64 y, .int .i64 n, .bool l, .int .i64 d]] w fun e w' => e = .returned (.agg #[.int .i64 (Cal.first y), .int .i64 (Cal.first y % 7), .int .i64 (Cal.kind y), .bool (Cal.leap y), .int .i64 (0), .int .i64 (0), .int .i64 (3)]) ∧ Below w.heap.size w w' := by
  have hw1 := hT.lt
  have hw2 := hL.lt
  go_enter Tryd.func38, Tryd.ntmps38
  go_wp2_with fail
  refine settleC (fun W => ToSt w W y n l d ∧ PathAt W (w.heap.size + 1 + 1) 0 0 0 false 0 0 0) ⟨⟨by simp [go_sem], by simp [go_sem], by simp [go_sem], by simp [go_sem], by (simp; omega), ⟨by simp [go_sem], by simp [go_sem], by simp [go_sem], by simp [go_sem], by simp [go_sem], by simp [go_sem], by simp [go_sem], fun i => by simp [go_sem], by simp⟩, baa (baa (ba _ _) _) _, Tab.below hT (baa (baa (ba _ _) _) _), Tab.below hL (baa (baa (ba _ _) _) _)⟩, ⟨by simp [go_sem], by simp [go_sem], by simp [go_sem], by simp [go_sem], by simp [go_sem], by simp [go_sem], by simp [go_sem], fun i => by simp [go_sem], by simp⟩⟩ ?_
  rintro W0 ⟨hS0, hP0⟩
  refine (path_year_ok y h1 h2 (w.heap.size + 1 + 1) _ hP0).mono ?_
  rintro e w1 ⟨rfl, hP1, hB1⟩
  have hS1 := ToSt.but hw1 hw2 hS0 hB1
  have hs1 := hS1
  have hq1 := hP1
  obtain ⟨s1b0, s1b1, s1b2, s1b3, s1bs, s1p, s1B, s1T, s1L⟩ := hs1
  obtain ⟨q10, q11, q12, q13, q14, q15, q16, q1f, q1s⟩ := hq1
  have hr1 := s1p
  obtain ⟨r10, r11, r12, r13, r14, r15, r16, r1f, r1s⟩ := hr1
  go_wp2_with fail
  clear s1b0 s1b1 s1b2 s1b3 s1bs s1p q10 q11 q12 q13 q14 q15 q16 q1f q1s r10 r11 r12 r13 r14 r15 r16 r1f r1s
  refine (path_month_no n l _ _ _ _ hp (w.heap.size + 1 + 1) _ hP1).mono ?_
  rintro e w2 ⟨rfl, hP2, hB2⟩
  have hS2 := ToSt.but hw1 hw2 hS1 hB2
  have hs2 := hS2
  have hq2 := hP2
  obtain ⟨s2b0, s2b1, s2b2, s2b3, s2bs, s2p, s2B, s2T, s2L⟩ := hs2
  obtain ⟨q20, q21, q22, q23, q24, q25, q26, q2f, q2s⟩ := hq2
  have hr2 := s2p
  obtain ⟨r20, r21, r22, r23, r24, r25, r26, r2f, r2s⟩ := hr2
  go_wp2_with fail
  clear s2b0 s2b1 s2b2 s2b3 s2bs s2p q20 q21 q22 q23 q24 q25 q26 q2f q2s r20 r21 r22 r23 r24 r25 r26 r2f r2s
  refine (path_day_err d _ _ _ _ _ _ _ (by decide) (w.heap.size + 1 + 1) _ hP2).mono ?_
  rintro e w3 ⟨rfl, hP3, hB3⟩
  have hS3 := ToSt.but hw1 hw2 hS2 hB3
  have hs3 := hS3
  have hq3 := hP3
  obtain ⟨s3b0, s3b1, s3b2, s3b3, s3bs, s3p, s3B, s3T, s3L⟩ := hs3
  obtain ⟨q30, q31, q32, q33, q34, q35, q36, q3f, q3s⟩ := hq3
  have hr3 := s3p
  obtain ⟨r30, r31, r32, r33, r34, r35, r36, r3f, r3s⟩ := hr3
  go_wp2_with fail
  refine bodyPost_ret (v := .agg #[.int .i64 (Cal.first y), .int .i64 (Cal.first y % 7), .int .i64 (Cal.kind y), .bool (Cal.leap y), .int .i64 (0), .int .i64 (0), .int .i64 (3)]) (by simp [results, Tryd.results38, go_sem, *]) rfl ⟨rfl, ?_⟩
  iterate 7 refine Below.setCell ?_ (show w.heap.size ≤ w.heap.size + 1 from Nat.le_succ _) _
  exact s3B
set_option maxHeartbeats 2000000 in
theorem heb_to_year (y n : Int) (l : Bool) (d : Int) (w : World) (hy : I64 y) (hT : Tab w 1 kevCells) (hL : Tab w 0 lenCells) (h : y < 1 ∨ 9999 < y)  :
    Calls Tryd.prog 38 #[.agg #[.int .i64 y, .int .i64 n, .bool l, .int .i64 d]] w fun e w' => e = .returned (.agg #[.int .i64 (0), .int .i64 (0), .int .i64 (0), .bool false, .int .i64 (0), .int .i64 (0), .int .i64 (2)]) ∧ Below w.heap.size w w' := by
  have hw1 := hT.lt
  have hw2 := hL.lt
  go_enter Tryd.func38, Tryd.ntmps38
  go_wp2_with fail
  refine settleC (fun W => ToSt w W y n l d ∧ PathAt W (w.heap.size + 1 + 1) 0 0 0 false 0 0 0) ⟨⟨by simp [go_sem], by simp [go_sem], by simp [go_sem], by simp [go_sem], by (simp; omega), ⟨by simp [go_sem], by simp [go_sem], by simp [go_sem], by simp [go_sem], by simp [go_sem], by simp [go_sem], by simp [go_sem], fun i => by simp [go_sem], by simp⟩, baa (baa (ba _ _) _) _, Tab.below hT (baa (baa (ba _ _) _) _), Tab.below hL (baa (baa (ba _ _) _) _)⟩, ⟨by simp [go_sem], by simp [go_sem], by simp [go_sem], by simp [go_sem], by simp [go_sem], by simp [go_sem], by simp [go_sem], fun i => by simp [go_sem], by simp⟩⟩ ?_
  rintro W0 ⟨hS0, hP0⟩
  refine (path_year_no y hy h (w.heap.size + 1 + 1) _ hP0).mono ?_
  rintro e w1 ⟨rfl, hP1, hB1⟩
  have hS1 := ToSt.but hw1 hw2 hS0 hB1
  have hs1 := hS1
  have hq1 := hP1
  obtain ⟨s1b0, s1b1, s1b2, s1b3, s1bs, s1p, s1B, s1T, s1L⟩ := hs1
  obtain ⟨q10, q11, q12, q13, q14, q15, q16, q1f, q1s⟩ := hq1
  have hr1 := s1p
  obtain ⟨r10, r11, r12, r13, r14, r15, r16, r1f, r1s⟩ := hr1
  go_wp2_with fail
  clear s1b0 s1b1 s1b2 s1b3 s1bs s1p q10 q11 q12 q13 q14 q15 q16 q1f q1s r10 r11 r12 r13 r14 r15 r16 r1f r1s
  refine (path_month_err n l _ _ _ _ _ _ _ (by decide) (w.heap.size + 1 + 1) _ hP1).mono ?_
  rintro e w2 ⟨rfl, hP2, hB2⟩
  have hS2 := ToSt.but hw1 hw2 hS1 hB2
  have hs2 := hS2
  have hq2 := hP2
  obtain ⟨s2b0, s2b1, s2b2, s2b3, s2bs, s2p, s2B, s2T, s2L⟩ := hs2
  obtain ⟨q20, q21, q22, q23, q24, q25, q26, q2f, q2s⟩ := hq2
  have hr2 := s2p
  obtain ⟨r20, r21, r22, r23, r24, r25, r26, r2f, r2s⟩ := hr2
  go_wp2_with fail
  clear s2b0 s2b1 s2b2 s2b3 s2bs s2p q20 q21 q22 q23 q24 q25 q26 q2f q2s r20 r21 r22 r23 r24 r25 r26 r2f r2s
  refine (path_day_err d _ _ _ _ _ _ _ (by decide) (w.heap.size + 1 + 1) _ hP2).mono ?_
  rintro e w3 ⟨rfl, hP3, hB3⟩
  have hS3 := ToSt.but hw1 hw2 hS2 hB3
  have hs3 := hS3
  have hq3 := hP3
  obtain ⟨s3b0, s3b1, s3b2, s3b3, s3bs, s3p, s3B, s3T, s3L⟩ := hs3
  obtain ⟨q30, q31, q32, q33, q34, q35, q36, q3f, q3s⟩ := hq3
  have hr3 := s3p
  obtain ⟨r30, r31, r32, r33, r34, r35, r36, r3f, r3s⟩ := hr3
  go_wp2_with fail
  refine bodyPost_ret (v := .agg #[.int .i64 (0), .int .i64 (0), .int .i64 (0), .bool false, .int .i64 (0), .int .i64 (0), .int .i64 (2)]) (by simp [results, Tryd.results38, go_sem, *]) rfl ⟨rfl, ?_⟩
  iterate 7 refine Below.setCell ?_ (show w.heap.size ≤ w.heap.size + 1 from Nat.le_succ _) _
  exact s3B
namespace D10
theorem dateE_cases (y n : Int) (l : Bool) (d : Int) : (Cal.yearIn y = false ∧ dateE y n l d = 2) ∨ (Cal.yearIn y = true ∧ Cal.plOk (Cal.leap y) n l = false ∧ dateE y n l d = 3) ∨
    (Cal.yearIn y = true ∧ Cal.plOk (Cal.leap y) n l = true ∧ d < 1 ∧ dateE y n l d = 4) ∨ (Cal.yearIn y = true ∧ Cal.plOk (Cal.leap y) n l = true ∧ 1 ≤ d ∧ dLen y (Cal.plV (Cal.leap y) n l) < d ∧ dateE y n l d = 4) ∨
    (Cal.yearIn y = true ∧ Cal.plOk (Cal.leap y) n l = true ∧ 1 ≤ d ∧ d ≤ dLen y (Cal.plV (Cal.leap y) n l) ∧ dateE y n l d = 0) := by
  unfold dateE
  cases Cal.yearIn y <;> cases Cal.plOk (Cal.leap y) n l <;> simp
  by_cases c : d < 1
  · left
    refine ⟨c, fun h => ?_⟩
    omega
  · right
    by_cases c2 : dLen y (Cal.plV (Cal.leap y) n l) < d
    · left
      refine ⟨by omega, c2, fun h => ?_⟩
      omega
    · right
      exact ⟨by omega, by omega, by omega, by omega⟩
end D10
set_option maxHeartbeats 1000000 in
theorem heb_to (y n : Int) (l : Bool) (d : Int) (w : World) (hy : I64 y) (hT : Tab w 1 kevCells) (hL : Tab w 0 lenCells) :
    Calls Tryd.prog 38 #[.agg #[.int .i64 y, .int .i64 n, .bool l, .int .i64 d]] w fun e w' => e = .returned (.agg #[.int .i64 (D10.toF y), .int .i64 (Cal.tyB y), .int .i64 (Cal.tyK y), .bool (Cal.tyL y), .int .i64 (D10.toM y n l), .int .i64 (D10.toO y n l d), .int .i64 (D10.dateE y n l d)]) ∧ Below w.heap.size w w' := by
  rcases D10.dateE_cases y n l d with ⟨c, e⟩ | ⟨c, p, e⟩ | ⟨c, p, h3, e⟩ | ⟨c, p, h3, h4, e⟩ | ⟨c, p, h3, h4, e⟩
  · have h := D10.year_out y c
    obtain ⟨_, _, e1, e2, e3⟩ := Cal.year_no y h
    rw [e, e1, e2, e3, show D10.toF y = 0 by simp [D10.toF, c], show D10.toM y n l = 0 by simp [D10.toM, c], show D10.toO y n l d = 0 by simp [D10.toO, e]]
    exact heb_to_year y n l d w hy hT hL h
  all_goals obtain ⟨h1, h2⟩ := D10.year_in y c
  all_goals obtain ⟨_, _, e1, e2, e3⟩ := Cal.year_ok y h1 h2
  · rw [e, e1, e2, e3, show D10.toF y = Cal.first y by simp [D10.toF, c], show D10.toM y n l = 0 by simp [D10.toM, c, p], show D10.toO y n l d = 0 by simp [D10.toO, e]]
    exact heb_to_month y n l d w hy hT hL h1 h2 p
  · rw [e, e1, e2, e3, show D10.toF y = Cal.first y by simp [D10.toF, c], show D10.toM y n l = Cal.plV (Cal.leap y) n l by simp [D10.toM, c, p], show D10.toO y n l d = 0 by simp [D10.toO, e]]
    exact heb_to_low y n l d w hy hT hL h1 h2 p h3
  · rw [e, e1, e2, e3, show D10.toF y = Cal.first y by simp [D10.toF, c], show D10.toM y n l = Cal.plV (Cal.leap y) n l by simp [D10.toM, c, p], show D10.toO y n l d = 0 by simp [D10.toO, e]]
    exact heb_to_high y n l d w hy hT hL h1 h2 p h3 h4
  · rw [e, e1, e2, e3, show D10.toF y = Cal.first y by simp [D10.toF, c], show D10.toM y n l = Cal.plV (Cal.leap y) n l by simp [D10.toM, c, p], show D10.toO y n l d = D10.dAhead y (Cal.plV (Cal.leap y) n l) + d - 1 by simp [D10.toO, e]]
    exact heb_to_ok y n l d w hy hT hL h1 h2 p h3 h4
end Go.Proofs.YtgcpflbpiifdbaaDoor
