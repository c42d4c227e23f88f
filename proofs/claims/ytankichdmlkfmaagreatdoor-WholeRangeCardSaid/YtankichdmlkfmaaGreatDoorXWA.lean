import Derived.Test.YtankichdmlkfmaaGreatDoorXDA
set_option maxHeartbeats 8000000
set_option maxRecDepth 100000
set_option linter.unusedSimpArgs false
set_option linter.unusedVariables false
namespace Go.Proofs.YtankichdmlkfmaaGreatDoor
section
open Go.ChangeShapes Go.WideShapes Go.ChangeAt Go.RowKit Go.Lib Go.Sort Go.Shelf
theorem keviah_Long_out (y : Int) (w : World) (hy : I64 y) (h : y < 1 ∨ 9999 < y) :
  Calls Tryo.prog 22 #[.int .i64 (y)] w fun e w' => e = .returned (.tuple #[.int .i64 (0), .int .i64 (2)]) ∧ Below w.heap.size w w' := by
 have HA := Lib.hid (fun w => keviah_ends_no y w hy h)
 clear h
 go_enter Tryo.func22, Tryz.ntmps22
 go_wp2_with fail
 refine (HA.out _).mono ?_
 rintro e w1 ⟨rfl, hb1⟩
 obtain ⟨hc1, hf1⟩ := bcell hb1
 have hz1 := hb1.size
 try simp at hz1
 go_wp2_with fail
 go_ret2
 exact ⟨rfl, hb1⟩
theorem feast_Of_no1 (y : Int) (w : World) (h : y < 1 ∨ 9999 < y) : Calls Tryo.prog 24 #[.int .i64 y, .int .i64 1] w fun e w' => e = .returned (.tuple #[.slice none 0 0, .int .i64 2]) ∧ w = w' := by
 by_cases c : y < 1
 ·exact feast_Of_below_1 y w c
 ·exact feast_Of_above_1 y w c (by omega)
theorem heb_ToDay_no1 (y : Int) (w : World) (hy : I64 y) (h : y < 1 ∨ 9999 < y) (hT : Tab w 7 kevCells) (hL : Tab w 6 lenCells) :
  Calls Tryo.prog 18 #[.agg #[.int .i64 y, .int .i64 1, .bool false, .int .i64 1]] w fun e w' => e = .returned (.tuple #[.int .i64 0, .int .i64 2]) ∧ Below w.heap.size w w' := by
 have k := heb_ToDay y 1 false 1 w hy hT hL
 have e : D10.dateE y 1 false 1 = 2 := by unfold D10.dateE; rw [Cal.yearIn_no y (by omega)]; rfl
 have e2 : D10.dayV y 1 false 1 = 0 := by unfold D10.dayV; rw [e]; rfl
 rwa [e, e2] at k
end
section
open Go.ChangeShapes Go.WideShapes Go.ChangeAt Go.RowKit Go.Lib Go.Sort Go.Shelf
theorem WholeRange_il (y n a1 b1 b2 : Int) (b3 : Bool) (b4 c1 c2 c3 d1 d2 d3 : Int) (d4 : Bool) (d5 d6 d7 d8 d9 d10 d11 d12 d13 s1 : Int) (w : World) (hy : I64 y) (hyi : 1 ≤ y) (hyj : y ≤ 9999) (hn : n < -1373427) (hT : Tab w 7 kevCells) (hL : Tab w 6 lenCells) (hF : Tab w 2 Fe.cells) (hA : Tab w 3 Fa.cells) (hG : Tab w 4 Gr.gregCells) (hP : Tab w 5 powCells)
  (HCl : Hid (∀ w : World, Calls Tryo.prog 27 #[.int .i64 n] w fun e w' => e = .returned (.tuple #[.int .i64 a1, .int .i64 2]) ∧ Below w.heap.size w w'))
  (HHb : Hid (∀ w : World, Tab w 7 kevCells → Tab w 6 lenCells → Calls Tryo.prog 28 #[.int .i64 n] w fun e w' => e = .returned (.tuple #[.agg #[.int .i64 b1, .int .i64 b2, .bool b3, .int .i64 b4], .int .i64 2]) ∧ Below w.heap.size w w'))
  (HGr : Hid (∀ w : World, Tab w 4 Gr.gregCells → Calls Tryo.prog 29 #[.int .i64 n] w fun e w' => e = .returned (.tuple #[.agg #[.int .i64 c1, .int .i64 c2, .int .i64 c3], .int .i64 2]) ∧ Below w.heap.size w w'))
  (HDy : Hid (∀ w : World, Tab w 7 kevCells → Tab w 6 lenCells → Tab w 2 Fe.cells → Tab w 3 Fa.cells → Tab w 4 Gr.gregCells → Calls Tryo.prog 30 #[.int .i64 n, .int .i64 1] w fun e w' => ∃ v p m c, v = .slice p m c ∧ e = .returned (.tuple #[.agg #[.int .i64 d1, .int .i64 d2, .int .i64 d3, .bool d4, .int .i64 d5, .int .i64 d6, .int .i64 d7, .int .i64 d8, .int .i64 d9, .int .i64 d10, v, .int .i64 d11, .int .i64 d12, .int .i64 d13], .int .i64 2]) ∧ Below w.heap.size w w'))
  (HSp : Hid (∀ w : World, Tab w 7 kevCells → Tab w 6 lenCells → Calls Tryo.prog 31 #[.int .i64 n] w fun e w' => e = .returned (.tuple #[.int .i64 s1, .int .i64 2]) ∧ Below w.heap.size w w')) :
  Calls Tryo.prog 5 #[.int .i64 y, .int .i64 n] w fun e w' => e = .returned (.bool true) ∧ Below w.heap.size w w' := by
 have o1 : decide (n < -1373427) = true := decide_eq_true hn
 have HLs := Lib.hid (fun w => closed_Last w)
 have HW := Lib.hid (fun w hT hL hG hF hP => awake28 w hT hL hG hF hP)
 have HRt := Lib.hid (fun w => (Cal.yearIn_yes y hyi hyj ▸ ref7_Right y w hy : Calls Tryo.prog 21 #[.int .i64 y] w fun e w' => e = .returned (.bool true) ∧ w = w'))
 clear hn
 go_enter Tryo.func5, Tryz.ntmps5
 go_wp2_with fail
 refine (HRt.out _).mono ?_
 rintro e w' ⟨rfl, rfl⟩
 go_wp2_with fail
 refine (HCl.out _).mono ?_
 rintro e w4 ⟨rfl, hb4⟩
 have hB4 : Below w.heap.size w w4 := bel
 clear hb4
 go_wp2_with fail
 refine (HHb.out _ (Tab.below hT bel) (Tab.below hL bel)).mono ?_
 rintro e w5 ⟨rfl, hb5⟩
 have hB5 : Below w.heap.size w w5 := bel
 clear hb5
 go_wp2_with fail
 refine (HGr.out _ (Tab.below hG bel)).mono ?_
 rintro e w6 ⟨rfl, hb6⟩
 have hB6 : Below w.heap.size w w6 := bel
 clear hb6
 go_wp2_with fail
 refine (HDy.out _ (Tab.below hT bel) (Tab.below hL bel) (Tab.below hF bel) (Tab.below hA bel) (Tab.below hG bel)).mono ?_
 rintro e w7 ⟨v7, p7, m7, q7, rfl, rfl, hb7⟩
 have hB7 : Below w.heap.size w w7 := bel
 clear hb7
 go_wp2_with fail
 refine (HSp.out _ (Tab.below hT bel) (Tab.below hL bel)).mono ?_
 rintro e w8 ⟨rfl, hb8⟩
 have hB8 : Below w.heap.size w w8 := bel
 clear hb8
 go_wp2_with fail
 refine (HW.out _ (Tab.below hT bel) (Tab.below hL bel) (Tab.below hG bel) (Tab.below hF bel) (Tab.below hP bel)).mono ?_
 rintro e w9 ⟨rfl, hb9⟩
 have hB9 : Below w.heap.size w w9 := bel
 clear hb9
 go_wp2_with fail
 go_ret
 refine ⟨rfl, ?_⟩
 exact bel
end
section
open Go.ChangeShapes Go.WideShapes Go.ChangeAt Go.RowKit Go.Lib Go.Sort Go.Shelf
theorem WholeRange_ih (y n a1 b1 b2 : Int) (b3 : Bool) (b4 c1 c2 c3 d1 d2 d3 : Int) (d4 : Bool) (d5 d6 d7 d8 d9 d10 d11 d12 d13 s1 : Int) (w : World) (hy : I64 y) (hyi : 1 ≤ y) (hyj : y ≤ 9999) (hn : 2278650 < n) (hT : Tab w 7 kevCells) (hL : Tab w 6 lenCells) (hF : Tab w 2 Fe.cells) (hA : Tab w 3 Fa.cells) (hG : Tab w 4 Gr.gregCells) (hP : Tab w 5 powCells)
  (HCl : Hid (∀ w : World, Calls Tryo.prog 27 #[.int .i64 n] w fun e w' => e = .returned (.tuple #[.int .i64 a1, .int .i64 2]) ∧ Below w.heap.size w w'))
  (HHb : Hid (∀ w : World, Tab w 7 kevCells → Tab w 6 lenCells → Calls Tryo.prog 28 #[.int .i64 n] w fun e w' => e = .returned (.tuple #[.agg #[.int .i64 b1, .int .i64 b2, .bool b3, .int .i64 b4], .int .i64 2]) ∧ Below w.heap.size w w'))
  (HGr : Hid (∀ w : World, Tab w 4 Gr.gregCells → Calls Tryo.prog 29 #[.int .i64 n] w fun e w' => e = .returned (.tuple #[.agg #[.int .i64 c1, .int .i64 c2, .int .i64 c3], .int .i64 2]) ∧ Below w.heap.size w w'))
  (HDy : Hid (∀ w : World, Tab w 7 kevCells → Tab w 6 lenCells → Tab w 2 Fe.cells → Tab w 3 Fa.cells → Tab w 4 Gr.gregCells → Calls Tryo.prog 30 #[.int .i64 n, .int .i64 1] w fun e w' => ∃ v p m c, v = .slice p m c ∧ e = .returned (.tuple #[.agg #[.int .i64 d1, .int .i64 d2, .int .i64 d3, .bool d4, .int .i64 d5, .int .i64 d6, .int .i64 d7, .int .i64 d8, .int .i64 d9, .int .i64 d10, v, .int .i64 d11, .int .i64 d12, .int .i64 d13], .int .i64 2]) ∧ Below w.heap.size w w'))
  (HSp : Hid (∀ w : World, Tab w 7 kevCells → Tab w 6 lenCells → Calls Tryo.prog 31 #[.int .i64 n] w fun e w' => e = .returned (.tuple #[.int .i64 s1, .int .i64 2]) ∧ Below w.heap.size w w')) :
  Calls Tryo.prog 5 #[.int .i64 y, .int .i64 n] w fun e w' => e = .returned (.bool true) ∧ Below w.heap.size w w' := by
 have o1 : decide (n < -1373427) = false := decide_eq_false (by omega)
 have o2 : decide (n > 2278650) = true := decide_eq_true (by omega)
 have o3 : decide (2278650 < n) = true := decide_eq_true (by omega)
 have HLs := Lib.hid (fun w => closed_Last w)
 have HW := Lib.hid (fun w hT hL hG hF hP => awake28 w hT hL hG hF hP)
 have HRt := Lib.hid (fun w => (Cal.yearIn_yes y hyi hyj ▸ ref7_Right y w hy : Calls Tryo.prog 21 #[.int .i64 y] w fun e w' => e = .returned (.bool true) ∧ w = w'))
 clear hn
 go_enter Tryo.func5, Tryz.ntmps5
 go_wp2_with fail
 refine (HRt.out _).mono ?_
 rintro e w' ⟨rfl, rfl⟩
 go_wp2_with fail
 refine (HCl.out _).mono ?_
 rintro e w4 ⟨rfl, hb4⟩
 have hB4 : Below w.heap.size w w4 := bel
 clear hb4
 go_wp2_with fail
 refine (HHb.out _ (Tab.below hT bel) (Tab.below hL bel)).mono ?_
 rintro e w5 ⟨rfl, hb5⟩
 have hB5 : Below w.heap.size w w5 := bel
 clear hb5
 go_wp2_with fail
 refine (HGr.out _ (Tab.below hG bel)).mono ?_
 rintro e w6 ⟨rfl, hb6⟩
 have hB6 : Below w.heap.size w w6 := bel
 clear hb6
 go_wp2_with fail
 refine (HDy.out _ (Tab.below hT bel) (Tab.below hL bel) (Tab.below hF bel) (Tab.below hA bel) (Tab.below hG bel)).mono ?_
 rintro e w7 ⟨v7, p7, m7, q7, rfl, rfl, hb7⟩
 have hB7 : Below w.heap.size w w7 := bel
 clear hb7
 go_wp2_with fail
 refine (HSp.out _ (Tab.below hT bel) (Tab.below hL bel)).mono ?_
 rintro e w8 ⟨rfl, hb8⟩
 have hB8 : Below w.heap.size w w8 := bel
 clear hb8
 go_wp2_with fail
 refine (HLs.out _).mono ?_
 rintro e w' ⟨rfl, rfl⟩
 go_wp2_with fail
 refine (HW.out _ (Tab.below hT bel) (Tab.below hL bel) (Tab.below hG bel) (Tab.below hF bel) (Tab.below hP bel)).mono ?_
 rintro e w9 ⟨rfl, hb9⟩
 have hB9 : Below w.heap.size w w9 := bel
 clear hb9
 go_wp2_with fail
 go_ret
 refine ⟨rfl, ?_⟩
 exact bel
end
section
open Go.ChangeShapes Go.WideShapes Go.ChangeAt Go.RowKit Go.Lib Go.Sort Go.Shelf
theorem WholeRange_im (y n a1 b1 b2 : Int) (b3 : Bool) (b4 c1 c2 c3 d1 d2 d3 : Int) (d4 : Bool) (d5 d6 d7 d8 d9 d10 d11 d12 d13 s1 : Int) (w : World) (hy : I64 y) (hyi : 1 ≤ y) (hyj : y ≤ 9999) (hn : -1373427 ≤ n) (hn2 : n ≤ 2278650) (hT : Tab w 7 kevCells) (hL : Tab w 6 lenCells) (hF : Tab w 2 Fe.cells) (hA : Tab w 3 Fa.cells) (hG : Tab w 4 Gr.gregCells) (hP : Tab w 5 powCells)
  (HCl : Hid (∀ w : World, Calls Tryo.prog 27 #[.int .i64 n] w fun e w' => e = .returned (.tuple #[.int .i64 a1, .int .i64 0]) ∧ Below w.heap.size w w'))
  (HHb : Hid (∀ w : World, Tab w 7 kevCells → Tab w 6 lenCells → Calls Tryo.prog 28 #[.int .i64 n] w fun e w' => e = .returned (.tuple #[.agg #[.int .i64 b1, .int .i64 b2, .bool b3, .int .i64 b4], .int .i64 0]) ∧ Below w.heap.size w w'))
  (HGr : Hid (∀ w : World, Tab w 4 Gr.gregCells → Calls Tryo.prog 29 #[.int .i64 n] w fun e w' => e = .returned (.tuple #[.agg #[.int .i64 c1, .int .i64 c2, .int .i64 c3], .int .i64 0]) ∧ Below w.heap.size w w'))
  (HDy : Hid (∀ w : World, Tab w 7 kevCells → Tab w 6 lenCells → Tab w 2 Fe.cells → Tab w 3 Fa.cells → Tab w 4 Gr.gregCells → Calls Tryo.prog 30 #[.int .i64 n, .int .i64 1] w fun e w' => ∃ v p m c, v = .slice p m c ∧ e = .returned (.tuple #[.agg #[.int .i64 d1, .int .i64 d2, .int .i64 d3, .bool d4, .int .i64 d5, .int .i64 d6, .int .i64 d7, .int .i64 d8, .int .i64 d9, .int .i64 d10, v, .int .i64 d11, .int .i64 d12, .int .i64 d13], .int .i64 0]) ∧ Below w.heap.size w w'))
  (HSp : Hid (∀ w : World, Tab w 7 kevCells → Tab w 6 lenCells → Calls Tryo.prog 31 #[.int .i64 n] w fun e w' => e = .returned (.tuple #[.int .i64 s1, .int .i64 0]) ∧ Below w.heap.size w w')) :
  Calls Tryo.prog 5 #[.int .i64 y, .int .i64 n] w fun e w' => e = .returned (.bool true) ∧ Below w.heap.size w w' := by
 have o1 : decide (n < -1373427) = false := decide_eq_false (by omega)
 have o2 : decide (n > 2278650) = false := decide_eq_false (by omega)
 have o3 : decide (2278650 < n) = false := decide_eq_false (by omega)
 have HLs := Lib.hid (fun w => closed_Last w)
 have HW := Lib.hid (fun w hT hL hG hF hP => awake28 w hT hL hG hF hP)
 have HRt := Lib.hid (fun w => (Cal.yearIn_yes y hyi hyj ▸ ref7_Right y w hy : Calls Tryo.prog 21 #[.int .i64 y] w fun e w' => e = .returned (.bool true) ∧ w = w'))
 clear hn hn2
 go_enter Tryo.func5, Tryz.ntmps5
 go_wp2_with fail
 refine (HRt.out _).mono ?_
 rintro e w' ⟨rfl, rfl⟩
 go_wp2_with fail
 refine (HCl.out _).mono ?_
 rintro e w4 ⟨rfl, hb4⟩
 have hB4 : Below w.heap.size w w4 := bel
 clear hb4
 go_wp2_with fail
 refine (HHb.out _ (Tab.below hT bel) (Tab.below hL bel)).mono ?_
 rintro e w5 ⟨rfl, hb5⟩
 have hB5 : Below w.heap.size w w5 := bel
 clear hb5
 go_wp2_with fail
 refine (HGr.out _ (Tab.below hG bel)).mono ?_
 rintro e w6 ⟨rfl, hb6⟩
 have hB6 : Below w.heap.size w w6 := bel
 clear hb6
 go_wp2_with fail
 refine (HDy.out _ (Tab.below hT bel) (Tab.below hL bel) (Tab.below hF bel) (Tab.below hA bel) (Tab.below hG bel)).mono ?_
 rintro e w7 ⟨v7, p7, m7, q7, rfl, rfl, hb7⟩
 have hB7 : Below w.heap.size w w7 := bel
 clear hb7
 go_wp2_with fail
 refine (HSp.out _ (Tab.below hT bel) (Tab.below hL bel)).mono ?_
 rintro e w8 ⟨rfl, hb8⟩
 have hB8 : Below w.heap.size w w8 := bel
 clear hb8
 go_wp2_with fail
 refine (HLs.out _).mono ?_
 rintro e w' ⟨rfl, rfl⟩
 go_wp2_with fail
 refine (HW.out _ (Tab.below hT bel) (Tab.below hL bel) (Tab.below hG bel) (Tab.below hF bel) (Tab.below hP bel)).mono ?_
 rintro e w9 ⟨rfl, hb9⟩
 have hB9 : Below w.heap.size w w9 := bel
 clear hb9
 go_wp2_with fail
 go_ret
 refine ⟨rfl, ?_⟩
 exact bel
end
section
open Go.ChangeShapes Go.WideShapes Go.ChangeAt Go.RowKit Go.Lib Go.Sort Go.Shelf
theorem WholeRange_ol (y n a1 b1 b2 : Int) (b3 : Bool) (b4 c1 c2 c3 d1 d2 d3 : Int) (d4 : Bool) (d5 d6 d7 d8 d9 d10 d11 d12 d13 s1 : Int) (w : World) (hy : I64 y) (hyo : y < 1 ∨ 9999 < y) (hn : n < -1373427) (hT : Tab w 7 kevCells) (hL : Tab w 6 lenCells) (hF : Tab w 2 Fe.cells) (hA : Tab w 3 Fa.cells) (hG : Tab w 4 Gr.gregCells) (hP : Tab w 5 powCells)
  (HCl : Hid (∀ w : World, Calls Tryo.prog 27 #[.int .i64 n] w fun e w' => e = .returned (.tuple #[.int .i64 a1, .int .i64 2]) ∧ Below w.heap.size w w'))
  (HHb : Hid (∀ w : World, Tab w 7 kevCells → Tab w 6 lenCells → Calls Tryo.prog 28 #[.int .i64 n] w fun e w' => e = .returned (.tuple #[.agg #[.int .i64 b1, .int .i64 b2, .bool b3, .int .i64 b4], .int .i64 2]) ∧ Below w.heap.size w w'))
  (HGr : Hid (∀ w : World, Tab w 4 Gr.gregCells → Calls Tryo.prog 29 #[.int .i64 n] w fun e w' => e = .returned (.tuple #[.agg #[.int .i64 c1, .int .i64 c2, .int .i64 c3], .int .i64 2]) ∧ Below w.heap.size w w'))
  (HDy : Hid (∀ w : World, Tab w 7 kevCells → Tab w 6 lenCells → Tab w 2 Fe.cells → Tab w 3 Fa.cells → Tab w 4 Gr.gregCells → Calls Tryo.prog 30 #[.int .i64 n, .int .i64 1] w fun e w' => ∃ v p m c, v = .slice p m c ∧ e = .returned (.tuple #[.agg #[.int .i64 d1, .int .i64 d2, .int .i64 d3, .bool d4, .int .i64 d5, .int .i64 d6, .int .i64 d7, .int .i64 d8, .int .i64 d9, .int .i64 d10, v, .int .i64 d11, .int .i64 d12, .int .i64 d13], .int .i64 2]) ∧ Below w.heap.size w w'))
  (HSp : Hid (∀ w : World, Tab w 7 kevCells → Tab w 6 lenCells → Calls Tryo.prog 31 #[.int .i64 n] w fun e w' => e = .returned (.tuple #[.int .i64 s1, .int .i64 2]) ∧ Below w.heap.size w w')) :
  Calls Tryo.prog 5 #[.int .i64 y, .int .i64 n] w fun e w' => e = .returned (.bool true) ∧ Below w.heap.size w w' := by
 have o1 : decide (n < -1373427) = true := decide_eq_true hn
 have HLs := Lib.hid (fun w => closed_Last w)
 have HW := Lib.hid (fun w hT hL hG hF hP => awake28 w hT hL hG hF hP)
 have HRt := Lib.hid (fun w => (Cal.yearIn_no y (by omega) ▸ ref7_Right y w hy : Calls Tryo.prog 21 #[.int .i64 y] w fun e w' => e = .returned (.bool false) ∧ w = w'))
 have HA := Lib.hid (fun w => keviah_Long_out y w hy hyo)
 have HB := Lib.hid (fun w => keviah_Of_no y w hy hyo)
 have HC := Lib.hid (fun w => feast_Of_no1 y w hyo)
 have HD := Lib.hid (fun w => fast_Of_no y w hyo)
 have HE := Lib.hid (fun w => special_Of_no y w hyo)
 have HF' := Lib.hid (fun w hT hL => heb_ToDay_no1 y w hy hyo hT hL)
 have HG' := Lib.hid (fun w => rd_Cycle_out y false w (by omega))
 simp only [Bool.false_eq_true, if_false] at HG'
 clear hyo
 clear hn
 go_enter Tryo.func5, Tryz.ntmps5
 go_wp2_with fail
 refine (HRt.out _).mono ?_
 rintro e w' ⟨rfl, rfl⟩
 go_wp2_with fail
 refine (HA.out _).mono ?_
 rintro e w1 ⟨rfl, hb1⟩
 have hB1 : Below w.heap.size w w1 := bel
 clear hb1
 go_wp2_with fail
 refine (HB.out _).mono ?_
 rintro e w2 ⟨rfl, hb2⟩
 have hB2 : Below w.heap.size w w2 := bel
 clear hb2
 go_wp2_with fail
 refine (HC.out _).mono ?_
 rintro e w' ⟨rfl, rfl⟩
 go_wp2_with fail
 refine (HD.out _).mono ?_
 rintro e w' ⟨rfl, rfl⟩
 go_wp2_with fail
 refine (HE.out _).mono ?_
 rintro e w' ⟨rfl, rfl⟩
 go_wp2_with fail
 refine (HF'.out _ (Tab.below hT bel) (Tab.below hL bel)).mono ?_
 rintro e w3 ⟨rfl, hb3⟩
 have hB3 : Below w.heap.size w w3 := bel
 clear hb3
 go_wp2_with fail
 refine (HG'.out _).mono ?_
 rintro e w' ⟨rfl, rfl⟩
 go_wp2_with fail
 refine (HCl.out _).mono ?_
 rintro e w4 ⟨rfl, hb4⟩
 have hB4 : Below w.heap.size w w4 := bel
 clear hb4
 go_wp2_with fail
 refine (HHb.out _ (Tab.below hT bel) (Tab.below hL bel)).mono ?_
 rintro e w5 ⟨rfl, hb5⟩
 have hB5 : Below w.heap.size w w5 := bel
 clear hb5
 go_wp2_with fail
 refine (HGr.out _ (Tab.below hG bel)).mono ?_
 rintro e w6 ⟨rfl, hb6⟩
 have hB6 : Below w.heap.size w w6 := bel
 clear hb6
 go_wp2_with fail
 refine (HDy.out _ (Tab.below hT bel) (Tab.below hL bel) (Tab.below hF bel) (Tab.below hA bel) (Tab.below hG bel)).mono ?_
 rintro e w7 ⟨v7, p7, m7, q7, rfl, rfl, hb7⟩
 have hB7 : Below w.heap.size w w7 := bel
 clear hb7
 go_wp2_with fail
 refine (HSp.out _ (Tab.below hT bel) (Tab.below hL bel)).mono ?_
 rintro e w8 ⟨rfl, hb8⟩
 have hB8 : Below w.heap.size w w8 := bel
 clear hb8
 go_wp2_with fail
 refine (HW.out _ (Tab.below hT bel) (Tab.below hL bel) (Tab.below hG bel) (Tab.below hF bel) (Tab.below hP bel)).mono ?_
 rintro e w9 ⟨rfl, hb9⟩
 have hB9 : Below w.heap.size w w9 := bel
 clear hb9
 go_wp2_with fail
 go_ret
 refine ⟨rfl, ?_⟩
 exact bel
end
section
open Go.ChangeShapes Go.WideShapes Go.ChangeAt Go.RowKit Go.Lib Go.Sort Go.Shelf
theorem WholeRange_oh (y n a1 b1 b2 : Int) (b3 : Bool) (b4 c1 c2 c3 d1 d2 d3 : Int) (d4 : Bool) (d5 d6 d7 d8 d9 d10 d11 d12 d13 s1 : Int) (w : World) (hy : I64 y) (hyo : y < 1 ∨ 9999 < y) (hn : 2278650 < n) (hT : Tab w 7 kevCells) (hL : Tab w 6 lenCells) (hF : Tab w 2 Fe.cells) (hA : Tab w 3 Fa.cells) (hG : Tab w 4 Gr.gregCells) (hP : Tab w 5 powCells)
  (HCl : Hid (∀ w : World, Calls Tryo.prog 27 #[.int .i64 n] w fun e w' => e = .returned (.tuple #[.int .i64 a1, .int .i64 2]) ∧ Below w.heap.size w w'))
  (HHb : Hid (∀ w : World, Tab w 7 kevCells → Tab w 6 lenCells → Calls Tryo.prog 28 #[.int .i64 n] w fun e w' => e = .returned (.tuple #[.agg #[.int .i64 b1, .int .i64 b2, .bool b3, .int .i64 b4], .int .i64 2]) ∧ Below w.heap.size w w'))
  (HGr : Hid (∀ w : World, Tab w 4 Gr.gregCells → Calls Tryo.prog 29 #[.int .i64 n] w fun e w' => e = .returned (.tuple #[.agg #[.int .i64 c1, .int .i64 c2, .int .i64 c3], .int .i64 2]) ∧ Below w.heap.size w w'))
  (HDy : Hid (∀ w : World, Tab w 7 kevCells → Tab w 6 lenCells → Tab w 2 Fe.cells → Tab w 3 Fa.cells → Tab w 4 Gr.gregCells → Calls Tryo.prog 30 #[.int .i64 n, .int .i64 1] w fun e w' => ∃ v p m c, v = .slice p m c ∧ e = .returned (.tuple #[.agg #[.int .i64 d1, .int .i64 d2, .int .i64 d3, .bool d4, .int .i64 d5, .int .i64 d6, .int .i64 d7, .int .i64 d8, .int .i64 d9, .int .i64 d10, v, .int .i64 d11, .int .i64 d12, .int .i64 d13], .int .i64 2]) ∧ Below w.heap.size w w'))
  (HSp : Hid (∀ w : World, Tab w 7 kevCells → Tab w 6 lenCells → Calls Tryo.prog 31 #[.int .i64 n] w fun e w' => e = .returned (.tuple #[.int .i64 s1, .int .i64 2]) ∧ Below w.heap.size w w')) :
  Calls Tryo.prog 5 #[.int .i64 y, .int .i64 n] w fun e w' => e = .returned (.bool true) ∧ Below w.heap.size w w' := by
 have o1 : decide (n < -1373427) = false := decide_eq_false (by omega)
 have o2 : decide (n > 2278650) = true := decide_eq_true (by omega)
 have o3 : decide (2278650 < n) = true := decide_eq_true (by omega)
 have HLs := Lib.hid (fun w => closed_Last w)
 have HW := Lib.hid (fun w hT hL hG hF hP => awake28 w hT hL hG hF hP)
 have HRt := Lib.hid (fun w => (Cal.yearIn_no y (by omega) ▸ ref7_Right y w hy : Calls Tryo.prog 21 #[.int .i64 y] w fun e w' => e = .returned (.bool false) ∧ w = w'))
 have HA := Lib.hid (fun w => keviah_Long_out y w hy hyo)
 have HB := Lib.hid (fun w => keviah_Of_no y w hy hyo)
 have HC := Lib.hid (fun w => feast_Of_no1 y w hyo)
 have HD := Lib.hid (fun w => fast_Of_no y w hyo)
 have HE := Lib.hid (fun w => special_Of_no y w hyo)
 have HF' := Lib.hid (fun w hT hL => heb_ToDay_no1 y w hy hyo hT hL)
 have HG' := Lib.hid (fun w => rd_Cycle_out y false w (by omega))
 simp only [Bool.false_eq_true, if_false] at HG'
 clear hyo
 clear hn
 go_enter Tryo.func5, Tryz.ntmps5
 go_wp2_with fail
 refine (HRt.out _).mono ?_
 rintro e w' ⟨rfl, rfl⟩
 go_wp2_with fail
 refine (HA.out _).mono ?_
 rintro e w1 ⟨rfl, hb1⟩
 have hB1 : Below w.heap.size w w1 := bel
 clear hb1
 go_wp2_with fail
 refine (HB.out _).mono ?_
 rintro e w2 ⟨rfl, hb2⟩
 have hB2 : Below w.heap.size w w2 := bel
 clear hb2
 go_wp2_with fail
 refine (HC.out _).mono ?_
 rintro e w' ⟨rfl, rfl⟩
 go_wp2_with fail
 refine (HD.out _).mono ?_
 rintro e w' ⟨rfl, rfl⟩
 go_wp2_with fail
 refine (HE.out _).mono ?_
 rintro e w' ⟨rfl, rfl⟩
 go_wp2_with fail
 refine (HF'.out _ (Tab.below hT bel) (Tab.below hL bel)).mono ?_
 rintro e w3 ⟨rfl, hb3⟩
 have hB3 : Below w.heap.size w w3 := bel
 clear hb3
 go_wp2_with fail
 refine (HG'.out _).mono ?_
 rintro e w' ⟨rfl, rfl⟩
 go_wp2_with fail
 refine (HCl.out _).mono ?_
 rintro e w4 ⟨rfl, hb4⟩
 have hB4 : Below w.heap.size w w4 := bel
 clear hb4
 go_wp2_with fail
 refine (HHb.out _ (Tab.below hT bel) (Tab.below hL bel)).mono ?_
 rintro e w5 ⟨rfl, hb5⟩
 have hB5 : Below w.heap.size w w5 := bel
 clear hb5
 go_wp2_with fail
 refine (HGr.out _ (Tab.below hG bel)).mono ?_
 rintro e w6 ⟨rfl, hb6⟩
 have hB6 : Below w.heap.size w w6 := bel
 clear hb6
 go_wp2_with fail
 refine (HDy.out _ (Tab.below hT bel) (Tab.below hL bel) (Tab.below hF bel) (Tab.below hA bel) (Tab.below hG bel)).mono ?_
 rintro e w7 ⟨v7, p7, m7, q7, rfl, rfl, hb7⟩
 have hB7 : Below w.heap.size w w7 := bel
 clear hb7
 go_wp2_with fail
 refine (HSp.out _ (Tab.below hT bel) (Tab.below hL bel)).mono ?_
 rintro e w8 ⟨rfl, hb8⟩
 have hB8 : Below w.heap.size w w8 := bel
 clear hb8
 go_wp2_with fail
 refine (HLs.out _).mono ?_
 rintro e w' ⟨rfl, rfl⟩
 go_wp2_with fail
 refine (HW.out _ (Tab.below hT bel) (Tab.below hL bel) (Tab.below hG bel) (Tab.below hF bel) (Tab.below hP bel)).mono ?_
 rintro e w9 ⟨rfl, hb9⟩
 have hB9 : Below w.heap.size w w9 := bel
 clear hb9
 go_wp2_with fail
 go_ret
 refine ⟨rfl, ?_⟩
 exact bel
end
section
open Go.ChangeShapes Go.WideShapes Go.ChangeAt Go.RowKit Go.Lib Go.Sort Go.Shelf
theorem WholeRange_om (y n a1 b1 b2 : Int) (b3 : Bool) (b4 c1 c2 c3 d1 d2 d3 : Int) (d4 : Bool) (d5 d6 d7 d8 d9 d10 d11 d12 d13 s1 : Int) (w : World) (hy : I64 y) (hyo : y < 1 ∨ 9999 < y) (hn : -1373427 ≤ n) (hn2 : n ≤ 2278650) (hT : Tab w 7 kevCells) (hL : Tab w 6 lenCells) (hF : Tab w 2 Fe.cells) (hA : Tab w 3 Fa.cells) (hG : Tab w 4 Gr.gregCells) (hP : Tab w 5 powCells)
  (HCl : Hid (∀ w : World, Calls Tryo.prog 27 #[.int .i64 n] w fun e w' => e = .returned (.tuple #[.int .i64 a1, .int .i64 0]) ∧ Below w.heap.size w w'))
  (HHb : Hid (∀ w : World, Tab w 7 kevCells → Tab w 6 lenCells → Calls Tryo.prog 28 #[.int .i64 n] w fun e w' => e = .returned (.tuple #[.agg #[.int .i64 b1, .int .i64 b2, .bool b3, .int .i64 b4], .int .i64 0]) ∧ Below w.heap.size w w'))
  (HGr : Hid (∀ w : World, Tab w 4 Gr.gregCells → Calls Tryo.prog 29 #[.int .i64 n] w fun e w' => e = .returned (.tuple #[.agg #[.int .i64 c1, .int .i64 c2, .int .i64 c3], .int .i64 0]) ∧ Below w.heap.size w w'))
  (HDy : Hid (∀ w : World, Tab w 7 kevCells → Tab w 6 lenCells → Tab w 2 Fe.cells → Tab w 3 Fa.cells → Tab w 4 Gr.gregCells → Calls Tryo.prog 30 #[.int .i64 n, .int .i64 1] w fun e w' => ∃ v p m c, v = .slice p m c ∧ e = .returned (.tuple #[.agg #[.int .i64 d1, .int .i64 d2, .int .i64 d3, .bool d4, .int .i64 d5, .int .i64 d6, .int .i64 d7, .int .i64 d8, .int .i64 d9, .int .i64 d10, v, .int .i64 d11, .int .i64 d12, .int .i64 d13], .int .i64 0]) ∧ Below w.heap.size w w'))
  (HSp : Hid (∀ w : World, Tab w 7 kevCells → Tab w 6 lenCells → Calls Tryo.prog 31 #[.int .i64 n] w fun e w' => e = .returned (.tuple #[.int .i64 s1, .int .i64 0]) ∧ Below w.heap.size w w')) :
  Calls Tryo.prog 5 #[.int .i64 y, .int .i64 n] w fun e w' => e = .returned (.bool true) ∧ Below w.heap.size w w' := by
 have o1 : decide (n < -1373427) = false := decide_eq_false (by omega)
 have o2 : decide (n > 2278650) = false := decide_eq_false (by omega)
 have o3 : decide (2278650 < n) = false := decide_eq_false (by omega)
 have HLs := Lib.hid (fun w => closed_Last w)
 have HW := Lib.hid (fun w hT hL hG hF hP => awake28 w hT hL hG hF hP)
 have HRt := Lib.hid (fun w => (Cal.yearIn_no y (by omega) ▸ ref7_Right y w hy : Calls Tryo.prog 21 #[.int .i64 y] w fun e w' => e = .returned (.bool false) ∧ w = w'))
 have HA := Lib.hid (fun w => keviah_Long_out y w hy hyo)
 have HB := Lib.hid (fun w => keviah_Of_no y w hy hyo)
 have HC := Lib.hid (fun w => feast_Of_no1 y w hyo)
 have HD := Lib.hid (fun w => fast_Of_no y w hyo)
 have HE := Lib.hid (fun w => special_Of_no y w hyo)
 have HF' := Lib.hid (fun w hT hL => heb_ToDay_no1 y w hy hyo hT hL)
 have HG' := Lib.hid (fun w => rd_Cycle_out y false w (by omega))
 simp only [Bool.false_eq_true, if_false] at HG'
 clear hyo
 clear hn hn2
 go_enter Tryo.func5, Tryz.ntmps5
 go_wp2_with fail
 refine (HRt.out _).mono ?_
 rintro e w' ⟨rfl, rfl⟩
 go_wp2_with fail
 refine (HA.out _).mono ?_
 rintro e w1 ⟨rfl, hb1⟩
 have hB1 : Below w.heap.size w w1 := bel
 clear hb1
 go_wp2_with fail
 refine (HB.out _).mono ?_
 rintro e w2 ⟨rfl, hb2⟩
 have hB2 : Below w.heap.size w w2 := bel
 clear hb2
 go_wp2_with fail
 refine (HC.out _).mono ?_
 rintro e w' ⟨rfl, rfl⟩
 go_wp2_with fail
 refine (HD.out _).mono ?_
 rintro e w' ⟨rfl, rfl⟩
 go_wp2_with fail
 refine (HE.out _).mono ?_
 rintro e w' ⟨rfl, rfl⟩
 go_wp2_with fail
 refine (HF'.out _ (Tab.below hT bel) (Tab.below hL bel)).mono ?_
 rintro e w3 ⟨rfl, hb3⟩
 have hB3 : Below w.heap.size w w3 := bel
 clear hb3
 go_wp2_with fail
 refine (HG'.out _).mono ?_
 rintro e w' ⟨rfl, rfl⟩
 go_wp2_with fail
 refine (HCl.out _).mono ?_
 rintro e w4 ⟨rfl, hb4⟩
 have hB4 : Below w.heap.size w w4 := bel
 clear hb4
 go_wp2_with fail
 refine (HHb.out _ (Tab.below hT bel) (Tab.below hL bel)).mono ?_
 rintro e w5 ⟨rfl, hb5⟩
 have hB5 : Below w.heap.size w w5 := bel
 clear hb5
 go_wp2_with fail
 refine (HGr.out _ (Tab.below hG bel)).mono ?_
 rintro e w6 ⟨rfl, hb6⟩
 have hB6 : Below w.heap.size w w6 := bel
 clear hb6
 go_wp2_with fail
 refine (HDy.out _ (Tab.below hT bel) (Tab.below hL bel) (Tab.below hF bel) (Tab.below hA bel) (Tab.below hG bel)).mono ?_
 rintro e w7 ⟨v7, p7, m7, q7, rfl, rfl, hb7⟩
 have hB7 : Below w.heap.size w w7 := bel
 clear hb7
 go_wp2_with fail
 refine (HSp.out _ (Tab.below hT bel) (Tab.below hL bel)).mono ?_
 rintro e w8 ⟨rfl, hb8⟩
 have hB8 : Below w.heap.size w w8 := bel
 clear hb8
 go_wp2_with fail
 refine (HLs.out _).mono ?_
 rintro e w' ⟨rfl, rfl⟩
 go_wp2_with fail
 refine (HW.out _ (Tab.below hT bel) (Tab.below hL bel) (Tab.below hG bel) (Tab.below hF bel) (Tab.below hP bel)).mono ?_
 rintro e w9 ⟨rfl, hb9⟩
 have hB9 : Below w.heap.size w w9 := bel
 clear hb9
 go_wp2_with fail
 go_ret
 refine ⟨rfl, ?_⟩
 exact bel
end
section
open Go.ChangeShapes Go.WideShapes Go.ChangeAt Go.RowKit Go.Lib Go.Sort Go.Shelf
theorem WholeRange_walk (y n : Int) (hy : I64 y) (hn : I64 n) (w : World) (hT : Tab w 7 kevCells) (hL : Tab w 6 lenCells) (hG : Tab w 4 Gr.gregCells) (hF : Tab w 2 Fe.cells) (hA : Tab w 3 Fa.cells) (hP : Tab w 5 powCells) :
  Calls Tryo.prog 5 #[.int .i64 y, .int .i64 n] w fun e w' => e = .returned (.bool true) ∧ Below w.heap.size w w' := by
 by_cases hyr : 1 ≤ y ∧ y ≤ 9999
 ·by_cases hl : n < -1373427
  ·exact WholeRange_il y n _ _ _ _ _ _ _ _ _ _ _ _ _ _ _ _ _ _ _ _ _ _ w hy hyr.1 hyr.2 hl hT hL hF hA hG hP (Lib.hid fun w => closed_Year_no n w (.inl hl)) (Lib.hid fun w _ _ => heb_FromDay_no n w (.inl hl)) (Lib.hid fun w _ => greg_FromDay_no n w (.inl hl)) (Lib.hid fun w _ _ _ _ _ => (day_Of_no1 n w (.inl hl)).mono (by rintro e w' ⟨rfl, hb⟩; exact ⟨_, _, _, _, rfl, rfl, hb⟩)) (Lib.hid fun w _ _ => special_Named_no n w (.inl hl))
  ·by_cases hh : 2278650 < n
   ·exact WholeRange_ih y n _ _ _ _ _ _ _ _ _ _ _ _ _ _ _ _ _ _ _ _ _ _ w hy hyr.1 hyr.2 hh hT hL hF hA hG hP (Lib.hid fun w => closed_Year_no n w (.inr hh)) (Lib.hid fun w _ _ => heb_FromDay_no n w (.inr hh)) (Lib.hid fun w _ => greg_FromDay_no n w (.inr hh)) (Lib.hid fun w _ _ _ _ _ => (day_Of_no1 n w (.inr hh)).mono (by rintro e w' ⟨rfl, hb⟩; exact ⟨_, _, _, _, rfl, rfl, hb⟩)) (Lib.hid fun w _ _ => special_Named_no n w (.inr hh))
   ·obtain ⟨yd, m, d, hv, rfl⟩ := D10.day_there n (by omega) (by omega)
    obtain ⟨i, hi⟩ := Yr.is_some yd hv.1 hv.2.1
    obtain ⟨g1, g2⟩ := D10.day_in hv
    have hbd := D10.day_bd hv
    obtain ⟨r1, r2, r3, HS⟩ := day_at1 yd m d i hi hv
    exact WholeRange_im y _ _ _ _ _ _ _ _ _ _ _ _ _ _ _ _ _ _ _ _ _ _ _ w hy hyr.1 hyr.2 (by omega) (by omega) hT hL hF hA hG hP (Lib.hid fun w => closed_Year_at _ yd w hv.1 hv.2.1 g1 g2 hbd.1 hbd.2) (Lib.hid fun w hT hL => heb_FromDay_at yd m d w hT hL hv) (Lib.hid fun w hG => greg_FromDay_at _ w hG hbd.1 hbd.2) (Lib.hid fun w hT hL hF hA hG => (HS.out w hT hL hF hA hG).mono (by rintro e w' ⟨v, rfl, hr, hb⟩; obtain ⟨p, c, rfl⟩ := hr.len; exact ⟨_, _, _, _, rfl, rfl, hb⟩)) (Lib.hid fun w hT hL => special_Named_at yd m d i w hi hv hT hL)
 ·by_cases hl : n < -1373427
  ·exact WholeRange_ol y n _ _ _ _ _ _ _ _ _ _ _ _ _ _ _ _ _ _ _ _ _ _ w hy (by omega) hl hT hL hF hA hG hP (Lib.hid fun w => closed_Year_no n w (.inl hl)) (Lib.hid fun w _ _ => heb_FromDay_no n w (.inl hl)) (Lib.hid fun w _ => greg_FromDay_no n w (.inl hl)) (Lib.hid fun w _ _ _ _ _ => (day_Of_no1 n w (.inl hl)).mono (by rintro e w' ⟨rfl, hb⟩; exact ⟨_, _, _, _, rfl, rfl, hb⟩)) (Lib.hid fun w _ _ => special_Named_no n w (.inl hl))
  ·by_cases hh : 2278650 < n
   ·exact WholeRange_oh y n _ _ _ _ _ _ _ _ _ _ _ _ _ _ _ _ _ _ _ _ _ _ w hy (by omega) hh hT hL hF hA hG hP (Lib.hid fun w => closed_Year_no n w (.inr hh)) (Lib.hid fun w _ _ => heb_FromDay_no n w (.inr hh)) (Lib.hid fun w _ => greg_FromDay_no n w (.inr hh)) (Lib.hid fun w _ _ _ _ _ => (day_Of_no1 n w (.inr hh)).mono (by rintro e w' ⟨rfl, hb⟩; exact ⟨_, _, _, _, rfl, rfl, hb⟩)) (Lib.hid fun w _ _ => special_Named_no n w (.inr hh))
   ·obtain ⟨yd, m, d, hv, rfl⟩ := D10.day_there n (by omega) (by omega)
    obtain ⟨i, hi⟩ := Yr.is_some yd hv.1 hv.2.1
    obtain ⟨g1, g2⟩ := D10.day_in hv
    have hbd := D10.day_bd hv
    obtain ⟨r1, r2, r3, HS⟩ := day_at1 yd m d i hi hv
    exact WholeRange_om y _ _ _ _ _ _ _ _ _ _ _ _ _ _ _ _ _ _ _ _ _ _ _ w hy (by omega) (by omega) (by omega) hT hL hF hA hG hP (Lib.hid fun w => closed_Year_at _ yd w hv.1 hv.2.1 g1 g2 hbd.1 hbd.2) (Lib.hid fun w hT hL => heb_FromDay_at yd m d w hT hL hv) (Lib.hid fun w hG => greg_FromDay_at _ w hG hbd.1 hbd.2) (Lib.hid fun w hT hL hF hA hG => (HS.out w hT hL hF hA hG).mono (by rintro e w' ⟨v, rfl, hr, hb⟩; obtain ⟨p, c, rfl⟩ := hr.len; exact ⟨_, _, _, _, rfl, rfl, hb⟩)) (Lib.hid fun w hT hL => special_Named_at yd m d i w hi hv hT hL)
end
end Go.Proofs.YtankichdmlkfmaaGreatDoor
