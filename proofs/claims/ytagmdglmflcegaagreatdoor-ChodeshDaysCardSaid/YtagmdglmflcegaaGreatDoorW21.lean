/- Layer 21: its example, and ChodeshTells. -/
import Derived.Test.YtagmdglmflcegaaGreatDoorChM
import Derived.Test.YtagmdglmflcegaaGreatDoorOmC
namespace Go.Proofs.YtagmdglmflcegaaGreatDoor
open Go.ChangeShapes Go.WideShapes Go.ChangeAt Go.RowKit Go.Lib Go.Sort Go.Shelf
set_option linter.unusedVariables false
set_option maxRecDepth 100000
theorem Yr.is_5784 : Yr.Is 5784 12 := ⟨by omega, by omega, by omega, by decide +kernel, by decide +kernel, by decide +kernel⟩
theorem ch_5784 : (Ch.chL 12).length = 18 := by decide +kernel
theorem om_5784 : Om.om 5784 = 738999 ∧ D10.Valid 5784 9 18 ∧ D10.dayOf 5784 9 18 = 739032 := by
  refine ⟨by decide +kernel, ⟨by omega, by omega, by omega, ?_, by omega, ?_⟩, ?_⟩ <;> decide +kernel
set_option maxHeartbeats 4000000 in
theorem awake21_go (l : List (Int × Int)) (w : World) (hT : Tab w 2 kevCells) (hL : Tab w 3 lenCells) (hl : l.length = 18)
    (HO : Hid (∀ w : World, Tab w 2 kevCells → Tab w 3 lenCells → Calls Tryz.prog 15 #[.int .i64 5784] w fun e w' => ∃ v, e = .returned (.tuple #[v, .int .i64 0]) ∧ Ev.Own w' w.heap.size v l ∧ Below w.heap.size w w'))
    (HC : Hid (∀ w : World, Tab w 2 kevCells → Tab w 3 lenCells → Calls Tryz.prog 20 #[.int .i64 5784, .int .i64 33] w fun e w' => e = .returned (.tuple #[.int .i64 739032, .int .i64 0]) ∧ Below w.heap.size w w'))
    (HM : Hid (∀ w : World, Tab w 2 kevCells → Tab w 3 lenCells → Calls Tryz.prog 18 #[.int .i64 739032] w fun e w' => e = .returned (.tuple #[.int .i64 33, .int .i64 0]) ∧ Below w.heap.size w w')) :
    Calls Tryz.prog 22 #[] w fun e w' => e = .returned (.bool true) ∧ Below w.heap.size w w' := by
  go_enter Tryz.func22, Tryz.ntmps22
  go_wp2_with fail
  refine (HC.out _ (Tab.below hT (by repeat (first | (with_reducible exact Below.refl _ _) | (with_reducible assumption) | (with_reducible refine bdrew ?_) | (with_reducible refine baa ?_ _) | (with_reducible refine bs ?_ (by first | exact Nat.le_refl _ | omega | (simp; done) | (simp; omega)) _) | (with_reducible refine bt ?_ (by with_reducible assumption))))) (Tab.below hL (by repeat (first | (with_reducible exact Below.refl _ _) | (with_reducible assumption) | (with_reducible refine bdrew ?_) | (with_reducible refine baa ?_ _) | (with_reducible refine bs ?_ (by first | exact Nat.le_refl _ | omega | (simp; done) | (simp; omega)) _) | (with_reducible refine bt ?_ (by with_reducible assumption)))))).mono ?_
  rintro e w1 ⟨rfl, hb1⟩
  obtain ⟨hc1, hf1⟩ := bcell hb1
  have hz1 := hb1.size
  try simp at hz1
  go_wp2_with fail
  refine (HM.out _ (Tab.below hT (by repeat (first | (with_reducible exact Below.refl _ _) | (with_reducible assumption) | (with_reducible refine bdrew ?_) | (with_reducible refine baa ?_ _) | (with_reducible refine bs ?_ (by first | exact Nat.le_refl _ | omega | (simp; done) | (simp; omega)) _) | (with_reducible refine bt ?_ (by with_reducible assumption))))) (Tab.below hL (by repeat (first | (with_reducible exact Below.refl _ _) | (with_reducible assumption) | (with_reducible refine bdrew ?_) | (with_reducible refine baa ?_ _) | (with_reducible refine bs ?_ (by first | exact Nat.le_refl _ | omega | (simp; done) | (simp; omega)) _) | (with_reducible refine bt ?_ (by with_reducible assumption)))))).mono ?_
  rintro e w2 ⟨rfl, hb2⟩
  obtain ⟨hc2, hf2⟩ := bcell hb2
  have hz2 := hb2.size
  try simp at hz2
  go_wp2_with fail
  refine (HO.out _ (Tab.below hT (by repeat (first | (with_reducible exact Below.refl _ _) | (with_reducible assumption) | (with_reducible refine bdrew ?_) | (with_reducible refine baa ?_ _) | (with_reducible refine bs ?_ (by first | exact Nat.le_refl _ | omega | (simp; done) | (simp; omega)) _) | (with_reducible refine bt ?_ (by with_reducible assumption))))) (Tab.below hL (by repeat (first | (with_reducible exact Below.refl _ _) | (with_reducible assumption) | (with_reducible refine bdrew ?_) | (with_reducible refine baa ?_ _) | (with_reducible refine bs ?_ (by first | exact Nat.le_refl _ | omega | (simp; done) | (simp; omega)) _) | (with_reducible refine bt ?_ (by with_reducible assumption)))))).mono ?_
  rintro e w3 ⟨v3, rfl, ho3, hb3⟩
  have hr := ho3.row
  obtain ⟨p3, c3, rfl⟩ := hr.len
  rw [hl]
  go_wp2_with fail
  go_ret
  exact ⟨rfl, by repeat (first | (with_reducible exact Below.refl _ _) | (with_reducible assumption) | (with_reducible refine bdrew ?_) | (with_reducible refine baa ?_ _) | (with_reducible refine bs ?_ (by first | exact Nat.le_refl _ | omega | (simp; done) | (simp; omega)) _) | (with_reducible refine bt ?_ (by with_reducible assumption)))⟩
theorem awake21 (w : World) (hT : Tab w 2 kevCells) (hL : Tab w 3 lenCells) : Calls Tryz.prog 22 #[] w fun e w' => e = .returned (.bool true) ∧ Below w.heap.size w w' := by
  obtain ⟨e1, e2, e3⟩ := om_5784
  refine awake21_go ((Ch.chL 12).map (Ev.sh (Cal.first 5784))) w hT hL (by rw [List.length_map]; exact ch_5784) (Lib.hid (fun w hT hL => chodesh_Of_at 5784 12 w Yr.is_5784 hT hL)) (Lib.hid (fun w hT hL => ?_)) (Lib.hid (fun w hT hL => ?_))
  · have := chodesh_Counted_ok 5784 33 w (by omega) (by omega) (by omega) (by omega) hT hL
    rwa [e1] at this
  · have := chodesh_Omer_at 5784 9 18 w e2 hT hL
    rwa [e3, e1] at this
set_option maxHeartbeats 4000000 in
theorem ChodeshTells_no (y D n a ea c ec : Int) (w : World) (hy : I64 y) (hno : y < 1 ∨ 9999 < y) (hT : Tab w 2 kevCells) (hL : Tab w 3 lenCells) (HAw : Hid (∀ w : World, Tab w 2 kevCells → Tab w 3 lenCells → Calls Tryz.prog 22 #[] w fun e w' => e = .returned (.bool true) ∧ Below w.heap.size w w'))
    (HM : Hid (∀ w : World, Tab w 2 kevCells → Tab w 3 lenCells → Calls Tryz.prog 18 #[.int .i64 D] w fun r w' => r = .returned (.tuple #[.int .i64 a, .int .i64 ea]) ∧ Below w.heap.size w w')) (RM : Hid (∀ w : World, Calls Tryz.prog 19 #[.int .i64 D] w fun r w' => r = .returned (.tuple #[.int .i64 a, .int .i64 ea]) ∧ Below w.heap.size w w'))
    (HC : Hid (∀ w : World, Tab w 2 kevCells → Tab w 3 lenCells → Calls Tryz.prog 20 #[.int .i64 y, .int .i64 n] w fun r w' => r = .returned (.tuple #[.int .i64 c, .int .i64 ec]) ∧ Below w.heap.size w w')) (RC : Hid (∀ w : World, Calls Tryz.prog 21 #[.int .i64 y, .int .i64 n] w fun r w' => r = .returned (.tuple #[.int .i64 c, .int .i64 ec]) ∧ Below w.heap.size w w')) :
    Calls Tryz.prog 4 #[.int .i64 y, .int .i64 D, .int .i64 n] w fun e w' => e = .returned (.bool true) ∧ Below w.heap.size w w' := by
  have HA := Lib.hid (fun w => chodesh_Of_no y w hy hno)
  have HB := Lib.hid (fun w => ref21_Of_no y w hy hno)
  have HS := Lib.hid (fun w => ref19_Same (.slice none 0 0) (.slice none 0 0) [] [] w (.inl ⟨rfl, rfl⟩) (.inl ⟨rfl, rfl⟩) (by simp))
  rw [decide_eq_true rfl] at HS
  clear hno
  go_enter Tryz.func4, Tryz.ntmps4
  go_wp2_with fail
  refine (HA.out _).mono ?_
  rintro e w1 ⟨rfl, hb1⟩
  obtain ⟨hc1, hf1⟩ := bcell hb1
  have hz1 := hb1.size
  try simp at hz1
  go_wp2_with fail
  refine (HB.out _).mono ?_
  rintro e w2 ⟨rfl, hb2⟩
  obtain ⟨hc2, hf2⟩ := bcell hb2
  have hz2 := hb2.size
  try simp at hz2
  go_wp2_with fail
  refine (HS.out _).mono ?_
  rintro e w3 ⟨rfl, hb3⟩
  obtain ⟨hc3, hf3⟩ := bcell hb3
  have hz3 := hb3.size
  try simp at hz3
  go_wp2_with fail
  refine (HM.out _ (Tab.below hT (by repeat (first | (with_reducible exact Below.refl _ _) | (with_reducible assumption) | (with_reducible refine bdrew ?_) | (with_reducible refine baa ?_ _) | (with_reducible refine bs ?_ (by first | exact Nat.le_refl _ | omega | (simp; done) | (simp; omega)) _) | (with_reducible refine bt ?_ (by with_reducible assumption))))) (Tab.below hL (by repeat (first | (with_reducible exact Below.refl _ _) | (with_reducible assumption) | (with_reducible refine bdrew ?_) | (with_reducible refine baa ?_ _) | (with_reducible refine bs ?_ (by first | exact Nat.le_refl _ | omega | (simp; done) | (simp; omega)) _) | (with_reducible refine bt ?_ (by with_reducible assumption)))))).mono ?_
  rintro e w4 ⟨rfl, hb4⟩
  obtain ⟨hc4, hf4⟩ := bcell hb4
  have hz4 := hb4.size
  try simp at hz4
  go_wp2_with fail
  refine (RM.out _).mono ?_
  rintro e w5 ⟨rfl, hb5⟩
  obtain ⟨hc5, hf5⟩ := bcell hb5
  have hz5 := hb5.size
  try simp at hz5
  go_wp2_with fail
  refine (HC.out _ (Tab.below hT (by repeat (first | (with_reducible exact Below.refl _ _) | (with_reducible assumption) | (with_reducible refine bdrew ?_) | (with_reducible refine baa ?_ _) | (with_reducible refine bs ?_ (by first | exact Nat.le_refl _ | omega | (simp; done) | (simp; omega)) _) | (with_reducible refine bt ?_ (by with_reducible assumption))))) (Tab.below hL (by repeat (first | (with_reducible exact Below.refl _ _) | (with_reducible assumption) | (with_reducible refine bdrew ?_) | (with_reducible refine baa ?_ _) | (with_reducible refine bs ?_ (by first | exact Nat.le_refl _ | omega | (simp; done) | (simp; omega)) _) | (with_reducible refine bt ?_ (by with_reducible assumption)))))).mono ?_
  rintro e w6 ⟨rfl, hb6⟩
  obtain ⟨hc6, hf6⟩ := bcell hb6
  have hz6 := hb6.size
  try simp at hz6
  go_wp2_with fail
  refine (RC.out _).mono ?_
  rintro e w7 ⟨rfl, hb7⟩
  obtain ⟨hc7, hf7⟩ := bcell hb7
  have hz7 := hb7.size
  try simp at hz7
  go_wp2_with fail
  refine (HAw.out _ (Tab.below hT (by repeat (first | (with_reducible exact Below.refl _ _) | (with_reducible assumption) | (with_reducible refine bdrew ?_) | (with_reducible refine baa ?_ _) | (with_reducible refine bs ?_ (by first | exact Nat.le_refl _ | omega | (simp; done) | (simp; omega)) _) | (with_reducible refine bt ?_ (by with_reducible assumption))))) (Tab.below hL (by repeat (first | (with_reducible exact Below.refl _ _) | (with_reducible assumption) | (with_reducible refine bdrew ?_) | (with_reducible refine baa ?_ _) | (with_reducible refine bs ?_ (by first | exact Nat.le_refl _ | omega | (simp; done) | (simp; omega)) _) | (with_reducible refine bt ?_ (by with_reducible assumption)))))).mono ?_
  rintro e w8 ⟨rfl, hb8⟩
  obtain ⟨hc8, hf8⟩ := bcell hb8
  have hz8 := hb8.size
  try simp at hz8
  go_wp2_with fail
  go_ret
  exact ⟨rfl, by repeat (first | (with_reducible exact Below.refl _ _) | (with_reducible assumption) | (with_reducible refine bdrew ?_) | (with_reducible refine baa ?_ _) | (with_reducible refine bs ?_ (by first | exact Nat.le_refl _ | omega | (simp; done) | (simp; omega)) _) | (with_reducible refine bt ?_ (by with_reducible assumption)))⟩
set_option maxHeartbeats 4000000 in
theorem ChodeshTells_yes (y D n a ea c ec : Int) (l : List (Int × Int)) (w : World) (HL : Hid (l.length ≤ 100)) (hT : Tab w 2 kevCells) (hL : Tab w 3 lenCells) (HAw : Hid (∀ w : World, Tab w 2 kevCells → Tab w 3 lenCells → Calls Tryz.prog 22 #[] w fun e w' => e = .returned (.bool true) ∧ Below w.heap.size w w'))
    (HM : Hid (∀ w : World, Tab w 2 kevCells → Tab w 3 lenCells → Calls Tryz.prog 18 #[.int .i64 D] w fun r w' => r = .returned (.tuple #[.int .i64 a, .int .i64 ea]) ∧ Below w.heap.size w w')) (RM : Hid (∀ w : World, Calls Tryz.prog 19 #[.int .i64 D] w fun r w' => r = .returned (.tuple #[.int .i64 a, .int .i64 ea]) ∧ Below w.heap.size w w'))
    (HC : Hid (∀ w : World, Tab w 2 kevCells → Tab w 3 lenCells → Calls Tryz.prog 20 #[.int .i64 y, .int .i64 n] w fun r w' => r = .returned (.tuple #[.int .i64 c, .int .i64 ec]) ∧ Below w.heap.size w w')) (RC : Hid (∀ w : World, Calls Tryz.prog 21 #[.int .i64 y, .int .i64 n] w fun r w' => r = .returned (.tuple #[.int .i64 c, .int .i64 ec]) ∧ Below w.heap.size w w'))
    (HA : Hid (∀ w : World, Tab w 2 kevCells → Tab w 3 lenCells → Calls Tryz.prog 15 #[.int .i64 y] w fun e w' => ∃ v, e = .returned (.tuple #[v, .int .i64 0]) ∧ Ev.Own w' w.heap.size v l ∧ Below w.heap.size w w'))
    (HB : Hid (∀ w : World, Calls Tryz.prog 16 #[.int .i64 y] w fun e w' => ∃ v, e = .returned (.tuple #[v, .int .i64 0]) ∧ Ev.Own w' w.heap.size v l ∧ Below w.heap.size w w')) :
    Calls Tryz.prog 4 #[.int .i64 y, .int .i64 D, .int .i64 n] w fun e w' => e = .returned (.bool true) ∧ Below w.heap.size w w' := by
  have HS : Hid (∀ (v c : Value) (w : World), Ev.Row w v l → Ev.Row w c l → Calls Tryz.prog 17 #[v, c] w fun e w' => e = .returned (.bool true) ∧ Below w.heap.size w w') := Lib.hid (fun v c w h h' => by
    have q := ref19_Same v c l l w h h' (by have := HL.out; omega)
    rw [decide_eq_true (rfl : l = l)] at q
    exact q)
  go_enter Tryz.func4, Tryz.ntmps4
  go_wp2_with fail
  refine (HA.out _ (Tab.below hT (by repeat (first | (with_reducible exact Below.refl _ _) | (with_reducible assumption) | (with_reducible refine bdrew ?_) | (with_reducible refine baa ?_ _) | (with_reducible refine bs ?_ (by first | exact Nat.le_refl _ | omega | (simp; done) | (simp; omega)) _) | (with_reducible refine bt ?_ (by with_reducible assumption))))) (Tab.below hL (by repeat (first | (with_reducible exact Below.refl _ _) | (with_reducible assumption) | (with_reducible refine bdrew ?_) | (with_reducible refine baa ?_ _) | (with_reducible refine bs ?_ (by first | exact Nat.le_refl _ | omega | (simp; done) | (simp; omega)) _) | (with_reducible refine bt ?_ (by with_reducible assumption)))))).mono ?_
  rintro e w1 ⟨v1, rfl, ho1, hb1⟩
  have hr1 := ho1.row
  obtain ⟨p1, c1, rfl⟩ := hr1.len
  go_wp2_with fail
  refine (HB.out _).mono ?_
  rintro e w2 ⟨v2, rfl, ho2, hb2⟩
  have hr2 := ho2.row
  obtain ⟨p2, c2, rfl⟩ := hr2.len
  have HSS := Lib.hid (HS.out _ _ w2 (hr1.below hb2) hr2)
  have hb12 : Below w.heap.size w w2 := bt hb1 hb2
  clear HS hr1 hr2 ho1 ho2 hb1 hb2
  go_wp2_with fail
  refine (HSS.out).mono ?_
  rintro e w3 ⟨rfl, hb3⟩
  obtain ⟨hc3, hf3⟩ := bcell hb3
  have hz3 := hb3.size
  try simp at hz3
  go_wp2_with fail
  refine (HM.out _ (Tab.below hT (by repeat (first | (with_reducible exact Below.refl _ _) | (with_reducible assumption) | (with_reducible refine bdrew ?_) | (with_reducible refine baa ?_ _) | (with_reducible refine bs ?_ (by first | exact Nat.le_refl _ | omega | (simp; done) | (simp; omega)) _) | (with_reducible refine bt ?_ (by with_reducible assumption))))) (Tab.below hL (by repeat (first | (with_reducible exact Below.refl _ _) | (with_reducible assumption) | (with_reducible refine bdrew ?_) | (with_reducible refine baa ?_ _) | (with_reducible refine bs ?_ (by first | exact Nat.le_refl _ | omega | (simp; done) | (simp; omega)) _) | (with_reducible refine bt ?_ (by with_reducible assumption)))))).mono ?_
  rintro e w4 ⟨rfl, hb4⟩
  obtain ⟨hc4, hf4⟩ := bcell hb4
  have hz4 := hb4.size
  try simp at hz4
  go_wp2_with fail
  refine (RM.out _).mono ?_
  rintro e w5 ⟨rfl, hb5⟩
  obtain ⟨hc5, hf5⟩ := bcell hb5
  have hz5 := hb5.size
  try simp at hz5
  go_wp2_with fail
  refine (HC.out _ (Tab.below hT (by repeat (first | (with_reducible exact Below.refl _ _) | (with_reducible assumption) | (with_reducible refine bdrew ?_) | (with_reducible refine baa ?_ _) | (with_reducible refine bs ?_ (by first | exact Nat.le_refl _ | omega | (simp; done) | (simp; omega)) _) | (with_reducible refine bt ?_ (by with_reducible assumption))))) (Tab.below hL (by repeat (first | (with_reducible exact Below.refl _ _) | (with_reducible assumption) | (with_reducible refine bdrew ?_) | (with_reducible refine baa ?_ _) | (with_reducible refine bs ?_ (by first | exact Nat.le_refl _ | omega | (simp; done) | (simp; omega)) _) | (with_reducible refine bt ?_ (by with_reducible assumption)))))).mono ?_
  rintro e w6 ⟨rfl, hb6⟩
  obtain ⟨hc6, hf6⟩ := bcell hb6
  have hz6 := hb6.size
  try simp at hz6
  go_wp2_with fail
  refine (RC.out _).mono ?_
  rintro e w7 ⟨rfl, hb7⟩
  obtain ⟨hc7, hf7⟩ := bcell hb7
  have hz7 := hb7.size
  try simp at hz7
  go_wp2_with fail
  refine (HAw.out _ (Tab.below hT (by repeat (first | (with_reducible exact Below.refl _ _) | (with_reducible assumption) | (with_reducible refine bdrew ?_) | (with_reducible refine baa ?_ _) | (with_reducible refine bs ?_ (by first | exact Nat.le_refl _ | omega | (simp; done) | (simp; omega)) _) | (with_reducible refine bt ?_ (by with_reducible assumption))))) (Tab.below hL (by repeat (first | (with_reducible exact Below.refl _ _) | (with_reducible assumption) | (with_reducible refine bdrew ?_) | (with_reducible refine baa ?_ _) | (with_reducible refine bs ?_ (by first | exact Nat.le_refl _ | omega | (simp; done) | (simp; omega)) _) | (with_reducible refine bt ?_ (by with_reducible assumption)))))).mono ?_
  rintro e w8 ⟨rfl, hb8⟩
  obtain ⟨hc8, hf8⟩ := bcell hb8
  have hz8 := hb8.size
  try simp at hz8
  go_wp2_with fail
  go_ret
  exact ⟨rfl, by repeat (first | (with_reducible exact Below.refl _ _) | (with_reducible assumption) | (with_reducible refine bdrew ?_) | (with_reducible refine baa ?_ _) | (with_reducible refine bs ?_ (by first | exact Nat.le_refl _ | omega | (simp; done) | (simp; omega)) _) | (with_reducible refine bt ?_ (by with_reducible assumption)))⟩
theorem ChodeshTells_walk (y D n : Int) (hy : I64 y) (hD : I64 D) (hn : I64 n) (w : World) (hT : Tab w 2 kevCells) (hL : Tab w 3 lenCells) :
    Calls Tryz.prog 4 #[.int .i64 y, .int .i64 D, .int .i64 n] w fun e w' => e = .returned (.bool true) ∧ Below w.heap.size w w' := by
  have hAw := Lib.hid (fun w hT hL => awake21 w hT hL)
  obtain ⟨a, ea, m1, m2⟩ := omer_both D
  obtain ⟨c, ec, c1, c2⟩ := counted_both y n hy
  by_cases h : 1 ≤ y ∧ y ≤ 9999
  · obtain ⟨i, hi⟩ := Yr.is_some y h.1 h.2
    exact ChodeshTells_yes y D n a ea c ec ((Ch.chL i).map (Ev.sh (Cal.first y))) w (Lib.hid (by rw [List.length_map]; have := (Ch.ok i hi.2.2.1).2.2.2.1; omega)) hT hL hAw (Lib.hid m1) (Lib.hid m2) (Lib.hid c1) (Lib.hid c2) (Lib.hid (fun w hT hL => chodesh_Of_at y i w hi hT hL)) (Lib.hid (fun w => ref21_Of_at y i w hi))
  · exact ChodeshTells_no y D n a ea c ec w hy (by omega) hT hL hAw (Lib.hid m1) (Lib.hid m2) (Lib.hid c1) (Lib.hid c2)
end Go.Proofs.YtagmdglmflcegaaGreatDoor
