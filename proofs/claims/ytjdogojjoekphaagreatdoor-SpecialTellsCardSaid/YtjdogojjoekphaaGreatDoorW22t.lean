/- Layer 22: SpecialTells. -/
import Derived.Test.YtjdogojjoekphaaGreatDoorSpM
import Derived.Test.YtjdogojjoekphaaGreatDoorW22
namespace Go.Proofs.YtjdogojjoekphaaGreatDoor
open Go.ChangeShapes Go.WideShapes Go.ChangeAt Go.RowKit Go.Lib Go.Sort Go.Shelf
set_option linter.unusedVariables false
set_option maxRecDepth 100000
set_option maxHeartbeats 4000000 in
theorem SpecialTells_no (y D k er : Int) (w : World) (hy : I64 y) (hno : y < 1 ∨ 9999 < y) (hT : Tab w 1 kevCells) (hL : Tab w 0 lenCells) (HAw : Hid (∀ w : World, Tab w 1 kevCells → Tab w 0 lenCells → Calls Tryz.prog 8 #[] w fun e w' => e = .returned (.bool true) ∧ Below w.heap.size w w')) (HN : Hid (∀ w : World, Tab w 1 kevCells → Tab w 0 lenCells → Calls Tryz.prog 6 #[.int .i64 D] w fun e w' => e = .returned (.tuple #[.int .i64 k, .int .i64 er]) ∧ Below w.heap.size w w')) (RN : Hid (∀ w : World, Calls Tryz.prog 7 #[.int .i64 D] w fun e w' => e = .returned (.tuple #[.int .i64 k, .int .i64 er]) ∧ Below w.heap.size w w')) :
    Calls Tryz.prog 3 #[.int .i64 y, .int .i64 D] w fun e w' => e = .returned (.bool true) ∧ Below w.heap.size w w' := by
  have HA := Lib.hid (fun w => special_Of_no y w hno)
  have HB := Lib.hid (fun w => ref22_Of_no y w hy hno)
  have HS := Lib.hid (fun w => ref19_Same (.slice none 0 0) (.slice none 0 0) [] [] w (.inl ⟨rfl, rfl⟩) (.inl ⟨rfl, rfl⟩) (by simp))
  rw [decide_eq_true rfl] at HS
  clear hno
  go_enter Tryz.func3, Tryz.ntmps3
  go_wp2_with fail
  refine (HA.out _).mono ?_
  rintro e w' ⟨rfl, rfl⟩
  go_wp2_with fail
  refine (HB.out _).mono ?_
  rintro e w' ⟨rfl, rfl⟩
  go_wp2_with fail
  refine (HN.out _ (Tab.below hT (by repeat (first | (with_reducible exact Below.refl _ _) | (with_reducible assumption) | (with_reducible refine bdrew ?_) | (with_reducible refine baa ?_ _) | (with_reducible refine bs ?_ (by first | exact Nat.le_refl _ | omega | (simp; done) | (simp; omega)) _) | (with_reducible refine bt ?_ (by with_reducible assumption))))) (Tab.below hL (by repeat (first | (with_reducible exact Below.refl _ _) | (with_reducible assumption) | (with_reducible refine bdrew ?_) | (with_reducible refine baa ?_ _) | (with_reducible refine bs ?_ (by first | exact Nat.le_refl _ | omega | (simp; done) | (simp; omega)) _) | (with_reducible refine bt ?_ (by with_reducible assumption)))))).mono ?_
  rintro e w1 ⟨rfl, hb1⟩
  obtain ⟨hc1, hf1⟩ := bcell hb1
  have hz1 := hb1.size
  try simp at hz1
  go_wp2_with fail
  refine (RN.out _).mono ?_
  rintro e w2 ⟨rfl, hb2⟩
  obtain ⟨hc2, hf2⟩ := bcell hb2
  have hz2 := hb2.size
  try simp at hz2
  go_wp2_with fail
  refine (HAw.out _ (Tab.below hT (by repeat (first | (with_reducible exact Below.refl _ _) | (with_reducible assumption) | (with_reducible refine bdrew ?_) | (with_reducible refine baa ?_ _) | (with_reducible refine bs ?_ (by first | exact Nat.le_refl _ | omega | (simp; done) | (simp; omega)) _) | (with_reducible refine bt ?_ (by with_reducible assumption))))) (Tab.below hL (by repeat (first | (with_reducible exact Below.refl _ _) | (with_reducible assumption) | (with_reducible refine bdrew ?_) | (with_reducible refine baa ?_ _) | (with_reducible refine bs ?_ (by first | exact Nat.le_refl _ | omega | (simp; done) | (simp; omega)) _) | (with_reducible refine bt ?_ (by with_reducible assumption)))))).mono ?_
  rintro e w3 ⟨rfl, hb3⟩
  go_wp2_with fail
  refine (HS.out _).mono ?_
  rintro e w4 ⟨rfl, hb4⟩
  go_wp2_with fail
  go_ret
  exact ⟨rfl, by repeat (first | (with_reducible exact Below.refl _ _) | (with_reducible assumption) | (with_reducible refine bdrew ?_) | (with_reducible refine baa ?_ _) | (with_reducible refine bs ?_ (by first | exact Nat.le_refl _ | omega | (simp; done) | (simp; omega)) _) | (with_reducible refine bt ?_ (by with_reducible assumption)))⟩
set_option maxHeartbeats 4000000 in
theorem SpecialTells_yes (y D k er : Int) (l : List (Int × Int)) (w : World) (HL : Hid (l.length ≤ 100)) (hT : Tab w 1 kevCells) (hL : Tab w 0 lenCells) (HAw : Hid (∀ w : World, Tab w 1 kevCells → Tab w 0 lenCells → Calls Tryz.prog 8 #[] w fun e w' => e = .returned (.bool true) ∧ Below w.heap.size w w')) (HN : Hid (∀ w : World, Tab w 1 kevCells → Tab w 0 lenCells → Calls Tryz.prog 6 #[.int .i64 D] w fun e w' => e = .returned (.tuple #[.int .i64 k, .int .i64 er]) ∧ Below w.heap.size w w')) (RN : Hid (∀ w : World, Calls Tryz.prog 7 #[.int .i64 D] w fun e w' => e = .returned (.tuple #[.int .i64 k, .int .i64 er]) ∧ Below w.heap.size w w'))
    (HA : Hid (∀ w : World, Tab w 1 kevCells → Tab w 0 lenCells → Calls Tryz.prog 4 #[.int .i64 y] w fun e w' => ∃ v, e = .returned (.tuple #[v, .int .i64 0]) ∧ Ev.Own w' w.heap.size v l ∧ Below w.heap.size w w'))
    (HB : Hid (∀ w : World, Calls Tryz.prog 5 #[.int .i64 y] w fun e w' => ∃ v, e = .returned (.tuple #[v, .int .i64 0]) ∧ Ev.Own w' w.heap.size v l ∧ Below w.heap.size w w')) :
    Calls Tryz.prog 3 #[.int .i64 y, .int .i64 D] w fun e w' => e = .returned (.bool true) ∧ Below w.heap.size w w' := by
  have HS : Hid (∀ (v c : Value) (w : World), Ev.Row w v l → Ev.Row w c l → Calls Tryz.prog 9 #[v, c] w fun e w' => e = .returned (.bool true) ∧ Below w.heap.size w w') := Lib.hid (fun v c w h h' => by
    have q := ref19_Same v c l l w h h' (by have := HL.out; omega)
    rw [decide_eq_true (rfl : l = l)] at q
    exact q)
  go_enter Tryz.func3, Tryz.ntmps3
  go_wp2_with fail
  refine (HA.out _ (Tab.below hT (by repeat (first | (with_reducible exact Below.refl _ _) | (with_reducible assumption) | (with_reducible refine bdrew ?_) | (with_reducible refine baa ?_ _) | (with_reducible refine bs ?_ (by first | exact Nat.le_refl _ | omega | (simp; done) | (simp; omega)) _) | (with_reducible refine bt ?_ (by with_reducible assumption))))) (Tab.below hL (by repeat (first | (with_reducible exact Below.refl _ _) | (with_reducible assumption) | (with_reducible refine bdrew ?_) | (with_reducible refine baa ?_ _) | (with_reducible refine bs ?_ (by first | exact Nat.le_refl _ | omega | (simp; done) | (simp; omega)) _) | (with_reducible refine bt ?_ (by with_reducible assumption)))))).mono ?_
  rintro e w1 ⟨v1, rfl, ho1, hb1⟩
  have hr1 := ho1.row
  obtain ⟨p1, c1, rfl⟩ := hr1.len
  go_wp2_with fail
  refine (HB.out _).mono ?_
  rintro e w2 ⟨v2, rfl, ho2, hb2⟩
  have hr2 := ho2.row
  obtain ⟨p2, c2, rfl⟩ := hr2.len
  go_wp2_with fail
  have hb12 : Below w.heap.size w w2 := bt hb1 hb2
  have hr1' := hr1.below hb2
  refine (HN.out _ (Tab.below hT (by repeat (first | (with_reducible exact Below.refl _ _) | (with_reducible assumption) | (with_reducible refine bdrew ?_) | (with_reducible refine baa ?_ _) | (with_reducible refine bs ?_ (by first | exact Nat.le_refl _ | omega | (simp; done) | (simp; omega)) _) | (with_reducible refine bt ?_ (by with_reducible assumption))))) (Tab.below hL (by repeat (first | (with_reducible exact Below.refl _ _) | (with_reducible assumption) | (with_reducible refine bdrew ?_) | (with_reducible refine baa ?_ _) | (with_reducible refine bs ?_ (by first | exact Nat.le_refl _ | omega | (simp; done) | (simp; omega)) _) | (with_reducible refine bt ?_ (by with_reducible assumption)))))).mono ?_
  rintro e w3 ⟨rfl, hb3⟩
  go_wp2_with fail
  have hb13 : Below w.heap.size w w3 := bt hb12 hb3
  refine (RN.out _).mono ?_
  rintro e w4 ⟨rfl, hb4⟩
  go_wp2_with fail
  have hb14 : Below w.heap.size w w4 := bt hb13 hb4
  refine (HAw.out _ (Tab.below hT (by repeat (first | (with_reducible exact Below.refl _ _) | (with_reducible assumption) | (with_reducible refine bdrew ?_) | (with_reducible refine baa ?_ _) | (with_reducible refine bs ?_ (by first | exact Nat.le_refl _ | omega | (simp; done) | (simp; omega)) _) | (with_reducible refine bt ?_ (by with_reducible assumption))))) (Tab.below hL (by repeat (first | (with_reducible exact Below.refl _ _) | (with_reducible assumption) | (with_reducible refine bdrew ?_) | (with_reducible refine baa ?_ _) | (with_reducible refine bs ?_ (by first | exact Nat.le_refl _ | omega | (simp; done) | (simp; omega)) _) | (with_reducible refine bt ?_ (by with_reducible assumption)))))).mono ?_
  rintro e w5 ⟨rfl, hb5⟩
  have HSS := Lib.hid (HS.out _ _ w5 (((hr1'.below hb3).below hb4).below hb5) (((hr2.below hb3).below hb4).below hb5))
  clear HS hr1 hr2 hr1' ho1 ho2
  go_wp2_with fail
  refine HSS.out.mono ?_
  rintro e w6 ⟨rfl, hb6⟩
  go_wp2_with fail
  go_ret
  exact ⟨rfl, bt (bt hb14 hb5) hb6⟩
theorem SpecialTells_walk (y D : Int) (hy : I64 y) (hD : I64 D) (w : World) (hT : Tab w 1 kevCells) (hL : Tab w 0 lenCells) :
    Calls Tryz.prog 3 #[.int .i64 y, .int .i64 D] w fun e w' => e = .returned (.bool true) ∧ Below w.heap.size w w' := by
  have hAw := Lib.hid (fun w hT hL => awake22 w hT hL)
  have hN : ∃ k er, (∀ w : World, Tab w 1 kevCells → Tab w 0 lenCells → Calls Tryz.prog 6 #[.int .i64 D] w fun e w' => e = .returned (.tuple #[.int .i64 k, .int .i64 er]) ∧ Below w.heap.size w w') ∧ (∀ w : World, Calls Tryz.prog 7 #[.int .i64 D] w fun e w' => e = .returned (.tuple #[.int .i64 k, .int .i64 er]) ∧ Below w.heap.size w w') := by
    by_cases h : D < -1373427 ∨ 2278650 < D
    · exact ⟨0, 2, fun w hT hL => special_Named_no D w h, fun w => ref22_Named_no D w h⟩
    · obtain ⟨y', m', d', hv, rfl⟩ := D10.day_there D (by omega) (by omega)
      obtain ⟨i', hi'⟩ := Yr.is_some y' hv.1 hv.2.1
      exact ⟨_, 0, fun w hT hL => special_Named_at y' m' d' i' w hi' hv hT hL, fun w => ref22_Named_at y' m' d' i' w hi' hv⟩
  obtain ⟨k, er, hN, hR⟩ := hN
  by_cases h : 1 ≤ y ∧ y ≤ 9999
  · obtain ⟨i, hi⟩ := Yr.is_some y h.1 h.2
    exact SpecialTells_yes y D k er ((Sp.spL i).map (Ev.sh (Cal.first y))) w (Lib.hid (by rw [List.length_map]; show (8 : Nat) ≤ 100; omega)) hT hL hAw (Lib.hid hN) (Lib.hid hR) (Lib.hid (fun w hT hL => special_Of_at y i w hi hT hL)) (Lib.hid (fun w => ref22_Of_at y i w hi))
  · exact SpecialTells_no y D k er w hy (by omega) hT hL hAw (Lib.hid hN) (Lib.hid hR)
end Go.Proofs.YtjdogojjoekphaaGreatDoor
