/- Layer 20: FastTells. -/
import Derived.Test.YtagmdglmflcegaaDoorW20
namespace Go.Proofs.YtagmdglmflcegaaDoor
open Go.ChangeShapes Go.WideShapes Go.ChangeAt Go.RowKit Go.Lib Go.Sort Go.Shelf
set_option linter.unusedVariables false
set_option maxRecDepth 100000
theorem i64_beq (a b : Int) : (a == b) = true ↔ a = b := by simp
set_option maxHeartbeats 4000000 in
theorem FastTells_no (y k v : Int) (w : World) (hy : I64 y) (hno : y < 1 ∨ 9999 < y) (hT : Tab w 3 kevCells) (hL : Tab w 2 lenCells) (hF : Tab w 1 Fa.cells) (HAw : Hid (∀ w : World, Tab w 3 kevCells → Tab w 2 lenCells → Tab w 1 Fa.cells → Calls Tryd.prog 25 #[] w fun e w' => e = .returned (.bool true) ∧ Below w.heap.size w w')) :
    Calls Tryd.prog 6 #[.int .i64 y, .int .i64 k, .int .i64 v] w fun e w' => e = .returned (.bool true) ∧ Below w.heap.size w w' := by
  have HA := Lib.hid (fun w => fast_Of_no y w hno)
  have HB := Lib.hid (fun w => ref20_Of_no y w hy hno)
  have HM := Lib.hid (fun w => fast_Moved k v w)
  have HN := Lib.hid (fun w => ref20_Moved k v w)
  have HS := Lib.hid (fun w => ref19_Same (.slice none 0 0) (.slice none 0 0) [] [] w (.inl ⟨rfl, rfl⟩) (.inl ⟨rfl, rfl⟩) (by simp))
  rw [decide_eq_true rfl] at HS
  clear hno
  generalize Fa.mvd k v = mm at *
  go_enter Tryd.func6, Tryd.ntmps6
  go_wp2_with fail
  refine (HA.out _).mono ?_
  rintro e w' ⟨rfl, rfl⟩
  go_wp2_with fail
  refine (HB.out _).mono ?_
  rintro e w' ⟨rfl, rfl⟩
  go_wp2_with fail
  refine (HAw.out _ (Tab.below hT (by repeat (first | (with_reducible exact Below.refl _ _) | (with_reducible assumption) | (with_reducible refine bdrew ?_) | (with_reducible refine baa ?_ _) | (with_reducible refine bs ?_ (by first | exact Nat.le_refl _ | omega | (simp; done) | (simp; omega)) _) | (with_reducible refine bt ?_ (by with_reducible assumption))))) (Tab.below hL (by repeat (first | (with_reducible exact Below.refl _ _) | (with_reducible assumption) | (with_reducible refine bdrew ?_) | (with_reducible refine baa ?_ _) | (with_reducible refine bs ?_ (by first | exact Nat.le_refl _ | omega | (simp; done) | (simp; omega)) _) | (with_reducible refine bt ?_ (by with_reducible assumption))))) (Tab.below hF (by repeat (first | (with_reducible exact Below.refl _ _) | (with_reducible assumption) | (with_reducible refine bdrew ?_) | (with_reducible refine baa ?_ _) | (with_reducible refine bs ?_ (by first | exact Nat.le_refl _ | omega | (simp; done) | (simp; omega)) _) | (with_reducible refine bt ?_ (by with_reducible assumption)))))).mono ?_
  rintro e w3 ⟨rfl, hb3⟩
  go_wp2_with fail
  refine (HM.out _).mono ?_
  rintro e w' ⟨rfl, rfl⟩
  go_wp2_with fail
  refine (HN.out _).mono ?_
  rintro e w' ⟨rfl, rfl⟩
  go_wp2_with fail
  refine (HS.out _).mono ?_
  rintro e w4 ⟨rfl, hb4⟩
  go_wp2_with fail
  go_ret
  exact ⟨rfl, bt hb3 hb4⟩
set_option maxHeartbeats 1000000 in
theorem FastTells_yes (y k v : Int) (l : List (Int × Int)) (w : World) (HL : Hid (l.length ≤ 100)) (hT : Tab w 3 kevCells) (hL : Tab w 2 lenCells) (hF : Tab w 1 Fa.cells) (HAw : Hid (∀ w : World, Tab w 3 kevCells → Tab w 2 lenCells → Tab w 1 Fa.cells → Calls Tryd.prog 25 #[] w fun e w' => e = .returned (.bool true) ∧ Below w.heap.size w w'))
    (HA : Hid (∀ w : World, Tab w 3 kevCells → Tab w 2 lenCells → Tab w 1 Fa.cells → Calls Tryd.prog 23 #[.int .i64 y] w fun e w' => ∃ v, e = .returned (.tuple #[v, .int .i64 0]) ∧ Ev.Own w' w.heap.size v l ∧ Below w.heap.size w w'))
    (HB : Hid (∀ w : World, Calls Tryd.prog 24 #[.int .i64 y] w fun e w' => ∃ v, e = .returned (.tuple #[v, .int .i64 0]) ∧ Ev.Own w' w.heap.size v l ∧ Below w.heap.size w w')) :
    Calls Tryd.prog 6 #[.int .i64 y, .int .i64 k, .int .i64 v] w fun e w' => e = .returned (.bool true) ∧ Below w.heap.size w w' := by
  have HM := Lib.hid (fun w => fast_Moved k v w)
  have HN := Lib.hid (fun w => ref20_Moved k v w)
  have HS : Hid (∀ (v c : Value) (w : World), Ev.Row w v l → Ev.Row w c l → Calls Tryd.prog 15 #[v, c] w fun e w' => e = .returned (.bool true) ∧ Below w.heap.size w w') := Lib.hid (fun v c w h h' => by
    have q := ref19_Same v c l l w h h' (by have := HL.out; omega)
    rw [decide_eq_true (rfl : l = l)] at q
    exact q)
  generalize Fa.mvd k v = mm at *
  go_enter Tryd.func6, Tryd.ntmps6
  go_wp2_with fail
  refine (HA.out _ (Tab.below hT (by repeat (first | (with_reducible exact Below.refl _ _) | (with_reducible assumption) | (with_reducible refine bdrew ?_) | (with_reducible refine baa ?_ _) | (with_reducible refine bs ?_ (by first | exact Nat.le_refl _ | omega | (simp; done) | (simp; omega)) _) | (with_reducible refine bt ?_ (by with_reducible assumption))))) (Tab.below hL (by repeat (first | (with_reducible exact Below.refl _ _) | (with_reducible assumption) | (with_reducible refine bdrew ?_) | (with_reducible refine baa ?_ _) | (with_reducible refine bs ?_ (by first | exact Nat.le_refl _ | omega | (simp; done) | (simp; omega)) _) | (with_reducible refine bt ?_ (by with_reducible assumption))))) (Tab.below hF (by repeat (first | (with_reducible exact Below.refl _ _) | (with_reducible assumption) | (with_reducible refine bdrew ?_) | (with_reducible refine baa ?_ _) | (with_reducible refine bs ?_ (by first | exact Nat.le_refl _ | omega | (simp; done) | (simp; omega)) _) | (with_reducible refine bt ?_ (by with_reducible assumption)))))).mono ?_
  rintro e w1 ⟨v1, rfl, ho1, hb1⟩
  have hr1 := ho1.row
  obtain ⟨p1, c1, rfl⟩ := hr1.len
  go_wp2_with fail
  refine (HB.out _).mono ?_
  rintro e w2 ⟨v2, rfl, ho2, hb2⟩
  have hr2 := ho2.row
  obtain ⟨p2, c2, rfl⟩ := hr2.len
  go_wp2_with fail
  have hb12 : Below w.heap.size w w2 := bt hb1 hb2
  have hr1' := hr1.below hb2
  refine (HAw.out _ (Tab.below hT (by repeat (first | (with_reducible exact Below.refl _ _) | (with_reducible assumption) | (with_reducible refine bdrew ?_) | (with_reducible refine baa ?_ _) | (with_reducible refine bs ?_ (by first | exact Nat.le_refl _ | omega | (simp; done) | (simp; omega)) _) | (with_reducible refine bt ?_ (by with_reducible assumption))))) (Tab.below hL (by repeat (first | (with_reducible exact Below.refl _ _) | (with_reducible assumption) | (with_reducible refine bdrew ?_) | (with_reducible refine baa ?_ _) | (with_reducible refine bs ?_ (by first | exact Nat.le_refl _ | omega | (simp; done) | (simp; omega)) _) | (with_reducible refine bt ?_ (by with_reducible assumption))))) (Tab.below hF (by repeat (first | (with_reducible exact Below.refl _ _) | (with_reducible assumption) | (with_reducible refine bdrew ?_) | (with_reducible refine baa ?_ _) | (with_reducible refine bs ?_ (by first | exact Nat.le_refl _ | omega | (simp; done) | (simp; omega)) _) | (with_reducible refine bt ?_ (by with_reducible assumption)))))).mono ?_
  rintro e w3 ⟨rfl, hb3⟩
  have HSS := Lib.hid (HS.out _ _ w3 (hr1'.below hb3) (hr2.below hb3))
  clear HS hr1 hr2 hr1' ho1 ho2
  go_wp2_with fail
  refine (HM.out _).mono ?_
  rintro e w' ⟨rfl, rfl⟩
  go_wp2_with fail
  refine (HN.out _).mono ?_
  rintro e w' ⟨rfl, rfl⟩
  go_wp2_with fail
  refine HSS.out.mono ?_
  rintro e w4 ⟨rfl, hb4⟩
  go_wp2_with fail
  go_ret
  exact ⟨rfl, bt (bt hb12 hb3) hb4⟩
theorem FastTells_walk (y k v : Int) (hy : I64 y) (hk : I64 k) (hv : I64 v) (w : World) (hT : Tab w 3 kevCells) (hL : Tab w 2 lenCells) (hF : Tab w 1 Fa.cells) :
    Calls Tryd.prog 6 #[.int .i64 y, .int .i64 k, .int .i64 v] w fun e w' => e = .returned (.bool true) ∧ Below w.heap.size w w' := by
  have hAw := Lib.hid (fun w hT hL hF => awake20 w hT hL hF)
  by_cases h : 1 ≤ y ∧ y ≤ 9999
  · obtain ⟨i, hi⟩ := Yr.is_some y h.1 h.2
    exact FastTells_yes y k v ((Fa.fastL i).map (Ev.sh (Cal.first y))) w (Lib.hid (by rw [List.length_map, Fa.len_ok i hi.2.2.1]; omega)) hT hL hF hAw (Lib.hid (fun w hT hL hF => fast_Of_at y i w hi hT hL hF)) (Lib.hid (fun w => ref20_Of_at y i w hi))
  · exact FastTells_no y k v w hy (by omega) hT hL hF hAw
end Go.Proofs.YtagmdglmflcegaaDoor
