/- Layer 21: the day that is counted so. -/
import Derived.Test.YtagmdglmflcegaaGreatDoorOm
namespace Go.Proofs.YtagmdglmflcegaaGreatDoor
open Go.ChangeShapes Go.WideShapes Go.ChangeAt Go.RowKit Go.Lib Go.Sort Go.Shelf
set_option linter.unusedVariables false
set_option maxRecDepth 100000
set_option maxHeartbeats 2000000 in
theorem chodesh_Counted_ok (y n : Int) (w : World) (h1 : 1 ≤ y) (h2 : y ≤ 9999) (n1 : 1 ≤ n) (n2 : n ≤ 49) (hT : Tab w 2 kevCells) (hL : Tab w 3 lenCells) :
    Calls Tryz.prog 20 #[.int .i64 y, .int .i64 n] w fun e w' => e = .returned (.tuple #[.int .i64 (Om.om y + n), .int .i64 0]) ∧ Below w.heap.size w w' := by
  obtain ⟨_, z1, z2⟩ := Om.om_e h1 h2
  have HAh := Lib.hid (fun w hT hL => ahead_in y w h1 h2 hT hL)
  generalize Om.om y = Z at *
  have g1 : ¬ n < 1 := by omega
  have g2 : ¬ 49 < n := by omega
  have G1 : decide (n < 1) = false := by simpa using g1
  have G2 : decide (49 < n) = false := by simpa using g2
  go_enter Tryz.func20, Tryz.ntmps20
  go_wp2_with fail
  refine (HAh.out _ (Tab.below hT (by repeat (first | (with_reducible exact Below.refl _ _) | (with_reducible assumption) | (with_reducible refine bdrew ?_) | (with_reducible refine baa ?_ _) | (with_reducible refine bs ?_ (by first | exact Nat.le_refl _ | omega | (simp; done) | (simp; omega)) _) | (with_reducible refine bt ?_ (by with_reducible assumption))))) (Tab.below hL (by repeat (first | (with_reducible exact Below.refl _ _) | (with_reducible assumption) | (with_reducible refine bdrew ?_) | (with_reducible refine baa ?_ _) | (with_reducible refine bs ?_ (by first | exact Nat.le_refl _ | omega | (simp; done) | (simp; omega)) _) | (with_reducible refine bt ?_ (by with_reducible assumption)))))).mono ?_
  rintro e w1 ⟨rfl, hb1⟩
  obtain ⟨hc1, hf1⟩ := bcell hb1
  have hz1 := hb1.size
  try simp at hz1
  go_wp2_with fail
  go_ret2
  exact ⟨rfl, by repeat (first | (with_reducible exact Below.refl _ _) | (with_reducible assumption) | (with_reducible refine bdrew ?_) | (with_reducible refine baa ?_ _) | (with_reducible refine bs ?_ (by first | exact Nat.le_refl _ | omega | (simp; done) | (simp; omega)) _) | (with_reducible refine bt ?_ (by with_reducible assumption)))⟩
set_option maxHeartbeats 2000000 in
theorem chodesh_Counted_lo (y n : Int) (w : World) (h1 : 1 ≤ y) (h2 : y ≤ 9999) (n1 : n < 1) (hT : Tab w 2 kevCells) (hL : Tab w 3 lenCells) :
    Calls Tryz.prog 20 #[.int .i64 y, .int .i64 n] w fun e w' => e = .returned (.tuple #[.int .i64 (0), .int .i64 1]) ∧ Below w.heap.size w w' := by
  obtain ⟨_, z1, z2⟩ := Om.om_e h1 h2
  have HAh := Lib.hid (fun w hT hL => ahead_in y w h1 h2 hT hL)
  generalize Om.om y = Z at *
  go_enter Tryz.func20, Tryz.ntmps20
  go_wp2_with fail
  refine (HAh.out _ (Tab.below hT (by repeat (first | (with_reducible exact Below.refl _ _) | (with_reducible assumption) | (with_reducible refine bdrew ?_) | (with_reducible refine baa ?_ _) | (with_reducible refine bs ?_ (by first | exact Nat.le_refl _ | omega | (simp; done) | (simp; omega)) _) | (with_reducible refine bt ?_ (by with_reducible assumption))))) (Tab.below hL (by repeat (first | (with_reducible exact Below.refl _ _) | (with_reducible assumption) | (with_reducible refine bdrew ?_) | (with_reducible refine baa ?_ _) | (with_reducible refine bs ?_ (by first | exact Nat.le_refl _ | omega | (simp; done) | (simp; omega)) _) | (with_reducible refine bt ?_ (by with_reducible assumption)))))).mono ?_
  rintro e w1 ⟨rfl, hb1⟩
  obtain ⟨hc1, hf1⟩ := bcell hb1
  have hz1 := hb1.size
  try simp at hz1
  go_wp2_with fail
  go_ret2
  exact ⟨rfl, by repeat (first | (with_reducible exact Below.refl _ _) | (with_reducible assumption) | (with_reducible refine bdrew ?_) | (with_reducible refine baa ?_ _) | (with_reducible refine bs ?_ (by first | exact Nat.le_refl _ | omega | (simp; done) | (simp; omega)) _) | (with_reducible refine bt ?_ (by with_reducible assumption)))⟩
set_option maxHeartbeats 2000000 in
theorem chodesh_Counted_hi (y n : Int) (w : World) (h1 : 1 ≤ y) (h2 : y ≤ 9999) (n0 : ¬ n < 1) (n1 : 49 < n) (hT : Tab w 2 kevCells) (hL : Tab w 3 lenCells) :
    Calls Tryz.prog 20 #[.int .i64 y, .int .i64 n] w fun e w' => e = .returned (.tuple #[.int .i64 (0), .int .i64 1]) ∧ Below w.heap.size w w' := by
  obtain ⟨_, z1, z2⟩ := Om.om_e h1 h2
  have HAh := Lib.hid (fun w hT hL => ahead_in y w h1 h2 hT hL)
  generalize Om.om y = Z at *
  have G1 : decide (n < 1) = false := by simpa using n0
  go_enter Tryz.func20, Tryz.ntmps20
  go_wp2_with fail
  refine (HAh.out _ (Tab.below hT (by repeat (first | (with_reducible exact Below.refl _ _) | (with_reducible assumption) | (with_reducible refine bdrew ?_) | (with_reducible refine baa ?_ _) | (with_reducible refine bs ?_ (by first | exact Nat.le_refl _ | omega | (simp; done) | (simp; omega)) _) | (with_reducible refine bt ?_ (by with_reducible assumption))))) (Tab.below hL (by repeat (first | (with_reducible exact Below.refl _ _) | (with_reducible assumption) | (with_reducible refine bdrew ?_) | (with_reducible refine baa ?_ _) | (with_reducible refine bs ?_ (by first | exact Nat.le_refl _ | omega | (simp; done) | (simp; omega)) _) | (with_reducible refine bt ?_ (by with_reducible assumption)))))).mono ?_
  rintro e w1 ⟨rfl, hb1⟩
  obtain ⟨hc1, hf1⟩ := bcell hb1
  have hz1 := hb1.size
  try simp at hz1
  go_wp2_with fail
  go_ret2
  exact ⟨rfl, by repeat (first | (with_reducible exact Below.refl _ _) | (with_reducible assumption) | (with_reducible refine bdrew ?_) | (with_reducible refine baa ?_ _) | (with_reducible refine bs ?_ (by first | exact Nat.le_refl _ | omega | (simp; done) | (simp; omega)) _) | (with_reducible refine bt ?_ (by with_reducible assumption)))⟩
set_option maxHeartbeats 2000000 in
theorem chodesh_Counted_no (y n : Int) (w : World) (hy : I64 y) (h : y < 1 ∨ 9999 < y) (hT : Tab w 2 kevCells) (hL : Tab w 3 lenCells) :
    Calls Tryz.prog 20 #[.int .i64 y, .int .i64 n] w fun e w' => e = .returned (.tuple #[.int .i64 0, .int .i64 2]) ∧ Below w.heap.size w w' := by
  have HAh := Lib.hid (fun w hT hL => ahead_no y w hy h hT hL)
  clear h
  go_enter Tryz.func20, Tryz.ntmps20
  go_wp2_with fail
  refine (HAh.out _ (Tab.below hT (by repeat (first | (with_reducible exact Below.refl _ _) | (with_reducible assumption) | (with_reducible refine bdrew ?_) | (with_reducible refine baa ?_ _) | (with_reducible refine bs ?_ (by first | exact Nat.le_refl _ | omega | (simp; done) | (simp; omega)) _) | (with_reducible refine bt ?_ (by with_reducible assumption))))) (Tab.below hL (by repeat (first | (with_reducible exact Below.refl _ _) | (with_reducible assumption) | (with_reducible refine bdrew ?_) | (with_reducible refine baa ?_ _) | (with_reducible refine bs ?_ (by first | exact Nat.le_refl _ | omega | (simp; done) | (simp; omega)) _) | (with_reducible refine bt ?_ (by with_reducible assumption)))))).mono ?_
  rintro e w1 ⟨rfl, hb1⟩
  obtain ⟨hc1, hf1⟩ := bcell hb1
  have hz1 := hb1.size
  try simp at hz1
  go_wp2_with fail
  go_ret2
  exact ⟨rfl, by repeat (first | (with_reducible exact Below.refl _ _) | (with_reducible assumption) | (with_reducible refine bdrew ?_) | (with_reducible refine baa ?_ _) | (with_reducible refine bs ?_ (by first | exact Nat.le_refl _ | omega | (simp; done) | (simp; omega)) _) | (with_reducible refine bt ?_ (by with_reducible assumption)))⟩
set_option maxHeartbeats 2000000 in
theorem ref21_Counted_ok (y n : Int) (w : World) (h1 : 1 ≤ y) (h2 : y ≤ 9999) (n1 : 1 ≤ n) (n2 : n ≤ 49) :
    Calls Tryz.prog 21 #[.int .i64 y, .int .i64 n] w fun e w' => e = .returned (.tuple #[.int .i64 (Om.om y + n), .int .i64 0]) ∧ Below w.heap.size w w' := by
  obtain ⟨_, z1, z2⟩ := Om.om_e h1 h2
  have HR := Lib.hid (fun w => ref7_Right y w ⟨by omega, by omega⟩)
  rw [Cal.yearIn_yes y h1 h2] at HR
  have HAh := Lib.hid (fun w => ref19_Day y 7 15 w ⟨by omega, by omega⟩)
  rw [show D10.dayV y 7 false 15 = Om.om y from rfl] at HAh
  generalize Om.om y = Z at *
  have g1 : ¬ n < 1 := by omega
  have g2 : ¬ 49 < n := by omega
  have G1 : decide (n < 1) = false := by simpa using g1
  have G2 : decide (49 < n) = false := by simpa using g2
  go_enter Tryz.func21, Tryz.ntmps21
  go_wp2_with fail
  refine (HR.out _).mono ?_
  rintro e w' ⟨rfl, rfl⟩
  go_wp2_with fail
  refine (HAh.out _).mono ?_
  rintro e w1 ⟨rfl, hb1⟩
  obtain ⟨hc1, hf1⟩ := bcell hb1
  have hz1 := hb1.size
  try simp at hz1
  go_wp2_with fail
  go_ret2
  exact ⟨rfl, by repeat (first | (with_reducible exact Below.refl _ _) | (with_reducible assumption) | (with_reducible refine bdrew ?_) | (with_reducible refine baa ?_ _) | (with_reducible refine bs ?_ (by first | exact Nat.le_refl _ | omega | (simp; done) | (simp; omega)) _) | (with_reducible refine bt ?_ (by with_reducible assumption)))⟩
set_option maxHeartbeats 2000000 in
theorem ref21_Counted_lo (y n : Int) (w : World) (h1 : 1 ≤ y) (h2 : y ≤ 9999) (n1 : n < 1) :
    Calls Tryz.prog 21 #[.int .i64 y, .int .i64 n] w fun e w' => e = .returned (.tuple #[.int .i64 (0), .int .i64 1]) ∧ Below w.heap.size w w' := by
  obtain ⟨_, z1, z2⟩ := Om.om_e h1 h2
  have HR := Lib.hid (fun w => ref7_Right y w ⟨by omega, by omega⟩)
  rw [Cal.yearIn_yes y h1 h2] at HR
  have HAh := Lib.hid (fun w => ref19_Day y 7 15 w ⟨by omega, by omega⟩)
  rw [show D10.dayV y 7 false 15 = Om.om y from rfl] at HAh
  generalize Om.om y = Z at *
  go_enter Tryz.func21, Tryz.ntmps21
  go_wp2_with fail
  refine (HR.out _).mono ?_
  rintro e w' ⟨rfl, rfl⟩
  go_wp2_with fail
  go_ret2
  exact ⟨rfl, by repeat (first | (with_reducible exact Below.refl _ _) | (with_reducible assumption) | (with_reducible refine bdrew ?_) | (with_reducible refine baa ?_ _) | (with_reducible refine bs ?_ (by first | exact Nat.le_refl _ | omega | (simp; done) | (simp; omega)) _) | (with_reducible refine bt ?_ (by with_reducible assumption)))⟩
set_option maxHeartbeats 2000000 in
theorem ref21_Counted_hi (y n : Int) (w : World) (h1 : 1 ≤ y) (h2 : y ≤ 9999) (n0 : ¬ n < 1) (n1 : 49 < n) :
    Calls Tryz.prog 21 #[.int .i64 y, .int .i64 n] w fun e w' => e = .returned (.tuple #[.int .i64 (0), .int .i64 1]) ∧ Below w.heap.size w w' := by
  obtain ⟨_, z1, z2⟩ := Om.om_e h1 h2
  have HR := Lib.hid (fun w => ref7_Right y w ⟨by omega, by omega⟩)
  rw [Cal.yearIn_yes y h1 h2] at HR
  have HAh := Lib.hid (fun w => ref19_Day y 7 15 w ⟨by omega, by omega⟩)
  rw [show D10.dayV y 7 false 15 = Om.om y from rfl] at HAh
  generalize Om.om y = Z at *
  have G1 : decide (n < 1) = false := by simpa using n0
  go_enter Tryz.func21, Tryz.ntmps21
  go_wp2_with fail
  refine (HR.out _).mono ?_
  rintro e w' ⟨rfl, rfl⟩
  go_wp2_with fail
  go_ret2
  exact ⟨rfl, by repeat (first | (with_reducible exact Below.refl _ _) | (with_reducible assumption) | (with_reducible refine bdrew ?_) | (with_reducible refine baa ?_ _) | (with_reducible refine bs ?_ (by first | exact Nat.le_refl _ | omega | (simp; done) | (simp; omega)) _) | (with_reducible refine bt ?_ (by with_reducible assumption)))⟩
set_option maxHeartbeats 2000000 in
theorem ref21_Counted_no (y n : Int) (w : World) (hy : I64 y) (h : y < 1 ∨ 9999 < y) :
    Calls Tryz.prog 21 #[.int .i64 y, .int .i64 n] w fun e w' => e = .returned (.tuple #[.int .i64 0, .int .i64 2]) ∧ Below w.heap.size w w' := by
  have HR := Lib.hid (fun w => ref7_Right y w hy)
  rw [Cal.yearIn_no y h] at HR
  clear h
  go_enter Tryz.func21, Tryz.ntmps21
  go_wp2_with fail
  refine (HR.out _).mono ?_
  rintro e w' ⟨rfl, rfl⟩
  go_wp2_with fail
  go_ret2
  exact ⟨rfl, by repeat (first | (with_reducible exact Below.refl _ _) | (with_reducible assumption) | (with_reducible refine bdrew ?_) | (with_reducible refine baa ?_ _) | (with_reducible refine bs ?_ (by first | exact Nat.le_refl _ | omega | (simp; done) | (simp; omega)) _) | (with_reducible refine bt ?_ (by with_reducible assumption)))⟩
theorem omer_both (D : Int) : ∃ a e, (∀ w : World, Tab w 2 kevCells → Tab w 3 lenCells → Calls Tryz.prog 18 #[.int .i64 D] w fun r w' => r = .returned (.tuple #[.int .i64 a, .int .i64 e]) ∧ Below w.heap.size w w') ∧ (∀ w : World, Calls Tryz.prog 19 #[.int .i64 D] w fun r w' => r = .returned (.tuple #[.int .i64 a, .int .i64 e]) ∧ Below w.heap.size w w') := by
  by_cases h : -1373427 ≤ D ∧ D ≤ 2278650
  · obtain ⟨y, m, d, hv, rfl⟩ := D10.day_there D h.1 h.2
    exact ⟨_, _, fun w hT hL => chodesh_Omer_at y m d w hv hT hL, fun w => ref21_Omer_at y m d w hv⟩
  · exact ⟨_, _, fun w hT hL => chodesh_Omer_no D w (by omega) hT hL, fun w => ref21_Omer_no D w (by omega)⟩
theorem counted_both (y n : Int) (hy : I64 y) : ∃ a e, (∀ w : World, Tab w 2 kevCells → Tab w 3 lenCells → Calls Tryz.prog 20 #[.int .i64 y, .int .i64 n] w fun r w' => r = .returned (.tuple #[.int .i64 a, .int .i64 e]) ∧ Below w.heap.size w w') ∧ (∀ w : World, Calls Tryz.prog 21 #[.int .i64 y, .int .i64 n] w fun r w' => r = .returned (.tuple #[.int .i64 a, .int .i64 e]) ∧ Below w.heap.size w w') := by
  by_cases h : 1 ≤ y ∧ y ≤ 9999
  · by_cases c : n < 1
    · exact ⟨_, _, fun w hT hL => chodesh_Counted_lo y n w h.1 h.2 c hT hL, fun w => ref21_Counted_lo y n w h.1 h.2 c⟩
    · by_cases c2 : 49 < n
      · exact ⟨_, _, fun w hT hL => chodesh_Counted_hi y n w h.1 h.2 c c2 hT hL, fun w => ref21_Counted_hi y n w h.1 h.2 c c2⟩
      · exact ⟨_, _, fun w hT hL => chodesh_Counted_ok y n w h.1 h.2 (by omega) (by omega) hT hL, fun w => ref21_Counted_ok y n w h.1 h.2 (by omega) (by omega)⟩
  · exact ⟨_, _, fun w hT hL => chodesh_Counted_no y n w hy (by omega) hT hL, fun w => ref21_Counted_no y n w hy (by omega)⟩
end Go.Proofs.YtagmdglmflcegaaGreatDoor
