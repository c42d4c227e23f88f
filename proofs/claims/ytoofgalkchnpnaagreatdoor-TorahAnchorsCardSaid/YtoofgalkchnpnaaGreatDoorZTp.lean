/- Layer 24: a day's part, the document's. -/
import Derived.Test.YtoofgalkchnpnaaGreatDoorZRC
import Derived.Test.YtoofgalkchnpnaaGreatDoorZEvR
namespace Go.Proofs.YtoofgalkchnpnaaGreatDoor
open Go.ChangeShapes Go.WideShapes Go.ChangeAt Go.RowKit Go.Lib Go.Sort Go.Shelf
set_option linter.unusedVariables false
set_option linter.unusedSimpArgs false
set_option maxRecDepth 100000
set_option maxHeartbeats 2000000 in
theorem ref23_Right (y : Int) (w : World) (h1 : 1 ≤ y) (h2 : y ≤ 9998) :
    Calls Tryo.prog 53 #[.int .i64 y] w fun e w' => e = .returned (.bool true) ∧ w = w' := by
  have d1 : decide (1 ≤ y) = true := decide_eq_true h1
  have d2 : decide (y ≤ 9998) = true := decide_eq_true h2
  go_enter Tryo.func53, Tryz.ntmps53
  go_wp2_with fail
  go_ret
  exact ⟨rfl, rfl⟩
set_option maxHeartbeats 2000000 in
theorem ref23_Part_go (y day A B C E : Int) (w : World) (h1 : 1 ≤ y) (h2 : y ≤ 9998)
    (HA : Hid (∀ w : World, Calls Tryo.prog 31 #[.int .i64 y, .int .i64 7, .int .i64 15] w fun e w' => e = .returned (.int .i64 A) ∧ Below w.heap.size w w')) (HB : Hid (∀ w : World, Calls Tryo.prog 31 #[.int .i64 y, .int .i64 9, .int .i64 5] w fun e w' => e = .returned (.int .i64 B) ∧ Below w.heap.size w w')) (HC : Hid (∀ w : World, Calls Tryo.prog 31 #[.int .i64 y, .int .i64 11, .int .i64 9] w fun e w' => e = .returned (.int .i64 C) ∧ Below w.heap.size w w'))
    (HE : Hid (∀ w : World, Calls Tryo.prog 42 #[.int .i64 (y + 1)] w fun e w' => e = .returned (.tuple #[.int .i64 E, .int .i64 0]) ∧ Below w.heap.size w w')) :
    Calls Tryo.prog 29 #[.int .i64 y, .int .i64 day] w fun e w' => e = .returned (.tuple #[.int .i64 (Sb.part day A B C E), .int .i64 0]) ∧ Below w.heap.size w w' := by
  have HY := Lib.hid (fun w => ref23_Right y w h1 h2)
  have e0 : wrap64 (y + 1) = y + 1 := IntWalk.wrap64_in _ ⟨by omega, by omega⟩
  go_enter Tryo.func29, Tryz.ntmps29
  go_wp2_with fail
  refine (HY.out _).mono ?_
  rintro e w' ⟨rfl, rfl⟩
  go_wp2_with fail
  refine (HE.out _).mono ?_
  rintro e w1 ⟨rfl, hb1⟩
  go_wp2_with fail
  refine (HA.out _).mono ?_
  rintro e w2 ⟨rfl, hb2⟩
  by_cases cA : day < A
  · have d1 : decide (day < A) = true := decide_eq_true cA
    have HV := Lib.hid (show Sb.part day A B C E = 1 by unfold Sb.part; split <;> (try split) <;> (try split) <;> (try split) <;> omega)
    go_wp2_with fail
    go_ret2
    refine ⟨by rw [HV.out]; rfl, ?_⟩
    repeat (first | (with_reducible exact Below.refl _ _) | (with_reducible assumption) | (with_reducible refine bdrew ?_) | (with_reducible refine baa ?_ _) | (with_reducible refine bs ?_ (by first | exact Nat.le_refl _ | omega | (simp; done) | (simp; omega)) _) | (with_reducible refine bt ?_ (by with_reducible assumption)))
  have d1 : decide (day < A) = false := decide_eq_false cA
  go_wp2_with fail
  refine (HB.out _).mono ?_
  rintro e w3 ⟨rfl, hb3⟩
  by_cases cB : day ≤ B
  · have d2 : decide (day ≤ B) = true := decide_eq_true cB
    have HV := Lib.hid (show Sb.part day A B C E = 2 by unfold Sb.part; split <;> (try split) <;> (try split) <;> (try split) <;> omega)
    go_wp2_with fail
    go_ret2
    refine ⟨by rw [HV.out]; rfl, ?_⟩
    repeat (first | (with_reducible exact Below.refl _ _) | (with_reducible assumption) | (with_reducible refine bdrew ?_) | (with_reducible refine baa ?_ _) | (with_reducible refine bs ?_ (by first | exact Nat.le_refl _ | omega | (simp; done) | (simp; omega)) _) | (with_reducible refine bt ?_ (by with_reducible assumption)))
  have d2 : decide (day ≤ B) = false := decide_eq_false cB
  go_wp2_with fail
  refine (HC.out _).mono ?_
  rintro e w4 ⟨rfl, hb4⟩
  by_cases cC : day ≤ C
  · have d3 : decide (day ≤ C) = true := decide_eq_true cC
    have HV := Lib.hid (show Sb.part day A B C E = 3 by unfold Sb.part; split <;> (try split) <;> (try split) <;> (try split) <;> omega)
    go_wp2_with fail
    go_ret2
    refine ⟨by rw [HV.out]; rfl, ?_⟩
    repeat (first | (with_reducible exact Below.refl _ _) | (with_reducible assumption) | (with_reducible refine bdrew ?_) | (with_reducible refine baa ?_ _) | (with_reducible refine bs ?_ (by first | exact Nat.le_refl _ | omega | (simp; done) | (simp; omega)) _) | (with_reducible refine bt ?_ (by with_reducible assumption)))
  have d3 : decide (day ≤ C) = false := decide_eq_false cC
  by_cases cE : day < E
  · have d4 : decide (day < E) = true := decide_eq_true cE
    have HV := Lib.hid (show Sb.part day A B C E = 4 by unfold Sb.part; split <;> (try split) <;> (try split) <;> (try split) <;> omega)
    go_wp2_with fail
    go_ret2
    refine ⟨by rw [HV.out]; rfl, ?_⟩
    repeat (first | (with_reducible exact Below.refl _ _) | (with_reducible assumption) | (with_reducible refine bdrew ?_) | (with_reducible refine baa ?_ _) | (with_reducible refine bs ?_ (by first | exact Nat.le_refl _ | omega | (simp; done) | (simp; omega)) _) | (with_reducible refine bt ?_ (by with_reducible assumption)))
  have d4 : decide (day < E) = false := decide_eq_false cE
  have HV := Lib.hid (show Sb.part day A B C E = 5 by unfold Sb.part; split <;> (try split) <;> (try split) <;> (try split) <;> omega)
  go_wp2_with fail
  go_ret2
  refine ⟨by rw [HV.out]; rfl, ?_⟩
  repeat (first | (with_reducible exact Below.refl _ _) | (with_reducible assumption) | (with_reducible refine bdrew ?_) | (with_reducible refine baa ?_ _) | (with_reducible refine bs ?_ (by first | exact Nat.le_refl _ | omega | (simp; done) | (simp; omega)) _) | (with_reducible refine bt ?_ (by with_reducible assumption)))
/-- A day's part, in the year's own days. -/
theorem ref23_Part (y : Int) (i i2 : Nat) (day : Int) (w : World) (h : Yr.Is y i) (h2 : Yr.Is (y + 1) i2) :
    Calls Tryo.prog 29 #[.int .i64 y, .int .i64 day] w fun e w' => e = .returned (.tuple #[.int .i64 ((Rd.partY y day : Int) + 1), .int .i64 0]) ∧ Below w.heap.size w w' := by
  have a1 := h.1
  have a2 := h2.2.1
  obtain ⟨e1, e2, e3, e4⟩ := Rd.part_days h h2
  have k := ref23_Part_go y day (D10.dayV y 7 false 15) (D10.dayV y 9 false 5) (D10.dayV y 11 false 9) (D10.dayV (y + 1) 1 false 1) w a1 (by omega) (Lib.hid fun w => ref19_Day y 7 15 w ⟨by omega, by omega⟩) (Lib.hid fun w => ref19_Day y 9 5 w ⟨by omega, by omega⟩) (Lib.hid fun w => ref19_Day y 11 9 w ⟨by omega, by omega⟩)
    (Lib.hid fun w => by have := ref5_First_ok (y + 1) w (by omega) (by omega); rwa [Yr.next_first h, ← e4] at this)
  have e : ((Rd.partY y day : Nat) : Int) + 1 = Sb.part day (D10.dayV y 7 false 15) (D10.dayV y 9 false 5) (D10.dayV y 11 false 9) (D10.dayV (y + 1) 1 false 1) := by
    have := Rd.part_in day (D10.dayV y 7 false 15) (D10.dayV y 9 false 5) (D10.dayV y 11 false 9) (D10.dayV (y + 1) 1 false 1)
    unfold Rd.partY
    omega
  rwa [e]
end Go.Proofs.YtoofgalkchnpnaaGreatDoor
