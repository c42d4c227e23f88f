/- Layer 22: the document's Sabbaths with names. -/
import Derived.Test.YtjdogojjoekphaaGreatDoorEvT
import Derived.Test.YtjdogojjoekphaaGreatDoorWeek
import Derived.Test.YtjdogojjoekphaaGreatDoorFlat
namespace Go.Proofs.YtjdogojjoekphaaGreatDoor
open Go.ChangeShapes Go.WideShapes Go.ChangeAt Go.RowKit Go.Lib Go.Sort Go.Shelf
set_option linter.unusedVariables false
set_option maxRecDepth 100000
theorem sp_evs_at (W : World) (l : List (Int × Int)) (t : TypeId) : ∀ j u, (Ev.flat l)[j]? = some u → (W.alloc (.cells (Ev.flat l).toArray t)).cell? ⟨W.heap.size, 0 + j, none⟩ = some u := fun j u h => by
  rw [Nat.zero_add]
  refine (World.cell?_alloc_mark W _ _ _ j).trans ?_
  simpa using h
set_option maxHeartbeats 2000000 in
theorem ref22_upto (y n d D U : Int) (w : World) (H1 : Hid (∀ w : World, Calls Tryz.prog 16 #[.int .i64 y, .int .i64 n, .int .i64 d] w fun e w' => e = .returned (.int .i64 D) ∧ Below w.heap.size w w')) (H2 : Hid (∀ w : World, Calls Tryz.prog 25 #[.int .i64 D, .int .i64 6] w fun e w' => e = .returned (.int .i64 U) ∧ Below w.heap.size w w')) :
    Calls Tryz.prog 13 #[.int .i64 y, .int .i64 n, .int .i64 d] w fun e w' => e = .returned (.int .i64 U) ∧ Below w.heap.size w w' := by
  go_enter Tryz.func13, Tryz.ntmps13
  go_wp2_with fail
  refine (H1.out _).mono ?_
  rintro e w1 ⟨rfl, hb1⟩
  obtain ⟨hc1, hf1⟩ := bcell hb1
  have hz1 := hb1.size
  try simp at hz1
  go_wp2_with fail
  refine (H2.out _).mono ?_
  rintro e w2 ⟨rfl, hb2⟩
  obtain ⟨hc2, hf2⟩ := bcell hb2
  have hz2 := hb2.size
  try simp at hz2
  go_wp2_with fail
  go_ret
  exact ⟨rfl, by repeat (first | (with_reducible exact Below.refl _ _) | (with_reducible assumption) | (with_reducible refine bdrew ?_) | (with_reducible refine baa ?_ _) | (with_reducible refine bs ?_ (by first | exact Nat.le_refl _ | omega | (simp; done) | (simp; omega)) _) | (with_reducible refine bt ?_ (by with_reducible assumption)))⟩
set_option maxHeartbeats 8000000 in
theorem ref22_Of_go (y A B C M G V D : Int) (w : World) (hy1 : 1 ≤ y) (hy2 : y ≤ 9999) (hM : -2000000 ≤ M ∧ M ≤ 3000000) (hV : -2000000 ≤ V ∧ V ≤ 3000000)
    (HM : Hid (∀ w : World, Calls Tryz.prog 13 #[.int .i64 y, .int .i64 7, .int .i64 1] w fun e w' => e = .returned (.int .i64 M) ∧ Below w.heap.size w w')) (HV : Hid (∀ w : World, Calls Tryz.prog 13 #[.int .i64 y, .int .i64 11, .int .i64 9] w fun e w' => e = .returned (.int .i64 V) ∧ Below w.heap.size w w')) (HB : Hid (∀ w : World, Calls Tryz.prog 13 #[.int .i64 y, .int .i64 6, .int .i64 1] w fun e w' => e = .returned (.int .i64 B) ∧ Below w.heap.size w w')) (HC : Hid (∀ w : World, Calls Tryz.prog 13 #[.int .i64 y, .int .i64 6, .int .i64 13] w fun e w' => e = .returned (.int .i64 C) ∧ Below w.heap.size w w')) (HG : Hid (∀ w : World, Calls Tryz.prog 13 #[.int .i64 y, .int .i64 7, .int .i64 14] w fun e w' => e = .returned (.int .i64 G) ∧ Below w.heap.size w w'))
    (HD : Hid (∀ w : World, Calls Tryz.prog 16 #[.int .i64 y, .int .i64 1, .int .i64 3] w fun e w' => e = .returned (.int .i64 D) ∧ Below w.heap.size w w')) (HA : Hid (∀ w : World, Calls Tryz.prog 15 #[.int .i64 D, .int .i64 6] w fun e w' => e = .returned (.int .i64 A) ∧ Below w.heap.size w w')) :
    Calls Tryz.prog 5 #[.int .i64 y] w fun e w' => ∃ v, e = .returned (.tuple #[v, .int .i64 0]) ∧ Ev.Own w' w.heap.size v (Ev.sort [(35, A), (30, B), (31, C), (32, M - 7), (33, M), (34, G), (36, V), (37, V + 7)]) ∧ Below w.heap.size w w' := by
  have HRi := Lib.hid (fun w => ref7_Right y w ⟨by omega, by omega⟩)
  rw [Cal.yearIn_yes y hy1 hy2] at HRi
  obtain ⟨m1, m2⟩ := hM
  obtain ⟨v1, v2⟩ := hV
  go_enter Tryz.func5, Tryz.ntmps5
  go_wp2_with fail
  refine (HRi.out _).mono ?_
  rintro e w' ⟨rfl, rfl⟩
  go_wp2_with fail
  refine (HM.out _).mono ?_
  rintro e w1 ⟨rfl, hb1⟩
  obtain ⟨hc1, hf1⟩ := bcell hb1
  have hz1 := hb1.size
  try simp at hz1
  go_wp2_with fail
  refine (HV.out _).mono ?_
  rintro e w2 ⟨rfl, hb2⟩
  obtain ⟨hc2, hf2⟩ := bcell hb2
  have hz2 := hb2.size
  try simp at hz2
  go_wp2_with fail
  refine (HD.out _).mono ?_
  rintro e w3 ⟨rfl, hb3⟩
  obtain ⟨hc3, hf3⟩ := bcell hb3
  have hz3 := hb3.size
  try simp at hz3
  go_wp2_with fail
  refine (HA.out _).mono ?_
  rintro e w4 ⟨rfl, hb4⟩
  obtain ⟨hc4, hf4⟩ := bcell hb4
  have hz4 := hb4.size
  try simp at hz4
  go_wp2_with fail
  refine (HB.out _).mono ?_
  rintro e w5 ⟨rfl, hb5⟩
  obtain ⟨hc5, hf5⟩ := bcell hb5
  have hz5 := hb5.size
  try simp at hz5
  go_wp2_with fail
  refine (HC.out _).mono ?_
  rintro e w6 ⟨rfl, hb6⟩
  obtain ⟨hc6, hf6⟩ := bcell hb6
  have hz6 := hb6.size
  try simp at hz6
  go_wp2_with fail
  refine (HG.out _).mono ?_
  rintro e w7 ⟨rfl, hb7⟩
  obtain ⟨hc7, hf7⟩ := bcell hb7
  have hz7 := hb7.size
  try simp at hz7
  go_wp2_with fail
  refine (ref19_Sort _ [(35, A), (30, B), (31, C), (32, M - 7), (33, M), (34, G), (36, V), (37, V + 7)] _ (.inr ⟨w7.heap.size, 0, 8, rfl, sp_evs_at w7 [(35, A), (30, B), (31, C), (32, M - 7), (33, M), (34, G), (36, V), (37, V + 7)] _⟩) (by simp)).mono ?_
  rintro e w9 ⟨v9, rfl, ho9, hb9⟩
  go_wp2_with fail
  have hB4 : Below w.heap.size w w7 := by repeat (first | (with_reducible exact Below.refl _ _) | (with_reducible assumption) | (with_reducible refine bdrew ?_) | (with_reducible refine baa ?_ _) | (with_reducible refine bs ?_ (by first | exact Nat.le_refl _ | omega | (simp; done) | (simp; omega)) _) | (with_reducible refine bt ?_ (by with_reducible assumption)))
  have hs4 := hB4.size
  go_ret2
  exact ⟨_, rfl, ho9.base (by simp; omega), bt (baa hB4 _) hb9⟩
end Go.Proofs.YtjdogojjoekphaaGreatDoor
