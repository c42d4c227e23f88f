/- Layer 14: the document's names of months, and words. -/
import Derived.Test.YtagmdglmflcegaaGreatDoorRef14
import Derived.Test.YtagmdglmflcegaaGreatDoorHebR
import Derived.Test.YtagmdglmflcegaaGreatDoorName3
import Derived.RegionTactic
import Derived.Outline
import Derived.Laws.IdiomStrings
namespace Go.Proofs.YtagmdglmflcegaaGreatDoor
open Go.ChangeShapes Go.WideShapes Go.ChangeAt Go.RowKit
set_option linter.unusedVariables false
set_option maxRecDepth 100000
set_option maxHeartbeats 4000000 in
theorem ref14_Month_err (y : Int) (n : Int) (l : Bool) (er : Int) (lv : Int) (w : World) (HL : Hid (∀ w : World, Calls Tryz.prog 31 #[.int .i64 y, .agg #[.int .i64 (n), .bool l]] w fun e w' => e = .returned (.tuple #[.int .i64 lv, .int .i64 (er)]) ∧ Below w.heap.size w w')) (h0 : (er != 0) = true) :
    Calls Tryz.prog 10 #[.int .i64 y, .agg #[.int .i64 (n), .bool l]] w fun e w' => e = .returned (.tuple #[.string ⟨#[]⟩, .int .i64 (er)]) ∧ Below w.heap.size w w' := by
  go_enter Tryz.func10, Tryz.ntmps10
  go_wp2_with fail
  refine (HL.out _).mono ?_
  rintro e w1 ⟨rfl, hb1⟩
  obtain ⟨hc1, hf1⟩ := bcell hb1
  have hz1 := hb1.size
  try simp at hz1
  have hs1x0 : w.heap.size < w1.heap.size := by omega
  have g1x0 : w1.cell? ⟨w.heap.size, 0, none⟩ = some (.int .i64 (n)) := (hc1 _ _ (by first | omega | (simp; done) | (simp; omega))).trans (by first | (with_reducible assumption) | (simp [go_sem]; done) | (simp [go_sem, *]; done) | assumption)
  have g1x1 : w1.cell? ⟨w.heap.size, 1, none⟩ = some (.bool l) := (hc1 _ _ (by first | omega | (simp; done) | (simp; omega))).trans (by first | (with_reducible assumption) | (simp [go_sem]; done) | (simp [go_sem, *]; done) | assumption)
  go_wp2_with fail
  go_ret2
  refine ⟨rfl, ?_⟩
  repeat (first | (with_reducible exact Below.refl _ _) | (with_reducible assumption) | (with_reducible refine bdrew ?_) | (with_reducible refine baa ?_ _) | (with_reducible refine bs ?_ (by first | exact Nat.le_refl _ | omega | (simp; done) | (simp; omega)) _) | (with_reducible refine bt ?_ (by with_reducible assumption)))
set_option maxHeartbeats 4000000 in
theorem ref14_Month_I (y : Int) (n : Int) (lv : Int) (w : World) (HL : Hid (∀ w : World, Calls Tryz.prog 31 #[.int .i64 y, .agg #[.int .i64 (n), .bool true]] w fun e w' => e = .returned (.tuple #[.int .i64 lv, .int .i64 (0)]) ∧ Below w.heap.size w w')) :
    Calls Tryz.prog 10 #[.int .i64 y, .agg #[.int .i64 (n), .bool true]] w fun e w' => e = .returned (.tuple #[.string ⟨#[65, 100, 97, 114, 32, 73]⟩, .int .i64 (0)]) ∧ Below w.heap.size w w' := by
  go_enter Tryz.func10, Tryz.ntmps10
  go_wp2_with fail
  refine (HL.out _).mono ?_
  rintro e w1 ⟨rfl, hb1⟩
  obtain ⟨hc1, hf1⟩ := bcell hb1
  have hz1 := hb1.size
  try simp at hz1
  have hs1x0 : w.heap.size < w1.heap.size := by omega
  have g1x0 : w1.cell? ⟨w.heap.size, 0, none⟩ = some (.int .i64 (n)) := (hc1 _ _ (by first | omega | (simp; done) | (simp; omega))).trans (by first | (with_reducible assumption) | (simp [go_sem]; done) | (simp [go_sem, *]; done) | assumption)
  have g1x1 : w1.cell? ⟨w.heap.size, 1, none⟩ = some (.bool true) := (hc1 _ _ (by first | omega | (simp; done) | (simp; omega))).trans (by first | (with_reducible assumption) | (simp [go_sem]; done) | (simp [go_sem, *]; done) | assumption)
  go_wp2_with fail
  go_ret2
  refine ⟨rfl, ?_⟩
  repeat (first | (with_reducible exact Below.refl _ _) | (with_reducible assumption) | (with_reducible refine bdrew ?_) | (with_reducible refine baa ?_ _) | (with_reducible refine bs ?_ (by first | exact Nat.le_refl _ | omega | (simp; done) | (simp; omega)) _) | (with_reducible refine bt ?_ (by with_reducible assumption)))
set_option maxHeartbeats 4000000 in
theorem ref14_Month_II (y : Int) (lv : Int) (w : World) (HL : Hid (∀ w : World, Calls Tryz.prog 31 #[.int .i64 y, .agg #[.int .i64 (6), .bool false]] w fun e w' => e = .returned (.tuple #[.int .i64 lv, .int .i64 (0)]) ∧ Below w.heap.size w w')) (HI : Hid (∀ w : World, Calls Tryz.prog 32 #[.int .i64 y] w fun e w' => e = .returned (.bool true) ∧ w = w')) :
    Calls Tryz.prog 10 #[.int .i64 y, .agg #[.int .i64 (6), .bool false]] w fun e w' => e = .returned (.tuple #[.string ⟨#[65, 100, 97, 114, 32, 73, 73]⟩, .int .i64 (0)]) ∧ Below w.heap.size w w' := by
  go_enter Tryz.func10, Tryz.ntmps10
  go_wp2_with fail
  refine (HL.out _).mono ?_
  rintro e w1 ⟨rfl, hb1⟩
  obtain ⟨hc1, hf1⟩ := bcell hb1
  have hz1 := hb1.size
  try simp at hz1
  have hs1x0 : w.heap.size < w1.heap.size := by omega
  have g1x0 : w1.cell? ⟨w.heap.size, 0, none⟩ = some (.int .i64 (6)) := (hc1 _ _ (by first | omega | (simp; done) | (simp; omega))).trans (by first | (with_reducible assumption) | (simp [go_sem]; done) | (simp [go_sem, *]; done) | assumption)
  have g1x1 : w1.cell? ⟨w.heap.size, 1, none⟩ = some (.bool false) := (hc1 _ _ (by first | omega | (simp; done) | (simp; omega))).trans (by first | (with_reducible assumption) | (simp [go_sem]; done) | (simp [go_sem, *]; done) | assumption)
  go_wp2_with fail
  refine (HI.out _).mono ?_
  rintro e w' ⟨rfl, rfl⟩
  go_wp2_with fail
  go_ret2
  refine ⟨rfl, ?_⟩
  repeat (first | (with_reducible exact Below.refl _ _) | (with_reducible assumption) | (with_reducible refine bdrew ?_) | (with_reducible refine baa ?_ _) | (with_reducible refine bs ?_ (by first | exact Nat.le_refl _ | omega | (simp; done) | (simp; omega)) _) | (with_reducible refine bt ?_ (by with_reducible assumption)))
set_option maxHeartbeats 4000000 in
theorem ref14_Month_1 (y : Int) (lv : Int) (w : World) (HL : Hid (∀ w : World, Calls Tryz.prog 31 #[.int .i64 y, .agg #[.int .i64 (1), .bool false]] w fun e w' => e = .returned (.tuple #[.int .i64 lv, .int .i64 (0)]) ∧ Below w.heap.size w w')) :
    Calls Tryz.prog 10 #[.int .i64 y, .agg #[.int .i64 (1), .bool false]] w fun e w' => e = .returned (.tuple #[.string ⟨#[84, 105, 115, 104, 114, 105]⟩, .int .i64 (0)]) ∧ Below w.heap.size w w' := by
  go_enter Tryz.func10, Tryz.ntmps10
  go_wp2_with fail
  refine (HL.out _).mono ?_
  rintro e w1 ⟨rfl, hb1⟩
  obtain ⟨hc1, hf1⟩ := bcell hb1
  have hz1 := hb1.size
  try simp at hz1
  have hs1x0 : w.heap.size < w1.heap.size := by omega
  have g1x0 : w1.cell? ⟨w.heap.size, 0, none⟩ = some (.int .i64 (1)) := (hc1 _ _ (by first | omega | (simp; done) | (simp; omega))).trans (by first | (with_reducible assumption) | (simp [go_sem]; done) | (simp [go_sem, *]; done) | assumption)
  have g1x1 : w1.cell? ⟨w.heap.size, 1, none⟩ = some (.bool false) := (hc1 _ _ (by first | omega | (simp; done) | (simp; omega))).trans (by first | (with_reducible assumption) | (simp [go_sem]; done) | (simp [go_sem, *]; done) | assumption)
  go_wp2_with fail
  have H : ∀ W : World, (W.alloc (.cells nameCells.toArray 9)).cell? ⟨W.heap.size, 0, none⟩ = some (.string ⟨#[84, 105, 115, 104, 114, 105]⟩) := fun W => (World.cell?_alloc_mark W _ _ _ 0).trans rfl
  have n1 := World.new_ne w1 _ g1x0
  go_region_with (first | (go_at_call 33; refine (ref14_names _).mono ?_; rintro e w4 ⟨rfl, rfl⟩))
  all_goals go_wp2_with fail
  all_goals go_ret2
  all_goals refine ⟨rfl, ?_⟩
  all_goals (repeat (first | (with_reducible exact Below.refl _ _) | (with_reducible assumption) | (with_reducible refine bdrew ?_) | (with_reducible refine baa ?_ _) | (with_reducible refine bs ?_ (by first | exact Nat.le_refl _ | omega | (simp; done) | (simp; omega)) _) | (with_reducible refine bt ?_ (by with_reducible assumption))))
set_option maxHeartbeats 4000000 in
theorem ref14_Month_2 (y : Int) (lv : Int) (w : World) (HL : Hid (∀ w : World, Calls Tryz.prog 31 #[.int .i64 y, .agg #[.int .i64 (2), .bool false]] w fun e w' => e = .returned (.tuple #[.int .i64 lv, .int .i64 (0)]) ∧ Below w.heap.size w w')) :
    Calls Tryz.prog 10 #[.int .i64 y, .agg #[.int .i64 (2), .bool false]] w fun e w' => e = .returned (.tuple #[.string ⟨#[72, 101, 115, 104, 118, 97, 110]⟩, .int .i64 (0)]) ∧ Below w.heap.size w w' := by
  go_enter Tryz.func10, Tryz.ntmps10
  go_wp2_with fail
  refine (HL.out _).mono ?_
  rintro e w1 ⟨rfl, hb1⟩
  obtain ⟨hc1, hf1⟩ := bcell hb1
  have hz1 := hb1.size
  try simp at hz1
  have hs1x0 : w.heap.size < w1.heap.size := by omega
  have g1x0 : w1.cell? ⟨w.heap.size, 0, none⟩ = some (.int .i64 (2)) := (hc1 _ _ (by first | omega | (simp; done) | (simp; omega))).trans (by first | (with_reducible assumption) | (simp [go_sem]; done) | (simp [go_sem, *]; done) | assumption)
  have g1x1 : w1.cell? ⟨w.heap.size, 1, none⟩ = some (.bool false) := (hc1 _ _ (by first | omega | (simp; done) | (simp; omega))).trans (by first | (with_reducible assumption) | (simp [go_sem]; done) | (simp [go_sem, *]; done) | assumption)
  go_wp2_with fail
  have H : ∀ W : World, (W.alloc (.cells nameCells.toArray 9)).cell? ⟨W.heap.size, 1, none⟩ = some (.string ⟨#[72, 101, 115, 104, 118, 97, 110]⟩) := fun W => (World.cell?_alloc_mark W _ _ _ 1).trans rfl
  have n1 := World.new_ne w1 _ g1x0
  go_region_with (first | (go_at_call 33; refine (ref14_names _).mono ?_; rintro e w4 ⟨rfl, rfl⟩))
  all_goals go_wp2_with fail
  all_goals go_ret2
  all_goals refine ⟨rfl, ?_⟩
  all_goals (repeat (first | (with_reducible exact Below.refl _ _) | (with_reducible assumption) | (with_reducible refine bdrew ?_) | (with_reducible refine baa ?_ _) | (with_reducible refine bs ?_ (by first | exact Nat.le_refl _ | omega | (simp; done) | (simp; omega)) _) | (with_reducible refine bt ?_ (by with_reducible assumption))))
set_option maxHeartbeats 4000000 in
theorem ref14_Month_3 (y : Int) (lv : Int) (w : World) (HL : Hid (∀ w : World, Calls Tryz.prog 31 #[.int .i64 y, .agg #[.int .i64 (3), .bool false]] w fun e w' => e = .returned (.tuple #[.int .i64 lv, .int .i64 (0)]) ∧ Below w.heap.size w w')) :
    Calls Tryz.prog 10 #[.int .i64 y, .agg #[.int .i64 (3), .bool false]] w fun e w' => e = .returned (.tuple #[.string ⟨#[75, 105, 115, 108, 101, 118]⟩, .int .i64 (0)]) ∧ Below w.heap.size w w' := by
  go_enter Tryz.func10, Tryz.ntmps10
  go_wp2_with fail
  refine (HL.out _).mono ?_
  rintro e w1 ⟨rfl, hb1⟩
  obtain ⟨hc1, hf1⟩ := bcell hb1
  have hz1 := hb1.size
  try simp at hz1
  have hs1x0 : w.heap.size < w1.heap.size := by omega
  have g1x0 : w1.cell? ⟨w.heap.size, 0, none⟩ = some (.int .i64 (3)) := (hc1 _ _ (by first | omega | (simp; done) | (simp; omega))).trans (by first | (with_reducible assumption) | (simp [go_sem]; done) | (simp [go_sem, *]; done) | assumption)
  have g1x1 : w1.cell? ⟨w.heap.size, 1, none⟩ = some (.bool false) := (hc1 _ _ (by first | omega | (simp; done) | (simp; omega))).trans (by first | (with_reducible assumption) | (simp [go_sem]; done) | (simp [go_sem, *]; done) | assumption)
  go_wp2_with fail
  have H : ∀ W : World, (W.alloc (.cells nameCells.toArray 9)).cell? ⟨W.heap.size, 2, none⟩ = some (.string ⟨#[75, 105, 115, 108, 101, 118]⟩) := fun W => (World.cell?_alloc_mark W _ _ _ 2).trans rfl
  have n1 := World.new_ne w1 _ g1x0
  go_region_with (first | (go_at_call 33; refine (ref14_names _).mono ?_; rintro e w4 ⟨rfl, rfl⟩))
  all_goals go_wp2_with fail
  all_goals go_ret2
  all_goals refine ⟨rfl, ?_⟩
  all_goals (repeat (first | (with_reducible exact Below.refl _ _) | (with_reducible assumption) | (with_reducible refine bdrew ?_) | (with_reducible refine baa ?_ _) | (with_reducible refine bs ?_ (by first | exact Nat.le_refl _ | omega | (simp; done) | (simp; omega)) _) | (with_reducible refine bt ?_ (by with_reducible assumption))))
set_option maxHeartbeats 4000000 in
theorem ref14_Month_4 (y : Int) (lv : Int) (w : World) (HL : Hid (∀ w : World, Calls Tryz.prog 31 #[.int .i64 y, .agg #[.int .i64 (4), .bool false]] w fun e w' => e = .returned (.tuple #[.int .i64 lv, .int .i64 (0)]) ∧ Below w.heap.size w w')) :
    Calls Tryz.prog 10 #[.int .i64 y, .agg #[.int .i64 (4), .bool false]] w fun e w' => e = .returned (.tuple #[.string ⟨#[84, 101, 118, 101, 116]⟩, .int .i64 (0)]) ∧ Below w.heap.size w w' := by
  go_enter Tryz.func10, Tryz.ntmps10
  go_wp2_with fail
  refine (HL.out _).mono ?_
  rintro e w1 ⟨rfl, hb1⟩
  obtain ⟨hc1, hf1⟩ := bcell hb1
  have hz1 := hb1.size
  try simp at hz1
  have hs1x0 : w.heap.size < w1.heap.size := by omega
  have g1x0 : w1.cell? ⟨w.heap.size, 0, none⟩ = some (.int .i64 (4)) := (hc1 _ _ (by first | omega | (simp; done) | (simp; omega))).trans (by first | (with_reducible assumption) | (simp [go_sem]; done) | (simp [go_sem, *]; done) | assumption)
  have g1x1 : w1.cell? ⟨w.heap.size, 1, none⟩ = some (.bool false) := (hc1 _ _ (by first | omega | (simp; done) | (simp; omega))).trans (by first | (with_reducible assumption) | (simp [go_sem]; done) | (simp [go_sem, *]; done) | assumption)
  go_wp2_with fail
  have H : ∀ W : World, (W.alloc (.cells nameCells.toArray 9)).cell? ⟨W.heap.size, 3, none⟩ = some (.string ⟨#[84, 101, 118, 101, 116]⟩) := fun W => (World.cell?_alloc_mark W _ _ _ 3).trans rfl
  have n1 := World.new_ne w1 _ g1x0
  go_region_with (first | (go_at_call 33; refine (ref14_names _).mono ?_; rintro e w4 ⟨rfl, rfl⟩))
  all_goals go_wp2_with fail
  all_goals go_ret2
  all_goals refine ⟨rfl, ?_⟩
  all_goals (repeat (first | (with_reducible exact Below.refl _ _) | (with_reducible assumption) | (with_reducible refine bdrew ?_) | (with_reducible refine baa ?_ _) | (with_reducible refine bs ?_ (by first | exact Nat.le_refl _ | omega | (simp; done) | (simp; omega)) _) | (with_reducible refine bt ?_ (by with_reducible assumption))))
set_option maxHeartbeats 4000000 in
theorem ref14_Month_5 (y : Int) (lv : Int) (w : World) (HL : Hid (∀ w : World, Calls Tryz.prog 31 #[.int .i64 y, .agg #[.int .i64 (5), .bool false]] w fun e w' => e = .returned (.tuple #[.int .i64 lv, .int .i64 (0)]) ∧ Below w.heap.size w w')) :
    Calls Tryz.prog 10 #[.int .i64 y, .agg #[.int .i64 (5), .bool false]] w fun e w' => e = .returned (.tuple #[.string ⟨#[83, 104, 101, 118, 97, 116]⟩, .int .i64 (0)]) ∧ Below w.heap.size w w' := by
  go_enter Tryz.func10, Tryz.ntmps10
  go_wp2_with fail
  refine (HL.out _).mono ?_
  rintro e w1 ⟨rfl, hb1⟩
  obtain ⟨hc1, hf1⟩ := bcell hb1
  have hz1 := hb1.size
  try simp at hz1
  have hs1x0 : w.heap.size < w1.heap.size := by omega
  have g1x0 : w1.cell? ⟨w.heap.size, 0, none⟩ = some (.int .i64 (5)) := (hc1 _ _ (by first | omega | (simp; done) | (simp; omega))).trans (by first | (with_reducible assumption) | (simp [go_sem]; done) | (simp [go_sem, *]; done) | assumption)
  have g1x1 : w1.cell? ⟨w.heap.size, 1, none⟩ = some (.bool false) := (hc1 _ _ (by first | omega | (simp; done) | (simp; omega))).trans (by first | (with_reducible assumption) | (simp [go_sem]; done) | (simp [go_sem, *]; done) | assumption)
  go_wp2_with fail
  have H : ∀ W : World, (W.alloc (.cells nameCells.toArray 9)).cell? ⟨W.heap.size, 4, none⟩ = some (.string ⟨#[83, 104, 101, 118, 97, 116]⟩) := fun W => (World.cell?_alloc_mark W _ _ _ 4).trans rfl
  have n1 := World.new_ne w1 _ g1x0
  go_region_with (first | (go_at_call 33; refine (ref14_names _).mono ?_; rintro e w4 ⟨rfl, rfl⟩))
  all_goals go_wp2_with fail
  all_goals go_ret2
  all_goals refine ⟨rfl, ?_⟩
  all_goals (repeat (first | (with_reducible exact Below.refl _ _) | (with_reducible assumption) | (with_reducible refine bdrew ?_) | (with_reducible refine baa ?_ _) | (with_reducible refine bs ?_ (by first | exact Nat.le_refl _ | omega | (simp; done) | (simp; omega)) _) | (with_reducible refine bt ?_ (by with_reducible assumption))))
set_option maxHeartbeats 4000000 in
theorem ref14_Month_6 (y : Int) (lv : Int) (w : World) (HL : Hid (∀ w : World, Calls Tryz.prog 31 #[.int .i64 y, .agg #[.int .i64 (6), .bool false]] w fun e w' => e = .returned (.tuple #[.int .i64 lv, .int .i64 (0)]) ∧ Below w.heap.size w w')) (HI : Hid (∀ w : World, Calls Tryz.prog 32 #[.int .i64 y] w fun e w' => e = .returned (.bool false) ∧ w = w')) :
    Calls Tryz.prog 10 #[.int .i64 y, .agg #[.int .i64 (6), .bool false]] w fun e w' => e = .returned (.tuple #[.string ⟨#[65, 100, 97, 114]⟩, .int .i64 (0)]) ∧ Below w.heap.size w w' := by
  go_enter Tryz.func10, Tryz.ntmps10
  go_wp2_with fail
  refine (HL.out _).mono ?_
  rintro e w1 ⟨rfl, hb1⟩
  obtain ⟨hc1, hf1⟩ := bcell hb1
  have hz1 := hb1.size
  try simp at hz1
  have hs1x0 : w.heap.size < w1.heap.size := by omega
  have g1x0 : w1.cell? ⟨w.heap.size, 0, none⟩ = some (.int .i64 (6)) := (hc1 _ _ (by first | omega | (simp; done) | (simp; omega))).trans (by first | (with_reducible assumption) | (simp [go_sem]; done) | (simp [go_sem, *]; done) | assumption)
  have g1x1 : w1.cell? ⟨w.heap.size, 1, none⟩ = some (.bool false) := (hc1 _ _ (by first | omega | (simp; done) | (simp; omega))).trans (by first | (with_reducible assumption) | (simp [go_sem]; done) | (simp [go_sem, *]; done) | assumption)
  go_wp2_with fail
  have H : ∀ W : World, (W.alloc (.cells nameCells.toArray 9)).cell? ⟨W.heap.size, 5, none⟩ = some (.string ⟨#[65, 100, 97, 114]⟩) := fun W => (World.cell?_alloc_mark W _ _ _ 5).trans rfl
  refine (HI.out _).mono ?_
  rintro e w' ⟨rfl, rfl⟩
  go_wp2_with fail
  have n1 := World.new_ne w1 _ g1x0
  go_region_with (first | (go_at_call 33; refine (ref14_names _).mono ?_; rintro e w4 ⟨rfl, rfl⟩))
  all_goals go_wp2_with fail
  all_goals go_ret2
  all_goals refine ⟨rfl, ?_⟩
  all_goals (repeat (first | (with_reducible exact Below.refl _ _) | (with_reducible assumption) | (with_reducible refine bdrew ?_) | (with_reducible refine baa ?_ _) | (with_reducible refine bs ?_ (by first | exact Nat.le_refl _ | omega | (simp; done) | (simp; omega)) _) | (with_reducible refine bt ?_ (by with_reducible assumption))))
set_option maxHeartbeats 4000000 in
theorem ref14_Month_7 (y : Int) (lv : Int) (w : World) (HL : Hid (∀ w : World, Calls Tryz.prog 31 #[.int .i64 y, .agg #[.int .i64 (7), .bool false]] w fun e w' => e = .returned (.tuple #[.int .i64 lv, .int .i64 (0)]) ∧ Below w.heap.size w w')) :
    Calls Tryz.prog 10 #[.int .i64 y, .agg #[.int .i64 (7), .bool false]] w fun e w' => e = .returned (.tuple #[.string ⟨#[78, 105, 115, 97, 110]⟩, .int .i64 (0)]) ∧ Below w.heap.size w w' := by
  go_enter Tryz.func10, Tryz.ntmps10
  go_wp2_with fail
  refine (HL.out _).mono ?_
  rintro e w1 ⟨rfl, hb1⟩
  obtain ⟨hc1, hf1⟩ := bcell hb1
  have hz1 := hb1.size
  try simp at hz1
  have hs1x0 : w.heap.size < w1.heap.size := by omega
  have g1x0 : w1.cell? ⟨w.heap.size, 0, none⟩ = some (.int .i64 (7)) := (hc1 _ _ (by first | omega | (simp; done) | (simp; omega))).trans (by first | (with_reducible assumption) | (simp [go_sem]; done) | (simp [go_sem, *]; done) | assumption)
  have g1x1 : w1.cell? ⟨w.heap.size, 1, none⟩ = some (.bool false) := (hc1 _ _ (by first | omega | (simp; done) | (simp; omega))).trans (by first | (with_reducible assumption) | (simp [go_sem]; done) | (simp [go_sem, *]; done) | assumption)
  go_wp2_with fail
  have H : ∀ W : World, (W.alloc (.cells nameCells.toArray 9)).cell? ⟨W.heap.size, 6, none⟩ = some (.string ⟨#[78, 105, 115, 97, 110]⟩) := fun W => (World.cell?_alloc_mark W _ _ _ 6).trans rfl
  have n1 := World.new_ne w1 _ g1x0
  go_region_with (first | (go_at_call 33; refine (ref14_names _).mono ?_; rintro e w4 ⟨rfl, rfl⟩))
  all_goals go_wp2_with fail
  all_goals go_ret2
  all_goals refine ⟨rfl, ?_⟩
  all_goals (repeat (first | (with_reducible exact Below.refl _ _) | (with_reducible assumption) | (with_reducible refine bdrew ?_) | (with_reducible refine baa ?_ _) | (with_reducible refine bs ?_ (by first | exact Nat.le_refl _ | omega | (simp; done) | (simp; omega)) _) | (with_reducible refine bt ?_ (by with_reducible assumption))))
set_option maxHeartbeats 4000000 in
theorem ref14_Month_8 (y : Int) (lv : Int) (w : World) (HL : Hid (∀ w : World, Calls Tryz.prog 31 #[.int .i64 y, .agg #[.int .i64 (8), .bool false]] w fun e w' => e = .returned (.tuple #[.int .i64 lv, .int .i64 (0)]) ∧ Below w.heap.size w w')) :
    Calls Tryz.prog 10 #[.int .i64 y, .agg #[.int .i64 (8), .bool false]] w fun e w' => e = .returned (.tuple #[.string ⟨#[73, 121, 97, 114]⟩, .int .i64 (0)]) ∧ Below w.heap.size w w' := by
  go_enter Tryz.func10, Tryz.ntmps10
  go_wp2_with fail
  refine (HL.out _).mono ?_
  rintro e w1 ⟨rfl, hb1⟩
  obtain ⟨hc1, hf1⟩ := bcell hb1
  have hz1 := hb1.size
  try simp at hz1
  have hs1x0 : w.heap.size < w1.heap.size := by omega
  have g1x0 : w1.cell? ⟨w.heap.size, 0, none⟩ = some (.int .i64 (8)) := (hc1 _ _ (by first | omega | (simp; done) | (simp; omega))).trans (by first | (with_reducible assumption) | (simp [go_sem]; done) | (simp [go_sem, *]; done) | assumption)
  have g1x1 : w1.cell? ⟨w.heap.size, 1, none⟩ = some (.bool false) := (hc1 _ _ (by first | omega | (simp; done) | (simp; omega))).trans (by first | (with_reducible assumption) | (simp [go_sem]; done) | (simp [go_sem, *]; done) | assumption)
  go_wp2_with fail
  have H : ∀ W : World, (W.alloc (.cells nameCells.toArray 9)).cell? ⟨W.heap.size, 7, none⟩ = some (.string ⟨#[73, 121, 97, 114]⟩) := fun W => (World.cell?_alloc_mark W _ _ _ 7).trans rfl
  have n1 := World.new_ne w1 _ g1x0
  go_region_with (first | (go_at_call 33; refine (ref14_names _).mono ?_; rintro e w4 ⟨rfl, rfl⟩))
  all_goals go_wp2_with fail
  all_goals go_ret2
  all_goals refine ⟨rfl, ?_⟩
  all_goals (repeat (first | (with_reducible exact Below.refl _ _) | (with_reducible assumption) | (with_reducible refine bdrew ?_) | (with_reducible refine baa ?_ _) | (with_reducible refine bs ?_ (by first | exact Nat.le_refl _ | omega | (simp; done) | (simp; omega)) _) | (with_reducible refine bt ?_ (by with_reducible assumption))))
set_option maxHeartbeats 4000000 in
theorem ref14_Month_9 (y : Int) (lv : Int) (w : World) (HL : Hid (∀ w : World, Calls Tryz.prog 31 #[.int .i64 y, .agg #[.int .i64 (9), .bool false]] w fun e w' => e = .returned (.tuple #[.int .i64 lv, .int .i64 (0)]) ∧ Below w.heap.size w w')) :
    Calls Tryz.prog 10 #[.int .i64 y, .agg #[.int .i64 (9), .bool false]] w fun e w' => e = .returned (.tuple #[.string ⟨#[83, 105, 118, 97, 110]⟩, .int .i64 (0)]) ∧ Below w.heap.size w w' := by
  go_enter Tryz.func10, Tryz.ntmps10
  go_wp2_with fail
  refine (HL.out _).mono ?_
  rintro e w1 ⟨rfl, hb1⟩
  obtain ⟨hc1, hf1⟩ := bcell hb1
  have hz1 := hb1.size
  try simp at hz1
  have hs1x0 : w.heap.size < w1.heap.size := by omega
  have g1x0 : w1.cell? ⟨w.heap.size, 0, none⟩ = some (.int .i64 (9)) := (hc1 _ _ (by first | omega | (simp; done) | (simp; omega))).trans (by first | (with_reducible assumption) | (simp [go_sem]; done) | (simp [go_sem, *]; done) | assumption)
  have g1x1 : w1.cell? ⟨w.heap.size, 1, none⟩ = some (.bool false) := (hc1 _ _ (by first | omega | (simp; done) | (simp; omega))).trans (by first | (with_reducible assumption) | (simp [go_sem]; done) | (simp [go_sem, *]; done) | assumption)
  go_wp2_with fail
  have H : ∀ W : World, (W.alloc (.cells nameCells.toArray 9)).cell? ⟨W.heap.size, 8, none⟩ = some (.string ⟨#[83, 105, 118, 97, 110]⟩) := fun W => (World.cell?_alloc_mark W _ _ _ 8).trans rfl
  have n1 := World.new_ne w1 _ g1x0
  go_region_with (first | (go_at_call 33; refine (ref14_names _).mono ?_; rintro e w4 ⟨rfl, rfl⟩))
  all_goals go_wp2_with fail
  all_goals go_ret2
  all_goals refine ⟨rfl, ?_⟩
  all_goals (repeat (first | (with_reducible exact Below.refl _ _) | (with_reducible assumption) | (with_reducible refine bdrew ?_) | (with_reducible refine baa ?_ _) | (with_reducible refine bs ?_ (by first | exact Nat.le_refl _ | omega | (simp; done) | (simp; omega)) _) | (with_reducible refine bt ?_ (by with_reducible assumption))))
set_option maxHeartbeats 4000000 in
theorem ref14_Month_10 (y : Int) (lv : Int) (w : World) (HL : Hid (∀ w : World, Calls Tryz.prog 31 #[.int .i64 y, .agg #[.int .i64 (10), .bool false]] w fun e w' => e = .returned (.tuple #[.int .i64 lv, .int .i64 (0)]) ∧ Below w.heap.size w w')) :
    Calls Tryz.prog 10 #[.int .i64 y, .agg #[.int .i64 (10), .bool false]] w fun e w' => e = .returned (.tuple #[.string ⟨#[84, 97, 109, 109, 117, 122]⟩, .int .i64 (0)]) ∧ Below w.heap.size w w' := by
  go_enter Tryz.func10, Tryz.ntmps10
  go_wp2_with fail
  refine (HL.out _).mono ?_
  rintro e w1 ⟨rfl, hb1⟩
  obtain ⟨hc1, hf1⟩ := bcell hb1
  have hz1 := hb1.size
  try simp at hz1
  have hs1x0 : w.heap.size < w1.heap.size := by omega
  have g1x0 : w1.cell? ⟨w.heap.size, 0, none⟩ = some (.int .i64 (10)) := (hc1 _ _ (by first | omega | (simp; done) | (simp; omega))).trans (by first | (with_reducible assumption) | (simp [go_sem]; done) | (simp [go_sem, *]; done) | assumption)
  have g1x1 : w1.cell? ⟨w.heap.size, 1, none⟩ = some (.bool false) := (hc1 _ _ (by first | omega | (simp; done) | (simp; omega))).trans (by first | (with_reducible assumption) | (simp [go_sem]; done) | (simp [go_sem, *]; done) | assumption)
  go_wp2_with fail
  have H : ∀ W : World, (W.alloc (.cells nameCells.toArray 9)).cell? ⟨W.heap.size, 9, none⟩ = some (.string ⟨#[84, 97, 109, 109, 117, 122]⟩) := fun W => (World.cell?_alloc_mark W _ _ _ 9).trans rfl
  have n1 := World.new_ne w1 _ g1x0
  go_region_with (first | (go_at_call 33; refine (ref14_names _).mono ?_; rintro e w4 ⟨rfl, rfl⟩))
  all_goals go_wp2_with fail
  all_goals go_ret2
  all_goals refine ⟨rfl, ?_⟩
  all_goals (repeat (first | (with_reducible exact Below.refl _ _) | (with_reducible assumption) | (with_reducible refine bdrew ?_) | (with_reducible refine baa ?_ _) | (with_reducible refine bs ?_ (by first | exact Nat.le_refl _ | omega | (simp; done) | (simp; omega)) _) | (with_reducible refine bt ?_ (by with_reducible assumption))))
set_option maxHeartbeats 4000000 in
theorem ref14_Month_11 (y : Int) (lv : Int) (w : World) (HL : Hid (∀ w : World, Calls Tryz.prog 31 #[.int .i64 y, .agg #[.int .i64 (11), .bool false]] w fun e w' => e = .returned (.tuple #[.int .i64 lv, .int .i64 (0)]) ∧ Below w.heap.size w w')) :
    Calls Tryz.prog 10 #[.int .i64 y, .agg #[.int .i64 (11), .bool false]] w fun e w' => e = .returned (.tuple #[.string ⟨#[65, 118]⟩, .int .i64 (0)]) ∧ Below w.heap.size w w' := by
  go_enter Tryz.func10, Tryz.ntmps10
  go_wp2_with fail
  refine (HL.out _).mono ?_
  rintro e w1 ⟨rfl, hb1⟩
  obtain ⟨hc1, hf1⟩ := bcell hb1
  have hz1 := hb1.size
  try simp at hz1
  have hs1x0 : w.heap.size < w1.heap.size := by omega
  have g1x0 : w1.cell? ⟨w.heap.size, 0, none⟩ = some (.int .i64 (11)) := (hc1 _ _ (by first | omega | (simp; done) | (simp; omega))).trans (by first | (with_reducible assumption) | (simp [go_sem]; done) | (simp [go_sem, *]; done) | assumption)
  have g1x1 : w1.cell? ⟨w.heap.size, 1, none⟩ = some (.bool false) := (hc1 _ _ (by first | omega | (simp; done) | (simp; omega))).trans (by first | (with_reducible assumption) | (simp [go_sem]; done) | (simp [go_sem, *]; done) | assumption)
  go_wp2_with fail
  have H : ∀ W : World, (W.alloc (.cells nameCells.toArray 9)).cell? ⟨W.heap.size, 10, none⟩ = some (.string ⟨#[65, 118]⟩) := fun W => (World.cell?_alloc_mark W _ _ _ 10).trans rfl
  have n1 := World.new_ne w1 _ g1x0
  go_region_with (first | (go_at_call 33; refine (ref14_names _).mono ?_; rintro e w4 ⟨rfl, rfl⟩))
  all_goals go_wp2_with fail
  all_goals go_ret2
  all_goals refine ⟨rfl, ?_⟩
  all_goals (repeat (first | (with_reducible exact Below.refl _ _) | (with_reducible assumption) | (with_reducible refine bdrew ?_) | (with_reducible refine baa ?_ _) | (with_reducible refine bs ?_ (by first | exact Nat.le_refl _ | omega | (simp; done) | (simp; omega)) _) | (with_reducible refine bt ?_ (by with_reducible assumption))))
set_option maxHeartbeats 4000000 in
theorem ref14_Month_12 (y : Int) (lv : Int) (w : World) (HL : Hid (∀ w : World, Calls Tryz.prog 31 #[.int .i64 y, .agg #[.int .i64 (12), .bool false]] w fun e w' => e = .returned (.tuple #[.int .i64 lv, .int .i64 (0)]) ∧ Below w.heap.size w w')) :
    Calls Tryz.prog 10 #[.int .i64 y, .agg #[.int .i64 (12), .bool false]] w fun e w' => e = .returned (.tuple #[.string ⟨#[69, 108, 117, 108]⟩, .int .i64 (0)]) ∧ Below w.heap.size w w' := by
  go_enter Tryz.func10, Tryz.ntmps10
  go_wp2_with fail
  refine (HL.out _).mono ?_
  rintro e w1 ⟨rfl, hb1⟩
  obtain ⟨hc1, hf1⟩ := bcell hb1
  have hz1 := hb1.size
  try simp at hz1
  have hs1x0 : w.heap.size < w1.heap.size := by omega
  have g1x0 : w1.cell? ⟨w.heap.size, 0, none⟩ = some (.int .i64 (12)) := (hc1 _ _ (by first | omega | (simp; done) | (simp; omega))).trans (by first | (with_reducible assumption) | (simp [go_sem]; done) | (simp [go_sem, *]; done) | assumption)
  have g1x1 : w1.cell? ⟨w.heap.size, 1, none⟩ = some (.bool false) := (hc1 _ _ (by first | omega | (simp; done) | (simp; omega))).trans (by first | (with_reducible assumption) | (simp [go_sem]; done) | (simp [go_sem, *]; done) | assumption)
  go_wp2_with fail
  have H : ∀ W : World, (W.alloc (.cells nameCells.toArray 9)).cell? ⟨W.heap.size, 11, none⟩ = some (.string ⟨#[69, 108, 117, 108]⟩) := fun W => (World.cell?_alloc_mark W _ _ _ 11).trans rfl
  have n1 := World.new_ne w1 _ g1x0
  go_region_with (first | (go_at_call 33; refine (ref14_names _).mono ?_; rintro e w4 ⟨rfl, rfl⟩))
  all_goals go_wp2_with fail
  all_goals go_ret2
  all_goals refine ⟨rfl, ?_⟩
  all_goals (repeat (first | (with_reducible exact Below.refl _ _) | (with_reducible assumption) | (with_reducible refine bdrew ?_) | (with_reducible refine baa ?_ _) | (with_reducible refine bs ?_ (by first | exact Nat.le_refl _ | omega | (simp; done) | (simp; omega)) _) | (with_reducible refine bt ?_ (by with_reducible assumption))))
end Go.Proofs.YtagmdglmflcegaaGreatDoor
