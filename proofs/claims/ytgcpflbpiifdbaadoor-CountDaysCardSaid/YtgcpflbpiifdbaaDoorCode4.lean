/- Layer 9: places of codes. -/
import Derived.Test.YtgcpflbpiifdbaaDoorCode3
namespace Go.Proofs.YtgcpflbpiifdbaaDoor
open Go.ChangeShapes Go.WideShapes Go.ChangeAt Go.RowKit
set_option linter.unusedVariables false
set_option maxRecDepth 100000

theorem code_Place_no_false (n : Int) (l : Bool) (w : World) (h : Cal.right n l = false) : Calls Tryd.prog 43 #[.bool false, .agg #[.int .i64 n, .bool l]] w fun e w' => e = .returned (.tuple #[.int .i64 0, .bool false]) ∧ Below w.heap.size w w' := by
  go_enter Tryd.func43, Tryd.ntmps43
  go_wp2_with fail
  refine (code_Right_no n l _ h).mono ?_
  rintro e w1 ⟨rfl, hb1⟩
  obtain ⟨hc1, hf1⟩ := bcell hb1
  have hz1 := hb1.size
  try simp at hz1
  have g1x0 : w1.cell? ⟨w.heap.size, 0, none⟩ = some (.int .i64 n) := (hc1 _ _ (by first | omega | (simp; done) | (simp; omega))).trans (by first | assumption | simp [go_sem] | simp [go_sem, *])
  have g1x1 : w1.cell? ⟨w.heap.size, 1, none⟩ = some (.bool l) := (hc1 _ _ (by first | omega | (simp; done) | (simp; omega))).trans (by first | assumption | simp [go_sem] | simp [go_sem, *])
  go_wp2_with fail
  go_ret2
  exact ⟨rfl, bt (ba _ _) hb1⟩

theorem code_Place_no_true (n : Int) (l : Bool) (w : World) (h : Cal.right n l = false) : Calls Tryd.prog 43 #[.bool true, .agg #[.int .i64 n, .bool l]] w fun e w' => e = .returned (.tuple #[.int .i64 0, .bool false]) ∧ Below w.heap.size w w' := by
  go_enter Tryd.func43, Tryd.ntmps43
  go_wp2_with fail
  refine (code_Right_no n l _ h).mono ?_
  rintro e w1 ⟨rfl, hb1⟩
  obtain ⟨hc1, hf1⟩ := bcell hb1
  have hz1 := hb1.size
  try simp at hz1
  have g1x0 : w1.cell? ⟨w.heap.size, 0, none⟩ = some (.int .i64 n) := (hc1 _ _ (by first | omega | (simp; done) | (simp; omega))).trans (by first | assumption | simp [go_sem] | simp [go_sem, *])
  have g1x1 : w1.cell? ⟨w.heap.size, 1, none⟩ = some (.bool l) := (hc1 _ _ (by first | omega | (simp; done) | (simp; omega))).trans (by first | assumption | simp [go_sem] | simp [go_sem, *])
  go_wp2_with fail
  go_ret2
  exact ⟨rfl, bt (ba _ _) hb1⟩

theorem code_Place_plain (n : Int) (w : World) (h1 : 1 ≤ n) (h2 : n ≤ 12) : Calls Tryd.prog 43 #[.bool false, .agg #[.int .i64 n, .bool false]] w fun e w' => e = .returned (.tuple #[.int .i64 n, .bool true]) ∧ Below w.heap.size w w' := by
  go_enter Tryd.func43, Tryd.ntmps43
  go_wp2_with fail
  refine (code_Right_ok n _ h1 h2).mono ?_
  rintro e w1 ⟨rfl, hb1⟩
  obtain ⟨hc1, hf1⟩ := bcell hb1
  have hz1 := hb1.size
  try simp at hz1
  have g1x0 : w1.cell? ⟨w.heap.size, 0, none⟩ = some (.int .i64 n) := (hc1 _ _ (by first | omega | (simp; done) | (simp; omega))).trans (by first | assumption | simp [go_sem] | simp [go_sem, *])
  have g1x1 : w1.cell? ⟨w.heap.size, 1, none⟩ = some (.bool false) := (hc1 _ _ (by first | omega | (simp; done) | (simp; omega))).trans (by first | assumption | simp [go_sem] | simp [go_sem, *])
  go_wp2_with fail
  go_ret2
  exact ⟨rfl, bt (ba _ _) hb1⟩

theorem code_Place_low (n : Int) (w : World) (h1 : 1 ≤ n) (h2 : n ≤ 5) : Calls Tryd.prog 43 #[.bool true, .agg #[.int .i64 n, .bool false]] w fun e w' => e = .returned (.tuple #[.int .i64 n, .bool true]) ∧ Below w.heap.size w w' := by
  go_enter Tryd.func43, Tryd.ntmps43
  go_wp2_with fail
  refine (code_Right_ok n _ h1 (by omega)).mono ?_
  rintro e w1 ⟨rfl, hb1⟩
  obtain ⟨hc1, hf1⟩ := bcell hb1
  have hz1 := hb1.size
  try simp at hz1
  have g1x0 : w1.cell? ⟨w.heap.size, 0, none⟩ = some (.int .i64 n) := (hc1 _ _ (by first | omega | (simp; done) | (simp; omega))).trans (by first | assumption | simp [go_sem] | simp [go_sem, *])
  have g1x1 : w1.cell? ⟨w.heap.size, 1, none⟩ = some (.bool false) := (hc1 _ _ (by first | omega | (simp; done) | (simp; omega))).trans (by first | assumption | simp [go_sem] | simp [go_sem, *])
  go_wp2_with fail
  go_ret2
  exact ⟨rfl, bt (ba _ _) hb1⟩

theorem code_Place_up (n : Int) (w : World) (h1 : 5 < n) (h2 : n ≤ 12) : Calls Tryd.prog 43 #[.bool true, .agg #[.int .i64 n, .bool false]] w fun e w' => e = .returned (.tuple #[.int .i64 (n + 1), .bool true]) ∧ Below w.heap.size w w' := by
  go_enter Tryd.func43, Tryd.ntmps43
  go_wp2_with fail
  refine (code_Right_ok n _ (by omega) h2).mono ?_
  rintro e w1 ⟨rfl, hb1⟩
  obtain ⟨hc1, hf1⟩ := bcell hb1
  have hz1 := hb1.size
  try simp at hz1
  have g1x0 : w1.cell? ⟨w.heap.size, 0, none⟩ = some (.int .i64 n) := (hc1 _ _ (by first | omega | (simp; done) | (simp; omega))).trans (by first | assumption | simp [go_sem] | simp [go_sem, *])
  have g1x1 : w1.cell? ⟨w.heap.size, 1, none⟩ = some (.bool false) := (hc1 _ _ (by first | omega | (simp; done) | (simp; omega))).trans (by first | assumption | simp [go_sem] | simp [go_sem, *])
  go_wp2_with fail
  go_ret2
  exact ⟨rfl, bt (ba _ _) hb1⟩

theorem code_Place_leap (w : World)  : Calls Tryd.prog 43 #[.bool true, .agg #[.int .i64 5, .bool true]] w fun e w' => e = .returned (.tuple #[.int .i64 6, .bool true]) ∧ Below w.heap.size w w' := by
  go_enter Tryd.func43, Tryd.ntmps43
  go_wp2_with fail
  refine (code_Right_leap _).mono ?_
  rintro e w1 ⟨rfl, hb1⟩
  obtain ⟨hc1, hf1⟩ := bcell hb1
  have hz1 := hb1.size
  try simp at hz1
  have g1x0 : w1.cell? ⟨w.heap.size, 0, none⟩ = some (.int .i64 5) := (hc1 _ _ (by first | omega | (simp; done) | (simp; omega))).trans (by first | assumption | simp [go_sem] | simp [go_sem, *])
  have g1x1 : w1.cell? ⟨w.heap.size, 1, none⟩ = some (.bool true) := (hc1 _ _ (by first | omega | (simp; done) | (simp; omega))).trans (by first | assumption | simp [go_sem] | simp [go_sem, *])
  go_wp2_with fail
  go_ret2
  exact ⟨rfl, bt (ba _ _) hb1⟩

theorem code_Place_lone (w : World)  : Calls Tryd.prog 43 #[.bool false, .agg #[.int .i64 5, .bool true]] w fun e w' => e = .returned (.tuple #[.int .i64 0, .bool false]) ∧ Below w.heap.size w w' := by
  go_enter Tryd.func43, Tryd.ntmps43
  go_wp2_with fail
  refine (code_Right_leap _).mono ?_
  rintro e w1 ⟨rfl, hb1⟩
  obtain ⟨hc1, hf1⟩ := bcell hb1
  have hz1 := hb1.size
  try simp at hz1
  have g1x0 : w1.cell? ⟨w.heap.size, 0, none⟩ = some (.int .i64 5) := (hc1 _ _ (by first | omega | (simp; done) | (simp; omega))).trans (by first | assumption | simp [go_sem] | simp [go_sem, *])
  have g1x1 : w1.cell? ⟨w.heap.size, 1, none⟩ = some (.bool true) := (hc1 _ _ (by first | omega | (simp; done) | (simp; omega))).trans (by first | assumption | simp [go_sem] | simp [go_sem, *])
  go_wp2_with fail
  go_ret2
  exact ⟨rfl, bt (ba _ _) hb1⟩

end Go.Proofs.YtgcpflbpiifdbaaDoor
