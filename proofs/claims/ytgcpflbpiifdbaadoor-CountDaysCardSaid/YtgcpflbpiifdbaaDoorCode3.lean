/- Layer 9: months' codes and places. -/
import Derived.Test.YtgcpflbpiifdbaaDoorCode2
namespace Go.Proofs.YtgcpflbpiifdbaaDoor
open Go.ChangeShapes Go.WideShapes Go.ChangeAt Go.RowKit
set_option linter.unusedVariables false
set_option maxRecDepth 100000

theorem code_Of_low (m : Int) (w : World) (h : m < 1) : Calls Tryd.prog 44 #[.bool false, .int .i64 m] w fun e w' => e = .returned (.tuple #[.agg #[.int .i64 0, .bool false], .bool false]) ∧ Below w.heap.size w w' := by
  have HR := Lib.hid (show Cal.right (m) false = false by rw [Cal.right, decide_eq_false_iff_not]; omega)
  go_enter Tryd.func44, Tryd.ntmps44
  go_wp2_with fail
  refine (code_Right_no (m) false _ HR.out).mono ?_
  rintro e w1 ⟨rfl, hb1⟩
  obtain ⟨hc1, hf1⟩ := bcell hb1
  have hz1 := hb1.size
  try simp at hz1
  have g1x0 : w1.cell? ⟨w.heap.size, 0, none⟩ = some (.int .i64 0) := (hc1 _ _ (by first | omega | (simp; done) | (simp; omega))).trans (by first | assumption | simp [go_sem] | simp [go_sem, *])
  have g1x1 : w1.cell? ⟨w.heap.size, 1, none⟩ = some (.bool false) := (hc1 _ _ (by first | omega | (simp; done) | (simp; omega))).trans (by first | assumption | simp [go_sem] | simp [go_sem, *])
  have g1x2 : w1.cell? ⟨w.heap.size + 1, 0, none⟩ = some (.int .i64 (m)) := (hc1 _ _ (by first | omega | (simp; done) | (simp; omega))).trans (by first | assumption | simp [go_sem] | simp [go_sem, *])
  have g1x3 : w1.cell? ⟨w.heap.size + 1, 1, none⟩ = some (.bool false) := (hc1 _ _ (by first | omega | (simp; done) | (simp; omega))).trans (by first | assumption | simp [go_sem] | simp [go_sem, *])
  go_wp2_with fail
  refine bodyPost_ret (v := .tuple #[.agg #[.int .i64 0, .bool false], .bool false]) (by simp [results, Tryd.results44, go_sem, g1x0, g1x1]) rfl ⟨rfl, ?_⟩
  first
    | exact bt (baa (ba _ _) _) hb1
    | exact bs (bs (bt (baa (ba _ _) _) hb1) (Nat.le_refl _) _) (Nat.le_refl _) _

theorem code_Of_high (m : Int) (w : World) (h : 12 < m) : Calls Tryd.prog 44 #[.bool false, .int .i64 m] w fun e w' => e = .returned (.tuple #[.agg #[.int .i64 0, .bool false], .bool false]) ∧ Below w.heap.size w w' := by
  have HR := Lib.hid (show Cal.right (m) false = false by rw [Cal.right, decide_eq_false_iff_not]; omega)
  go_enter Tryd.func44, Tryd.ntmps44
  go_wp2_with fail
  refine (code_Right_no (m) false _ HR.out).mono ?_
  rintro e w1 ⟨rfl, hb1⟩
  obtain ⟨hc1, hf1⟩ := bcell hb1
  have hz1 := hb1.size
  try simp at hz1
  have g1x0 : w1.cell? ⟨w.heap.size, 0, none⟩ = some (.int .i64 0) := (hc1 _ _ (by first | omega | (simp; done) | (simp; omega))).trans (by first | assumption | simp [go_sem] | simp [go_sem, *])
  have g1x1 : w1.cell? ⟨w.heap.size, 1, none⟩ = some (.bool false) := (hc1 _ _ (by first | omega | (simp; done) | (simp; omega))).trans (by first | assumption | simp [go_sem] | simp [go_sem, *])
  have g1x2 : w1.cell? ⟨w.heap.size + 1, 0, none⟩ = some (.int .i64 (m)) := (hc1 _ _ (by first | omega | (simp; done) | (simp; omega))).trans (by first | assumption | simp [go_sem] | simp [go_sem, *])
  have g1x3 : w1.cell? ⟨w.heap.size + 1, 1, none⟩ = some (.bool false) := (hc1 _ _ (by first | omega | (simp; done) | (simp; omega))).trans (by first | assumption | simp [go_sem] | simp [go_sem, *])
  go_wp2_with fail
  refine bodyPost_ret (v := .tuple #[.agg #[.int .i64 0, .bool false], .bool false]) (by simp [results, Tryd.results44, go_sem, g1x0, g1x1]) rfl ⟨rfl, ?_⟩
  first
    | exact bt (baa (ba _ _) _) hb1
    | exact bs (bs (bt (baa (ba _ _) _) hb1) (Nat.le_refl _) _) (Nat.le_refl _) _

theorem code_Of_in (m : Int) (w : World) (h : 1 ≤ m) (h2 : m ≤ 12) : Calls Tryd.prog 44 #[.bool false, .int .i64 m] w fun e w' => e = .returned (.tuple #[.agg #[.int .i64 (m), .bool false], .bool true]) ∧ Below w.heap.size w w' := by
  go_enter Tryd.func44, Tryd.ntmps44
  go_wp2_with fail
  refine (code_Right_ok (m) _ (by omega) (by omega)).mono ?_
  rintro e w1 ⟨rfl, hb1⟩
  obtain ⟨hc1, hf1⟩ := bcell hb1
  have hz1 := hb1.size
  try simp at hz1
  have g1x0 : w1.cell? ⟨w.heap.size, 0, none⟩ = some (.int .i64 0) := (hc1 _ _ (by first | omega | (simp; done) | (simp; omega))).trans (by first | assumption | simp [go_sem] | simp [go_sem, *])
  have g1x1 : w1.cell? ⟨w.heap.size, 1, none⟩ = some (.bool false) := (hc1 _ _ (by first | omega | (simp; done) | (simp; omega))).trans (by first | assumption | simp [go_sem] | simp [go_sem, *])
  have g1x2 : w1.cell? ⟨w.heap.size + 1, 0, none⟩ = some (.int .i64 (m)) := (hc1 _ _ (by first | omega | (simp; done) | (simp; omega))).trans (by first | assumption | simp [go_sem] | simp [go_sem, *])
  have g1x3 : w1.cell? ⟨w.heap.size + 1, 1, none⟩ = some (.bool false) := (hc1 _ _ (by first | omega | (simp; done) | (simp; omega))).trans (by first | assumption | simp [go_sem] | simp [go_sem, *])
  go_wp2_with fail
  refine bodyPost_ret (v := .tuple #[.agg #[.int .i64 (m), .bool false], .bool true]) (by simp [results, Tryd.results44, go_sem, g1x0, g1x1]) rfl ⟨rfl, ?_⟩
  first
    | exact bt (baa (ba _ _) _) hb1
    | exact bs (bs (bt (baa (ba _ _) _) hb1) (Nat.le_refl _) _) (Nat.le_refl _) _

theorem code_Of_llow (m : Int) (w : World) (h : m < 1) : Calls Tryd.prog 44 #[.bool true, .int .i64 m] w fun e w' => e = .returned (.tuple #[.agg #[.int .i64 0, .bool false], .bool false]) ∧ Below w.heap.size w w' := by
  have HR := Lib.hid (show Cal.right (m) false = false by rw [Cal.right, decide_eq_false_iff_not]; omega)
  go_enter Tryd.func44, Tryd.ntmps44
  go_wp2_with fail
  refine (code_Right_no (m) false _ HR.out).mono ?_
  rintro e w1 ⟨rfl, hb1⟩
  obtain ⟨hc1, hf1⟩ := bcell hb1
  have hz1 := hb1.size
  try simp at hz1
  have g1x0 : w1.cell? ⟨w.heap.size, 0, none⟩ = some (.int .i64 0) := (hc1 _ _ (by first | omega | (simp; done) | (simp; omega))).trans (by first | assumption | simp [go_sem] | simp [go_sem, *])
  have g1x1 : w1.cell? ⟨w.heap.size, 1, none⟩ = some (.bool false) := (hc1 _ _ (by first | omega | (simp; done) | (simp; omega))).trans (by first | assumption | simp [go_sem] | simp [go_sem, *])
  have g1x2 : w1.cell? ⟨w.heap.size + 1, 0, none⟩ = some (.int .i64 (m)) := (hc1 _ _ (by first | omega | (simp; done) | (simp; omega))).trans (by first | assumption | simp [go_sem] | simp [go_sem, *])
  have g1x3 : w1.cell? ⟨w.heap.size + 1, 1, none⟩ = some (.bool false) := (hc1 _ _ (by first | omega | (simp; done) | (simp; omega))).trans (by first | assumption | simp [go_sem] | simp [go_sem, *])
  go_wp2_with fail
  refine bodyPost_ret (v := .tuple #[.agg #[.int .i64 0, .bool false], .bool false]) (by simp [results, Tryd.results44, go_sem, g1x0, g1x1]) rfl ⟨rfl, ?_⟩
  first
    | exact bt (baa (ba _ _) _) hb1
    | exact bs (bs (bt (baa (ba _ _) _) hb1) (Nat.le_refl _) _) (Nat.le_refl _) _

theorem code_Of_lin (m : Int) (w : World) (h : 1 ≤ m) (h2 : m ≤ 5) : Calls Tryd.prog 44 #[.bool true, .int .i64 m] w fun e w' => e = .returned (.tuple #[.agg #[.int .i64 (m), .bool false], .bool true]) ∧ Below w.heap.size w w' := by
  go_enter Tryd.func44, Tryd.ntmps44
  go_wp2_with fail
  refine (code_Right_ok (m) _ (by omega) (by omega)).mono ?_
  rintro e w1 ⟨rfl, hb1⟩
  obtain ⟨hc1, hf1⟩ := bcell hb1
  have hz1 := hb1.size
  try simp at hz1
  have g1x0 : w1.cell? ⟨w.heap.size, 0, none⟩ = some (.int .i64 0) := (hc1 _ _ (by first | omega | (simp; done) | (simp; omega))).trans (by first | assumption | simp [go_sem] | simp [go_sem, *])
  have g1x1 : w1.cell? ⟨w.heap.size, 1, none⟩ = some (.bool false) := (hc1 _ _ (by first | omega | (simp; done) | (simp; omega))).trans (by first | assumption | simp [go_sem] | simp [go_sem, *])
  have g1x2 : w1.cell? ⟨w.heap.size + 1, 0, none⟩ = some (.int .i64 (m)) := (hc1 _ _ (by first | omega | (simp; done) | (simp; omega))).trans (by first | assumption | simp [go_sem] | simp [go_sem, *])
  have g1x3 : w1.cell? ⟨w.heap.size + 1, 1, none⟩ = some (.bool false) := (hc1 _ _ (by first | omega | (simp; done) | (simp; omega))).trans (by first | assumption | simp [go_sem] | simp [go_sem, *])
  go_wp2_with fail
  refine bodyPost_ret (v := .tuple #[.agg #[.int .i64 (m), .bool false], .bool true]) (by simp [results, Tryd.results44, go_sem, g1x0, g1x1]) rfl ⟨rfl, ?_⟩
  first
    | exact bt (baa (ba _ _) _) hb1
    | exact bs (bs (bt (baa (ba _ _) _) hb1) (Nat.le_refl _) _) (Nat.le_refl _) _

theorem code_Of_lup (m : Int) (w : World) (h : 6 < m) (h2 : m ≤ 13) : Calls Tryd.prog 44 #[.bool true, .int .i64 m] w fun e w' => e = .returned (.tuple #[.agg #[.int .i64 (m - 1), .bool false], .bool true]) ∧ Below w.heap.size w w' := by
  have e6 : (m == 6) = false := by rw [beq_eq_false_iff_ne]; omega
  go_enter Tryd.func44, Tryd.ntmps44
  go_wp2_with fail
  refine (code_Right_ok (m - 1) _ (by omega) (by omega)).mono ?_
  rintro e w1 ⟨rfl, hb1⟩
  obtain ⟨hc1, hf1⟩ := bcell hb1
  have hz1 := hb1.size
  try simp at hz1
  have g1x0 : w1.cell? ⟨w.heap.size, 0, none⟩ = some (.int .i64 0) := (hc1 _ _ (by first | omega | (simp; done) | (simp; omega))).trans (by first | assumption | simp [go_sem] | simp [go_sem, *])
  have g1x1 : w1.cell? ⟨w.heap.size, 1, none⟩ = some (.bool false) := (hc1 _ _ (by first | omega | (simp; done) | (simp; omega))).trans (by first | assumption | simp [go_sem] | simp [go_sem, *])
  have g1x2 : w1.cell? ⟨w.heap.size + 1, 0, none⟩ = some (.int .i64 (m - 1)) := (hc1 _ _ (by first | omega | (simp; done) | (simp; omega))).trans (by first | assumption | simp [go_sem] | simp [go_sem, *])
  have g1x3 : w1.cell? ⟨w.heap.size + 1, 1, none⟩ = some (.bool false) := (hc1 _ _ (by first | omega | (simp; done) | (simp; omega))).trans (by first | assumption | simp [go_sem] | simp [go_sem, *])
  go_wp2_with fail
  refine bodyPost_ret (v := .tuple #[.agg #[.int .i64 (m - 1), .bool false], .bool true]) (by simp [results, Tryd.results44, go_sem, g1x0, g1x1]) rfl ⟨rfl, ?_⟩
  first
    | exact bt (baa (ba _ _) _) hb1
    | exact bs (bs (bt (baa (ba _ _) _) hb1) (Nat.le_refl _) _) (Nat.le_refl _) _

theorem code_Of_lhigh (m : Int) (w : World) (h : 13 < m) (h2 : m ≤ 9223372036854775807) : Calls Tryd.prog 44 #[.bool true, .int .i64 m] w fun e w' => e = .returned (.tuple #[.agg #[.int .i64 0, .bool false], .bool false]) ∧ Below w.heap.size w w' := by
  have e6 : (m == 6) = false := by rw [beq_eq_false_iff_ne]; omega
  have HR := Lib.hid (show Cal.right (m - 1) false = false by rw [Cal.right, decide_eq_false_iff_not]; omega)
  go_enter Tryd.func44, Tryd.ntmps44
  go_wp2_with fail
  refine (code_Right_no (m - 1) false _ HR.out).mono ?_
  rintro e w1 ⟨rfl, hb1⟩
  obtain ⟨hc1, hf1⟩ := bcell hb1
  have hz1 := hb1.size
  try simp at hz1
  have g1x0 : w1.cell? ⟨w.heap.size, 0, none⟩ = some (.int .i64 0) := (hc1 _ _ (by first | omega | (simp; done) | (simp; omega))).trans (by first | assumption | simp [go_sem] | simp [go_sem, *])
  have g1x1 : w1.cell? ⟨w.heap.size, 1, none⟩ = some (.bool false) := (hc1 _ _ (by first | omega | (simp; done) | (simp; omega))).trans (by first | assumption | simp [go_sem] | simp [go_sem, *])
  have g1x2 : w1.cell? ⟨w.heap.size + 1, 0, none⟩ = some (.int .i64 (m - 1)) := (hc1 _ _ (by first | omega | (simp; done) | (simp; omega))).trans (by first | assumption | simp [go_sem] | simp [go_sem, *])
  have g1x3 : w1.cell? ⟨w.heap.size + 1, 1, none⟩ = some (.bool false) := (hc1 _ _ (by first | omega | (simp; done) | (simp; omega))).trans (by first | assumption | simp [go_sem] | simp [go_sem, *])
  go_wp2_with fail
  refine bodyPost_ret (v := .tuple #[.agg #[.int .i64 0, .bool false], .bool false]) (by simp [results, Tryd.results44, go_sem, g1x0, g1x1]) rfl ⟨rfl, ?_⟩
  first
    | exact bt (baa (ba _ _) _) hb1
    | exact bs (bs (bt (baa (ba _ _) _) hb1) (Nat.le_refl _) _) (Nat.le_refl _) _

theorem code_Of_leap (w : World) : Calls Tryd.prog 44 #[.bool true, .int .i64 6] w fun e w' => e = .returned (.tuple #[.agg #[.int .i64 5, .bool true], .bool true]) ∧ Below w.heap.size w w' := by
  go_enter Tryd.func44, Tryd.ntmps44
  go_wp2_with fail
  refine (code_Right_leap _).mono ?_
  rintro e w1 ⟨rfl, hb1⟩
  obtain ⟨hc1, hf1⟩ := bcell hb1
  have hz1 := hb1.size
  try simp at hz1
  have g1x0 : w1.cell? ⟨w.heap.size, 0, none⟩ = some (.int .i64 0) := (hc1 _ _ (by first | omega | (simp; done) | (simp; omega))).trans (by first | assumption | simp [go_sem] | simp [go_sem, *])
  have g1x1 : w1.cell? ⟨w.heap.size, 1, none⟩ = some (.bool false) := (hc1 _ _ (by first | omega | (simp; done) | (simp; omega))).trans (by first | assumption | simp [go_sem] | simp [go_sem, *])
  have g1x2 : w1.cell? ⟨w.heap.size + 1, 0, none⟩ = some (.int .i64 5) := (hc1 _ _ (by first | omega | (simp; done) | (simp; omega))).trans (by first | assumption | simp [go_sem] | simp [go_sem, *])
  have g1x3 : w1.cell? ⟨w.heap.size + 1, 1, none⟩ = some (.bool true) := (hc1 _ _ (by first | omega | (simp; done) | (simp; omega))).trans (by first | assumption | simp [go_sem] | simp [go_sem, *])
  go_wp2_with fail
  refine bodyPost_ret (v := .tuple #[.agg #[.int .i64 5, .bool true], .bool true]) (by simp [results, Tryd.results44, go_sem, g1x0, g1x1]) rfl ⟨rfl, ?_⟩
  first
    | exact bt (baa (ba _ _) _) hb1
    | exact bs (bs (bt (baa (ba _ _) _) hb1) (Nat.le_refl _) _) (Nat.le_refl _) _
end Go.Proofs.YtgcpflbpiifdbaaDoor
