/- Merged: Code, Code2, Code3, Code4. -/
import Derived.Test.YtoofgalkchnpnaaGreatDoorZLA
import Derived.LoopTactic
import Derived.Deep.RegionHeld
section
/- Layer 9: codes: contracts. -/
namespace Go.Proofs.YtoofgalkchnpnaaGreatDoor
open Go.ChangeShapes Go.WideShapes Go.ChangeAt Go.RowKit
set_option linter.unusedVariables false
set_option maxRecDepth 100000
def Cal.right (n : Int) (l : Bool) : Bool := decide (1 ≤ n ∧ n ≤ 12 ∧ (l = false ∨ n = 5))

theorem code_Right_ok (n : Int) (w : World) (h1 : 1 ≤ n) (h2 : n ≤ 12) : Calls Tryo.prog 119 #[.agg #[.int .i64 n, .bool false]] w fun e w' => e = .returned (.bool true) ∧ Below w.heap.size w w' := by
  go_enter Tryo.func119, Tryz.ntmps119
  go_wp2_with fail
  go_ret
  exact ⟨rfl, ba _ _⟩
theorem code_Right_leap (w : World) : Calls Tryo.prog 119 #[.agg #[.int .i64 5, .bool true]] w fun e w' => e = .returned (.bool true) ∧ Below w.heap.size w w' := by
  go_enter Tryo.func119, Tryz.ntmps119
  go_wp2_with fail
  go_ret
  exact ⟨rfl, ba _ _⟩
theorem code_Right_no (n : Int) (l : Bool) (w : World) (h : Cal.right n l = false) : Calls Tryo.prog 119 #[.agg #[.int .i64 n, .bool l]] w fun e w' => e = .returned (.bool false) ∧ Below w.heap.size w w' := by
  rw [Cal.right, decide_eq_false_iff_not] at h
  rcases (show n < 1 ∨ (1 ≤ n ∧ 12 < n) ∨ (1 ≤ n ∧ n ≤ 12 ∧ ¬ n = 5 ∧ l = true) by cases l <;> simp at h ⊢ <;> omega) with c | ⟨c1, c2⟩ | ⟨c1, c2, c3, rfl⟩
  · skip
    go_enter Tryo.func119, Tryz.ntmps119
    go_wp2_with fail
    go_ret
    exact ⟨rfl, ba _ _⟩
  · skip
    go_enter Tryo.func119, Tryz.ntmps119
    go_wp2_with fail
    go_ret
    exact ⟨rfl, ba _ _⟩
  · have c4 : (n == 5) = false := by rw [beq_eq_false_iff_ne]; exact c3
    go_enter Tryo.func119, Tryz.ntmps119
    go_wp2_with fail
    go_ret
    exact ⟨rfl, ba _ _⟩
end Go.Proofs.YtoofgalkchnpnaaGreatDoor
end
section
/- Layer 9: texts of codes. -/
namespace Go.Proofs.YtoofgalkchnpnaaGreatDoor
open Go.ChangeShapes Go.WideShapes Go.ChangeAt Go.RowKit
set_option linter.unusedVariables false
set_option maxRecDepth 100000

end Go.Proofs.YtoofgalkchnpnaaGreatDoor
end
section
/- Layer 9: months' codes and places. -/
namespace Go.Proofs.YtoofgalkchnpnaaGreatDoor
open Go.ChangeShapes Go.WideShapes Go.ChangeAt Go.RowKit
set_option linter.unusedVariables false
set_option maxRecDepth 100000

theorem code_Of_low (m : Int) (w : World) (h : m < 1) : Calls Tryo.prog 70 #[.bool false, .int .i64 m] w fun e w' => e = .returned (.tuple #[.agg #[.int .i64 0, .bool false], .bool false]) ∧ Below w.heap.size w w' := by
  have HR := Lib.hid (show Cal.right (m) false = false by rw [Cal.right, decide_eq_false_iff_not]; omega)
  go_enter Tryo.func70, Tryz.ntmps70
  go_wp2_with fail
  refine (code_Right_no (m) false _ HR.out).mono ?_
  rintro e w1 ⟨rfl, hb1⟩
  obtain ⟨hc1, hf1⟩ := bcell hb1
  have hz1 := hb1.size
  try simp at hz1
  have g1x0 : w1.cell? ⟨w.heap.size, 0, none⟩ = some (.int .i64 0) := (hc1 _ _ (by first | omega | (simp; done) | (simp; omega))).trans (by first | assumption | simp [go_sem] | simp [go_sem, *])
  have g1x1 : w1.cell? ⟨w.heap.size, 1, none⟩ = some (.bool false) := (hc1 _ _ (by first | omega | (simp; done) | (simp; omega))).trans (by first | assumption | simp [go_sem] | simp [go_sem, *])
  have g1x2 : w1.cell? ⟨w.heap.size + 1, 0, none⟩ = some (.int .i64 (m)) := (hc1 _ _ (by first | omega | (simp; done) | (simp; omega))).trans (by first | assumption | simp [go_sem] | simp [go_sem, *])
  have g1x3 : w1.cell? ⟨w.heap.size + 1, 1, none⟩ = some (.bool false) := (hc1 _ _ (by first | omega | (simp; done) | (simp; omega))).trans (by first | assumption | simp [go_sem] | simp [go_sem, *])
  go_wp2_with fail
  refine bodyPost_ret (v := .tuple #[.agg #[.int .i64 0, .bool false], .bool false]) (by simp [results, Tryz.results70, go_sem, g1x0, g1x1]) rfl ⟨rfl, ?_⟩
  first
    | exact bt (baa (ba _ _) _) hb1
    | exact bs (bs (bt (baa (ba _ _) _) hb1) (Nat.le_refl _) _) (Nat.le_refl _) _

theorem code_Of_high (m : Int) (w : World) (h : 12 < m) : Calls Tryo.prog 70 #[.bool false, .int .i64 m] w fun e w' => e = .returned (.tuple #[.agg #[.int .i64 0, .bool false], .bool false]) ∧ Below w.heap.size w w' := by
  have HR := Lib.hid (show Cal.right (m) false = false by rw [Cal.right, decide_eq_false_iff_not]; omega)
  go_enter Tryo.func70, Tryz.ntmps70
  go_wp2_with fail
  refine (code_Right_no (m) false _ HR.out).mono ?_
  rintro e w1 ⟨rfl, hb1⟩
  obtain ⟨hc1, hf1⟩ := bcell hb1
  have hz1 := hb1.size
  try simp at hz1
  have g1x0 : w1.cell? ⟨w.heap.size, 0, none⟩ = some (.int .i64 0) := (hc1 _ _ (by first | omega | (simp; done) | (simp; omega))).trans (by first | assumption | simp [go_sem] | simp [go_sem, *])
  have g1x1 : w1.cell? ⟨w.heap.size, 1, none⟩ = some (.bool false) := (hc1 _ _ (by first | omega | (simp; done) | (simp; omega))).trans (by first | assumption | simp [go_sem] | simp [go_sem, *])
  have g1x2 : w1.cell? ⟨w.heap.size + 1, 0, none⟩ = some (.int .i64 (m)) := (hc1 _ _ (by first | omega | (simp; done) | (simp; omega))).trans (by first | assumption | simp [go_sem] | simp [go_sem, *])
  have g1x3 : w1.cell? ⟨w.heap.size + 1, 1, none⟩ = some (.bool false) := (hc1 _ _ (by first | omega | (simp; done) | (simp; omega))).trans (by first | assumption | simp [go_sem] | simp [go_sem, *])
  go_wp2_with fail
  refine bodyPost_ret (v := .tuple #[.agg #[.int .i64 0, .bool false], .bool false]) (by simp [results, Tryz.results70, go_sem, g1x0, g1x1]) rfl ⟨rfl, ?_⟩
  first
    | exact bt (baa (ba _ _) _) hb1
    | exact bs (bs (bt (baa (ba _ _) _) hb1) (Nat.le_refl _) _) (Nat.le_refl _) _

theorem code_Of_in (m : Int) (w : World) (h : 1 ≤ m) (h2 : m ≤ 12) : Calls Tryo.prog 70 #[.bool false, .int .i64 m] w fun e w' => e = .returned (.tuple #[.agg #[.int .i64 (m), .bool false], .bool true]) ∧ Below w.heap.size w w' := by
  go_enter Tryo.func70, Tryz.ntmps70
  go_wp2_with fail
  refine (code_Right_ok (m) _ (by omega) (by omega)).mono ?_
  rintro e w1 ⟨rfl, hb1⟩
  obtain ⟨hc1, hf1⟩ := bcell hb1
  have hz1 := hb1.size
  try simp at hz1
  have g1x0 : w1.cell? ⟨w.heap.size, 0, none⟩ = some (.int .i64 0) := (hc1 _ _ (by first | omega | (simp; done) | (simp; omega))).trans (by first | assumption | simp [go_sem] | simp [go_sem, *])
  have g1x1 : w1.cell? ⟨w.heap.size, 1, none⟩ = some (.bool false) := (hc1 _ _ (by first | omega | (simp; done) | (simp; omega))).trans (by first | assumption | simp [go_sem] | simp [go_sem, *])
  have g1x2 : w1.cell? ⟨w.heap.size + 1, 0, none⟩ = some (.int .i64 (m)) := (hc1 _ _ (by first | omega | (simp; done) | (simp; omega))).trans (by first | assumption | simp [go_sem] | simp [go_sem, *])
  have g1x3 : w1.cell? ⟨w.heap.size + 1, 1, none⟩ = some (.bool false) := (hc1 _ _ (by first | omega | (simp; done) | (simp; omega))).trans (by first | assumption | simp [go_sem] | simp [go_sem, *])
  go_wp2_with fail
  refine bodyPost_ret (v := .tuple #[.agg #[.int .i64 (m), .bool false], .bool true]) (by simp [results, Tryz.results70, go_sem, g1x0, g1x1]) rfl ⟨rfl, ?_⟩
  first
    | exact bt (baa (ba _ _) _) hb1
    | exact bs (bs (bt (baa (ba _ _) _) hb1) (Nat.le_refl _) _) (Nat.le_refl _) _

theorem code_Of_llow (m : Int) (w : World) (h : m < 1) : Calls Tryo.prog 70 #[.bool true, .int .i64 m] w fun e w' => e = .returned (.tuple #[.agg #[.int .i64 0, .bool false], .bool false]) ∧ Below w.heap.size w w' := by
  have HR := Lib.hid (show Cal.right (m) false = false by rw [Cal.right, decide_eq_false_iff_not]; omega)
  go_enter Tryo.func70, Tryz.ntmps70
  go_wp2_with fail
  refine (code_Right_no (m) false _ HR.out).mono ?_
  rintro e w1 ⟨rfl, hb1⟩
  obtain ⟨hc1, hf1⟩ := bcell hb1
  have hz1 := hb1.size
  try simp at hz1
  have g1x0 : w1.cell? ⟨w.heap.size, 0, none⟩ = some (.int .i64 0) := (hc1 _ _ (by first | omega | (simp; done) | (simp; omega))).trans (by first | assumption | simp [go_sem] | simp [go_sem, *])
  have g1x1 : w1.cell? ⟨w.heap.size, 1, none⟩ = some (.bool false) := (hc1 _ _ (by first | omega | (simp; done) | (simp; omega))).trans (by first | assumption | simp [go_sem] | simp [go_sem, *])
  have g1x2 : w1.cell? ⟨w.heap.size + 1, 0, none⟩ = some (.int .i64 (m)) := (hc1 _ _ (by first | omega | (simp; done) | (simp; omega))).trans (by first | assumption | simp [go_sem] | simp [go_sem, *])
  have g1x3 : w1.cell? ⟨w.heap.size + 1, 1, none⟩ = some (.bool false) := (hc1 _ _ (by first | omega | (simp; done) | (simp; omega))).trans (by first | assumption | simp [go_sem] | simp [go_sem, *])
  go_wp2_with fail
  refine bodyPost_ret (v := .tuple #[.agg #[.int .i64 0, .bool false], .bool false]) (by simp [results, Tryz.results70, go_sem, g1x0, g1x1]) rfl ⟨rfl, ?_⟩
  first
    | exact bt (baa (ba _ _) _) hb1
    | exact bs (bs (bt (baa (ba _ _) _) hb1) (Nat.le_refl _) _) (Nat.le_refl _) _

theorem code_Of_lin (m : Int) (w : World) (h : 1 ≤ m) (h2 : m ≤ 5) : Calls Tryo.prog 70 #[.bool true, .int .i64 m] w fun e w' => e = .returned (.tuple #[.agg #[.int .i64 (m), .bool false], .bool true]) ∧ Below w.heap.size w w' := by
  go_enter Tryo.func70, Tryz.ntmps70
  go_wp2_with fail
  refine (code_Right_ok (m) _ (by omega) (by omega)).mono ?_
  rintro e w1 ⟨rfl, hb1⟩
  obtain ⟨hc1, hf1⟩ := bcell hb1
  have hz1 := hb1.size
  try simp at hz1
  have g1x0 : w1.cell? ⟨w.heap.size, 0, none⟩ = some (.int .i64 0) := (hc1 _ _ (by first | omega | (simp; done) | (simp; omega))).trans (by first | assumption | simp [go_sem] | simp [go_sem, *])
  have g1x1 : w1.cell? ⟨w.heap.size, 1, none⟩ = some (.bool false) := (hc1 _ _ (by first | omega | (simp; done) | (simp; omega))).trans (by first | assumption | simp [go_sem] | simp [go_sem, *])
  have g1x2 : w1.cell? ⟨w.heap.size + 1, 0, none⟩ = some (.int .i64 (m)) := (hc1 _ _ (by first | omega | (simp; done) | (simp; omega))).trans (by first | assumption | simp [go_sem] | simp [go_sem, *])
  have g1x3 : w1.cell? ⟨w.heap.size + 1, 1, none⟩ = some (.bool false) := (hc1 _ _ (by first | omega | (simp; done) | (simp; omega))).trans (by first | assumption | simp [go_sem] | simp [go_sem, *])
  go_wp2_with fail
  refine bodyPost_ret (v := .tuple #[.agg #[.int .i64 (m), .bool false], .bool true]) (by simp [results, Tryz.results70, go_sem, g1x0, g1x1]) rfl ⟨rfl, ?_⟩
  first
    | exact bt (baa (ba _ _) _) hb1
    | exact bs (bs (bt (baa (ba _ _) _) hb1) (Nat.le_refl _) _) (Nat.le_refl _) _

theorem code_Of_lup (m : Int) (w : World) (h : 6 < m) (h2 : m ≤ 13) : Calls Tryo.prog 70 #[.bool true, .int .i64 m] w fun e w' => e = .returned (.tuple #[.agg #[.int .i64 (m - 1), .bool false], .bool true]) ∧ Below w.heap.size w w' := by
  have e6 : (m == 6) = false := by rw [beq_eq_false_iff_ne]; omega
  go_enter Tryo.func70, Tryz.ntmps70
  go_wp2_with fail
  refine (code_Right_ok (m - 1) _ (by omega) (by omega)).mono ?_
  rintro e w1 ⟨rfl, hb1⟩
  obtain ⟨hc1, hf1⟩ := bcell hb1
  have hz1 := hb1.size
  try simp at hz1
  have g1x0 : w1.cell? ⟨w.heap.size, 0, none⟩ = some (.int .i64 0) := (hc1 _ _ (by first | omega | (simp; done) | (simp; omega))).trans (by first | assumption | simp [go_sem] | simp [go_sem, *])
  have g1x1 : w1.cell? ⟨w.heap.size, 1, none⟩ = some (.bool false) := (hc1 _ _ (by first | omega | (simp; done) | (simp; omega))).trans (by first | assumption | simp [go_sem] | simp [go_sem, *])
  have g1x2 : w1.cell? ⟨w.heap.size + 1, 0, none⟩ = some (.int .i64 (m - 1)) := (hc1 _ _ (by first | omega | (simp; done) | (simp; omega))).trans (by first | assumption | simp [go_sem] | simp [go_sem, *])
  have g1x3 : w1.cell? ⟨w.heap.size + 1, 1, none⟩ = some (.bool false) := (hc1 _ _ (by first | omega | (simp; done) | (simp; omega))).trans (by first | assumption | simp [go_sem] | simp [go_sem, *])
  go_wp2_with fail
  refine bodyPost_ret (v := .tuple #[.agg #[.int .i64 (m - 1), .bool false], .bool true]) (by simp [results, Tryz.results70, go_sem, g1x0, g1x1]) rfl ⟨rfl, ?_⟩
  first
    | exact bt (baa (ba _ _) _) hb1
    | exact bs (bs (bt (baa (ba _ _) _) hb1) (Nat.le_refl _) _) (Nat.le_refl _) _

theorem code_Of_lhigh (m : Int) (w : World) (h : 13 < m) (h2 : m ≤ 9223372036854775807) : Calls Tryo.prog 70 #[.bool true, .int .i64 m] w fun e w' => e = .returned (.tuple #[.agg #[.int .i64 0, .bool false], .bool false]) ∧ Below w.heap.size w w' := by
  have e6 : (m == 6) = false := by rw [beq_eq_false_iff_ne]; omega
  have HR := Lib.hid (show Cal.right (m - 1) false = false by rw [Cal.right, decide_eq_false_iff_not]; omega)
  go_enter Tryo.func70, Tryz.ntmps70
  go_wp2_with fail
  refine (code_Right_no (m - 1) false _ HR.out).mono ?_
  rintro e w1 ⟨rfl, hb1⟩
  obtain ⟨hc1, hf1⟩ := bcell hb1
  have hz1 := hb1.size
  try simp at hz1
  have g1x0 : w1.cell? ⟨w.heap.size, 0, none⟩ = some (.int .i64 0) := (hc1 _ _ (by first | omega | (simp; done) | (simp; omega))).trans (by first | assumption | simp [go_sem] | simp [go_sem, *])
  have g1x1 : w1.cell? ⟨w.heap.size, 1, none⟩ = some (.bool false) := (hc1 _ _ (by first | omega | (simp; done) | (simp; omega))).trans (by first | assumption | simp [go_sem] | simp [go_sem, *])
  have g1x2 : w1.cell? ⟨w.heap.size + 1, 0, none⟩ = some (.int .i64 (m - 1)) := (hc1 _ _ (by first | omega | (simp; done) | (simp; omega))).trans (by first | assumption | simp [go_sem] | simp [go_sem, *])
  have g1x3 : w1.cell? ⟨w.heap.size + 1, 1, none⟩ = some (.bool false) := (hc1 _ _ (by first | omega | (simp; done) | (simp; omega))).trans (by first | assumption | simp [go_sem] | simp [go_sem, *])
  go_wp2_with fail
  refine bodyPost_ret (v := .tuple #[.agg #[.int .i64 0, .bool false], .bool false]) (by simp [results, Tryz.results70, go_sem, g1x0, g1x1]) rfl ⟨rfl, ?_⟩
  first
    | exact bt (baa (ba _ _) _) hb1
    | exact bs (bs (bt (baa (ba _ _) _) hb1) (Nat.le_refl _) _) (Nat.le_refl _) _

theorem code_Of_leap (w : World) : Calls Tryo.prog 70 #[.bool true, .int .i64 6] w fun e w' => e = .returned (.tuple #[.agg #[.int .i64 5, .bool true], .bool true]) ∧ Below w.heap.size w w' := by
  go_enter Tryo.func70, Tryz.ntmps70
  go_wp2_with fail
  refine (code_Right_leap _).mono ?_
  rintro e w1 ⟨rfl, hb1⟩
  obtain ⟨hc1, hf1⟩ := bcell hb1
  have hz1 := hb1.size
  try simp at hz1
  have g1x0 : w1.cell? ⟨w.heap.size, 0, none⟩ = some (.int .i64 0) := (hc1 _ _ (by first | omega | (simp; done) | (simp; omega))).trans (by first | assumption | simp [go_sem] | simp [go_sem, *])
  have g1x1 : w1.cell? ⟨w.heap.size, 1, none⟩ = some (.bool false) := (hc1 _ _ (by first | omega | (simp; done) | (simp; omega))).trans (by first | assumption | simp [go_sem] | simp [go_sem, *])
  have g1x2 : w1.cell? ⟨w.heap.size + 1, 0, none⟩ = some (.int .i64 5) := (hc1 _ _ (by first | omega | (simp; done) | (simp; omega))).trans (by first | assumption | simp [go_sem] | simp [go_sem, *])
  have g1x3 : w1.cell? ⟨w.heap.size + 1, 1, none⟩ = some (.bool true) := (hc1 _ _ (by first | omega | (simp; done) | (simp; omega))).trans (by first | assumption | simp [go_sem] | simp [go_sem, *])
  go_wp2_with fail
  refine bodyPost_ret (v := .tuple #[.agg #[.int .i64 5, .bool true], .bool true]) (by simp [results, Tryz.results70, go_sem, g1x0, g1x1]) rfl ⟨rfl, ?_⟩
  first
    | exact bt (baa (ba _ _) _) hb1
    | exact bs (bs (bt (baa (ba _ _) _) hb1) (Nat.le_refl _) _) (Nat.le_refl _) _
end Go.Proofs.YtoofgalkchnpnaaGreatDoor
end
section
/- Layer 9: places of codes. -/
namespace Go.Proofs.YtoofgalkchnpnaaGreatDoor
open Go.ChangeShapes Go.WideShapes Go.ChangeAt Go.RowKit
set_option linter.unusedVariables false
set_option maxRecDepth 100000

theorem code_Place_no_false (n : Int) (l : Bool) (w : World) (h : Cal.right n l = false) : Calls Tryo.prog 157 #[.bool false, .agg #[.int .i64 n, .bool l]] w fun e w' => e = .returned (.tuple #[.int .i64 0, .bool false]) ∧ Below w.heap.size w w' := by
  go_enter Tryo.func157, Tryz.ntmps157
  go_wp2_with fail
  refine (code_Right_no n l _ h).mono ?_
  rintro e w1 ⟨rfl, hb1⟩
  obtain ⟨hc1, hf1⟩ := bcell hb1
  have hz1 := hb1.size
  try simp at hz1
  have g1x0 : w1.cell? ⟨w.heap.size, 0, none⟩ = some (.int .i64 n) := (hc1 _ _ (by first | omega | (simp; done) | (simp; omega))).trans (by first | assumption | simp [go_sem] | simp [go_sem, *])
  have g1x1 : w1.cell? ⟨w.heap.size, 1, none⟩ = some (.bool l) := (hc1 _ _ (by first | omega | (simp; done) | (simp; omega))).trans (by first | assumption | simp [go_sem] | simp [go_sem, *])
  go_wp2_with fail
  go_ret2
  exact ⟨rfl, bt (ba _ _) hb1⟩

theorem code_Place_no_true (n : Int) (l : Bool) (w : World) (h : Cal.right n l = false) : Calls Tryo.prog 157 #[.bool true, .agg #[.int .i64 n, .bool l]] w fun e w' => e = .returned (.tuple #[.int .i64 0, .bool false]) ∧ Below w.heap.size w w' := by
  go_enter Tryo.func157, Tryz.ntmps157
  go_wp2_with fail
  refine (code_Right_no n l _ h).mono ?_
  rintro e w1 ⟨rfl, hb1⟩
  obtain ⟨hc1, hf1⟩ := bcell hb1
  have hz1 := hb1.size
  try simp at hz1
  have g1x0 : w1.cell? ⟨w.heap.size, 0, none⟩ = some (.int .i64 n) := (hc1 _ _ (by first | omega | (simp; done) | (simp; omega))).trans (by first | assumption | simp [go_sem] | simp [go_sem, *])
  have g1x1 : w1.cell? ⟨w.heap.size, 1, none⟩ = some (.bool l) := (hc1 _ _ (by first | omega | (simp; done) | (simp; omega))).trans (by first | assumption | simp [go_sem] | simp [go_sem, *])
  go_wp2_with fail
  go_ret2
  exact ⟨rfl, bt (ba _ _) hb1⟩

theorem code_Place_plain (n : Int) (w : World) (h1 : 1 ≤ n) (h2 : n ≤ 12) : Calls Tryo.prog 157 #[.bool false, .agg #[.int .i64 n, .bool false]] w fun e w' => e = .returned (.tuple #[.int .i64 n, .bool true]) ∧ Below w.heap.size w w' := by
  go_enter Tryo.func157, Tryz.ntmps157
  go_wp2_with fail
  refine (code_Right_ok n _ h1 h2).mono ?_
  rintro e w1 ⟨rfl, hb1⟩
  obtain ⟨hc1, hf1⟩ := bcell hb1
  have hz1 := hb1.size
  try simp at hz1
  have g1x0 : w1.cell? ⟨w.heap.size, 0, none⟩ = some (.int .i64 n) := (hc1 _ _ (by first | omega | (simp; done) | (simp; omega))).trans (by first | assumption | simp [go_sem] | simp [go_sem, *])
  have g1x1 : w1.cell? ⟨w.heap.size, 1, none⟩ = some (.bool false) := (hc1 _ _ (by first | omega | (simp; done) | (simp; omega))).trans (by first | assumption | simp [go_sem] | simp [go_sem, *])
  go_wp2_with fail
  go_ret2
  exact ⟨rfl, bt (ba _ _) hb1⟩

theorem code_Place_low (n : Int) (w : World) (h1 : 1 ≤ n) (h2 : n ≤ 5) : Calls Tryo.prog 157 #[.bool true, .agg #[.int .i64 n, .bool false]] w fun e w' => e = .returned (.tuple #[.int .i64 n, .bool true]) ∧ Below w.heap.size w w' := by
  go_enter Tryo.func157, Tryz.ntmps157
  go_wp2_with fail
  refine (code_Right_ok n _ h1 (by omega)).mono ?_
  rintro e w1 ⟨rfl, hb1⟩
  obtain ⟨hc1, hf1⟩ := bcell hb1
  have hz1 := hb1.size
  try simp at hz1
  have g1x0 : w1.cell? ⟨w.heap.size, 0, none⟩ = some (.int .i64 n) := (hc1 _ _ (by first | omega | (simp; done) | (simp; omega))).trans (by first | assumption | simp [go_sem] | simp [go_sem, *])
  have g1x1 : w1.cell? ⟨w.heap.size, 1, none⟩ = some (.bool false) := (hc1 _ _ (by first | omega | (simp; done) | (simp; omega))).trans (by first | assumption | simp [go_sem] | simp [go_sem, *])
  go_wp2_with fail
  go_ret2
  exact ⟨rfl, bt (ba _ _) hb1⟩

theorem code_Place_up (n : Int) (w : World) (h1 : 5 < n) (h2 : n ≤ 12) : Calls Tryo.prog 157 #[.bool true, .agg #[.int .i64 n, .bool false]] w fun e w' => e = .returned (.tuple #[.int .i64 (n + 1), .bool true]) ∧ Below w.heap.size w w' := by
  go_enter Tryo.func157, Tryz.ntmps157
  go_wp2_with fail
  refine (code_Right_ok n _ (by omega) h2).mono ?_
  rintro e w1 ⟨rfl, hb1⟩
  obtain ⟨hc1, hf1⟩ := bcell hb1
  have hz1 := hb1.size
  try simp at hz1
  have g1x0 : w1.cell? ⟨w.heap.size, 0, none⟩ = some (.int .i64 n) := (hc1 _ _ (by first | omega | (simp; done) | (simp; omega))).trans (by first | assumption | simp [go_sem] | simp [go_sem, *])
  have g1x1 : w1.cell? ⟨w.heap.size, 1, none⟩ = some (.bool false) := (hc1 _ _ (by first | omega | (simp; done) | (simp; omega))).trans (by first | assumption | simp [go_sem] | simp [go_sem, *])
  go_wp2_with fail
  go_ret2
  exact ⟨rfl, bt (ba _ _) hb1⟩

theorem code_Place_leap (w : World)  : Calls Tryo.prog 157 #[.bool true, .agg #[.int .i64 5, .bool true]] w fun e w' => e = .returned (.tuple #[.int .i64 6, .bool true]) ∧ Below w.heap.size w w' := by
  go_enter Tryo.func157, Tryz.ntmps157
  go_wp2_with fail
  refine (code_Right_leap _).mono ?_
  rintro e w1 ⟨rfl, hb1⟩
  obtain ⟨hc1, hf1⟩ := bcell hb1
  have hz1 := hb1.size
  try simp at hz1
  have g1x0 : w1.cell? ⟨w.heap.size, 0, none⟩ = some (.int .i64 5) := (hc1 _ _ (by first | omega | (simp; done) | (simp; omega))).trans (by first | assumption | simp [go_sem] | simp [go_sem, *])
  have g1x1 : w1.cell? ⟨w.heap.size, 1, none⟩ = some (.bool true) := (hc1 _ _ (by first | omega | (simp; done) | (simp; omega))).trans (by first | assumption | simp [go_sem] | simp [go_sem, *])
  go_wp2_with fail
  go_ret2
  exact ⟨rfl, bt (ba _ _) hb1⟩

theorem code_Place_lone (w : World)  : Calls Tryo.prog 157 #[.bool false, .agg #[.int .i64 5, .bool true]] w fun e w' => e = .returned (.tuple #[.int .i64 0, .bool false]) ∧ Below w.heap.size w w' := by
  go_enter Tryo.func157, Tryz.ntmps157
  go_wp2_with fail
  refine (code_Right_leap _).mono ?_
  rintro e w1 ⟨rfl, hb1⟩
  obtain ⟨hc1, hf1⟩ := bcell hb1
  have hz1 := hb1.size
  try simp at hz1
  have g1x0 : w1.cell? ⟨w.heap.size, 0, none⟩ = some (.int .i64 5) := (hc1 _ _ (by first | omega | (simp; done) | (simp; omega))).trans (by first | assumption | simp [go_sem] | simp [go_sem, *])
  have g1x1 : w1.cell? ⟨w.heap.size, 1, none⟩ = some (.bool true) := (hc1 _ _ (by first | omega | (simp; done) | (simp; omega))).trans (by first | assumption | simp [go_sem] | simp [go_sem, *])
  go_wp2_with fail
  go_ret2
  exact ⟨rfl, bt (ba _ _) hb1⟩

end Go.Proofs.YtoofgalkchnpnaaGreatDoor
end
