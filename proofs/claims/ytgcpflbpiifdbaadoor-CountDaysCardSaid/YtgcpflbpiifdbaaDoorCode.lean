/- Layer 9: codes: contracts. -/
import Derived.Test.YtgcpflbpiifdbaaDoorLA
import Derived.LoopTactic
namespace Go.Proofs.YtgcpflbpiifdbaaDoor
open Go.ChangeShapes Go.WideShapes Go.ChangeAt Go.RowKit
set_option linter.unusedVariables false
set_option maxRecDepth 100000
def Cal.right (n : Int) (l : Bool) : Bool := decide (1 ≤ n ∧ n ≤ 12 ∧ (l = false ∨ n = 5))

theorem code_Right_ok (n : Int) (w : World) (h1 : 1 ≤ n) (h2 : n ≤ 12) : Calls Tryd.prog 57 #[.agg #[.int .i64 n, .bool false]] w fun e w' => e = .returned (.bool true) ∧ Below w.heap.size w w' := by
  go_enter Tryd.func57, Tryd.ntmps57
  go_wp2_with fail
  go_ret
  exact ⟨rfl, ba _ _⟩
theorem code_Right_leap (w : World) : Calls Tryd.prog 57 #[.agg #[.int .i64 5, .bool true]] w fun e w' => e = .returned (.bool true) ∧ Below w.heap.size w w' := by
  go_enter Tryd.func57, Tryd.ntmps57
  go_wp2_with fail
  go_ret
  exact ⟨rfl, ba _ _⟩
theorem code_Right_no (n : Int) (l : Bool) (w : World) (h : Cal.right n l = false) : Calls Tryd.prog 57 #[.agg #[.int .i64 n, .bool l]] w fun e w' => e = .returned (.bool false) ∧ Below w.heap.size w w' := by
  rw [Cal.right, decide_eq_false_iff_not] at h
  rcases (show n < 1 ∨ (1 ≤ n ∧ 12 < n) ∨ (1 ≤ n ∧ n ≤ 12 ∧ ¬ n = 5 ∧ l = true) by cases l <;> simp at h ⊢ <;> omega) with c | ⟨c1, c2⟩ | ⟨c1, c2, c3, rfl⟩
  · skip
    go_enter Tryd.func57, Tryd.ntmps57
    go_wp2_with fail
    go_ret
    exact ⟨rfl, ba _ _⟩
  · skip
    go_enter Tryd.func57, Tryd.ntmps57
    go_wp2_with fail
    go_ret
    exact ⟨rfl, ba _ _⟩
  · have c4 : (n == 5) = false := by rw [beq_eq_false_iff_ne]; exact c3
    go_enter Tryd.func57, Tryd.ntmps57
    go_wp2_with fail
    go_ret
    exact ⟨rfl, ba _ _⟩
end Go.Proofs.YtgcpflbpiifdbaaDoor
