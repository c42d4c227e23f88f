/- Layer 9: codes: one contract a function, for every input. -/
import Derived.Test.YtncckpfenjokmaaDoorCode4
namespace Go.Proofs.YtncckpfenjokmaaDoor
open Go.ChangeShapes Go.WideShapes Go.ChangeAt Go.RowKit
set_option linter.unusedVariables false
set_option maxRecDepth 100000
def Cal.most (lp : Bool) : Int := if lp then 13 else 12
def Cal.lessV (n : Int) (l : Bool) (k : Int) (h : Bool) : Bool := decide (n < k) || (n == k && (!l && h))
def Cal.ofOk (lp : Bool) (m : Int) : Bool := decide (1 ≤ m) && decide (m ≤ Cal.most lp)
def Cal.ofN (lp : Bool) (m : Int) : Int := if Cal.ofOk lp m then (if lp && decide (6 ≤ m) then m - 1 else m) else 0
def Cal.ofL (lp : Bool) (m : Int) : Bool := Cal.ofOk lp m && (lp && m == 6)
def Cal.plOk (lp : Bool) (n : Int) (l : Bool) : Bool := Cal.right n l && !(l && !lp)
def Cal.plV (lp : Bool) (n : Int) (l : Bool) : Int := if Cal.plOk lp n l then (if lp && (l || decide (5 < n)) then n + 1 else n) else 0
theorem right_cases (n : Int) (l : Bool) (h : Cal.right n l = true) : (1 ≤ n ∧ n ≤ 12 ∧ l = false) ∨ (n = 5 ∧ l = true) := by
  rw [Cal.right, decide_eq_true_iff] at h
  cases l
  · exact .inl ⟨h.1, h.2.1, rfl⟩
  · rcases h.2.2 with h3 | h3
    · cases h3
    · exact .inr ⟨h3, rfl⟩
theorem right_ok (n : Int) (h1 : 1 ≤ n) (h2 : n ≤ 12) : Cal.right n false = true := by rw [Cal.right, decide_eq_true_iff]; exact ⟨h1, h2, .inl rfl⟩
theorem right_5 : Cal.right 5 true = true := by decide
theorem code_Right_any (n : Int) (l : Bool) (w : World) : Calls Tryd.prog 79 #[.agg #[.int .i64 n, .bool l]] w fun e w' => e = .returned (.bool (Cal.right n l)) ∧ Below w.heap.size w w' := by
  cases h : Cal.right n l
  · exact code_Right_no n l w h
  · rcases right_cases n l h with ⟨h1, h2, rfl⟩ | ⟨rfl, rfl⟩
    · exact code_Right_ok n w h1 h2
    · exact code_Right_leap w
theorem code_Of_any (lp : Bool) (m : Int) (w : World) (hm : m ≤ 9223372036854775807) : Calls Tryd.prog 87 #[.bool lp, .int .i64 m] w fun e w' => e = .returned (.tuple #[.agg #[.int .i64 (Cal.ofN lp m), .bool (Cal.ofL lp m)], .bool (Cal.ofOk lp m)]) ∧ Below w.heap.size w w' := by
  cases lp
  · rcases (show m < 1 ∨ 12 < m ∨ (1 ≤ m ∧ m ≤ 12) by omega) with c | c | ⟨c1, c2⟩
    · have e : Cal.ofOk false m = false := by simp [Cal.ofOk, Cal.most]; omega
      simp only [Cal.ofN, Cal.ofL, e, Bool.false_and, Bool.false_eq_true, if_false]
      exact code_Of_low m w c
    · have e : Cal.ofOk false m = false := by simp [Cal.ofOk, Cal.most]; omega
      simp only [Cal.ofN, Cal.ofL, e, Bool.false_and, Bool.false_eq_true, if_false]
      exact code_Of_high m w c
    · have e : Cal.ofOk false m = true := by simp [Cal.ofOk, Cal.most, c1, c2]
      simp only [Cal.ofN, Cal.ofL, e, Bool.false_and, Bool.and_false, Bool.false_eq_true, if_false, if_true]
      exact code_Of_in m w c1 c2
  · rcases (show m < 1 ∨ 13 < m ∨ (1 ≤ m ∧ m ≤ 5) ∨ m = 6 ∨ (6 < m ∧ m ≤ 13) by omega) with c | c | ⟨c1, c2⟩ | rfl | ⟨c1, c2⟩
    · have e : Cal.ofOk true m = false := by simp [Cal.ofOk, Cal.most]; omega
      simp only [Cal.ofN, Cal.ofL, e, Bool.false_and, Bool.false_eq_true, if_false]
      exact code_Of_llow m w c
    · have e : Cal.ofOk true m = false := by simp [Cal.ofOk, Cal.most]; omega
      simp only [Cal.ofN, Cal.ofL, e, Bool.false_and, Bool.false_eq_true, if_false]
      exact code_Of_lhigh m w c hm
    · have e : Cal.ofOk true m = true := by simp [Cal.ofOk, Cal.most, c1]; omega
      have e2 : decide (6 ≤ m) = false := by simp; omega
      have e3 : (m == 6) = false := by rw [beq_eq_false_iff_ne]; omega
      simp only [Cal.ofN, Cal.ofL, e, e2, e3, Bool.and_false, Bool.false_eq_true, if_false, if_true]
      exact code_Of_lin m w c1 c2
    · exact code_Of_leap w
    · have e : Cal.ofOk true m = true := by simp [Cal.ofOk, Cal.most, c2]; omega
      have e2 : decide (6 ≤ m) = true := by simp; omega
      have e3 : (m == 6) = false := by rw [beq_eq_false_iff_ne]; omega
      simp only [Cal.ofN, Cal.ofL, e, e2, e3, Bool.and_false, Bool.and_true, if_true]
      exact code_Of_lup m w c1 c2
theorem plOk_no (lp : Bool) (n : Int) (l : Bool) (h : Cal.right n l = false) : Cal.plOk lp n l = false ∧ Cal.plV lp n l = 0 := by simp [Cal.plV, Cal.plOk, h]
theorem code_Place_any (lp : Bool) (n : Int) (l : Bool) (w : World) : Calls Tryd.prog 80 #[.bool lp, .agg #[.int .i64 n, .bool l]] w fun e w' => e = .returned (.tuple #[.int .i64 (Cal.plV lp n l), .bool (Cal.plOk lp n l)]) ∧ Below w.heap.size w w' := by
  cases h : Cal.right n l
  · rw [(plOk_no lp n l h).1, (plOk_no lp n l h).2]
    cases lp
    · exact code_Place_no_false n l w h
    · exact code_Place_no_true n l w h
  · rcases right_cases n l h with ⟨h1, h2, rfl⟩ | ⟨rfl, rfl⟩
    · have e : ∀ lp, Cal.plOk lp n false = true := fun lp => by simp [Cal.plOk, h]
      cases lp
      · simp only [Cal.plV, e, Bool.false_and, Bool.false_eq_true, if_false, if_true]
        exact code_Place_plain n w h1 h2
      · by_cases c : 5 < n
        · simp only [Cal.plV, e, Bool.false_or, c, decide_true, Bool.and_true, if_true]
          exact code_Place_up n w c h2
        · simp only [Cal.plV, e, Bool.false_or, c, decide_false, Bool.and_false, Bool.false_eq_true, if_false, if_true]
          exact code_Place_low n w h1 (by omega)
    · cases lp
      · exact code_Place_lone w
      · exact code_Place_leap w
end Go.Proofs.YtncckpfenjokmaaDoor
