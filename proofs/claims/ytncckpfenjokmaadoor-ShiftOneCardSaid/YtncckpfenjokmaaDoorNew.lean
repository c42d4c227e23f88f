/- Layer 5: contracts of new years. -/
import Derived.Test.YtncckpfenjokmaaDoorW4
import Derived.Deep.RegionHeld3
namespace Go.Proofs.YtncckpfenjokmaaDoor
open Go.ChangeShapes Go.WideShapes Go.ChangeAt Go.RowKit
set_option linter.unusedVariables false
theorem delay_tt (d p : Int) : Cal.delay d p true true = if 19440 ≤ p ∨ (d % 7 = 1 ∧ 16789 ≤ p) then (if (d % 7 + 1) % 7 = 0 ∨ (d % 7 + 1) % 7 = 3 ∨ (d % 7 + 1) % 7 = 5 then 2 else 1) else (if d % 7 = 0 ∨ d % 7 = 3 ∨ d % 7 = 5 then 1 else 0) := by
  unfold Cal.delay Cal.delay0
  simp only [Bool.not_true, Bool.false_and, Bool.true_and, Bool.false_eq_true, if_false, Bool.and_eq_true, beq_iff_eq, decide_eq_true_eq]
  repeat' split
  all_goals omega
theorem delay_tf (d p : Int) : Cal.delay d p true false = if 19440 ≤ p then (if (d % 7 + 1) % 7 = 0 ∨ (d % 7 + 1) % 7 = 3 ∨ (d % 7 + 1) % 7 = 5 then 2 else 1) else (if d % 7 = 0 ∨ d % 7 = 3 ∨ d % 7 = 5 then 1 else 0) := by
  unfold Cal.delay Cal.delay0
  simp only [Bool.not_true, Bool.false_and, Bool.false_eq_true, if_false]
  repeat' split
  all_goals omega
theorem delay_ft (d p : Int) : Cal.delay d p false true = if 19440 ≤ p ∨ (d % 7 = 2 ∧ 9924 ≤ p) ∨ (d % 7 = 1 ∧ 16789 ≤ p) then (if (d % 7 + 1) % 7 = 0 ∨ (d % 7 + 1) % 7 = 3 ∨ (d % 7 + 1) % 7 = 5 then 2 else 1) else (if d % 7 = 0 ∨ d % 7 = 3 ∨ d % 7 = 5 then 1 else 0) := by
  unfold Cal.delay Cal.delay0
  simp only [Bool.not_false, Bool.true_and, Bool.and_eq_true, beq_iff_eq, decide_eq_true_eq]
  repeat' split
  all_goals omega
theorem delay_ff (d p : Int) : Cal.delay d p false false = if 19440 ≤ p ∨ (d % 7 = 2 ∧ 9924 ≤ p) then (if (d % 7 + 1) % 7 = 0 ∨ (d % 7 + 1) % 7 = 3 ∨ (d % 7 + 1) % 7 = 5 then 2 else 1) else (if d % 7 = 0 ∨ d % 7 = 3 ∨ d % 7 = 5 then 1 else 0) := by
  unfold Cal.delay Cal.delay0
  simp only [Bool.not_false, Bool.true_and, Bool.false_and, Bool.false_eq_true, if_false, Bool.and_eq_true, beq_iff_eq, decide_eq_true_eq]
  repeat' split
  all_goals omega

set_option maxHeartbeats 1000000 in
theorem newyear_Delay_tt (d p : Int) (w : World) (hd : I64 d) (hp : I64 p) :
    Calls Tryd.prog 178 #[.agg #[.int .i64 d, .int .i64 p], .bool true, .bool true] w fun e w' => e = .returned (.int .i64 (Cal.delay d p true true)) ∧ Below w.heap.size w w' := by
  have HW := Lib.hid (fun w => molad_Weekday d w hd)
  have k0 : 0 ≤ d % 7 := by omega
  have k1 : d % 7 < 7 := by omega
  go_enter Tryd.func178, Tryd.ntmps178
  go_wp2_with fail
  refine (HW.out _).mono ?_
  rintro e w' ⟨rfl, rfl⟩
  go_wp2_with fail
  all_goals (refine (molad_Weekday _ _ ⟨by omega, by omega⟩).mono ?_; rintro e w' ⟨rfl, rfl⟩; go_wp2_with fail)
  all_goals go_ret
  all_goals refine ⟨ret_i ?_, ba _ _⟩
  all_goals go_light
  all_goals rw [delay_tt]
  all_goals (repeat' split)
  all_goals (try simp only [beq_iff_eq, beq_eq_false_iff_ne, ne_eq] at *)
  all_goals omega

set_option maxHeartbeats 1000000 in
theorem ref5_Delay_tt (d p : Int) (w : World) (hd : I64 d) (hp : I64 p) :
    Calls Tryd.prog 110 #[.agg #[.int .i64 d, .int .i64 p], .bool true, .bool true] w fun e w' => e = .returned (.int .i64 (Cal.delay d p true true)) ∧ Below w.heap.size w w' := by
  have HW := Lib.hid (fun w => ref4_Weekday d w)
  have k0 : 0 ≤ d % 7 := by omega
  have k1 : d % 7 < 7 := by omega
  go_enter Tryd.func110, Tryd.ntmps110
  go_wp2_with fail
  refine (HW.out _).mono ?_
  rintro e w' ⟨rfl, rfl⟩
  go_wp2_with fail
  all_goals go_ret
  all_goals refine ⟨ret_i ?_, ba _ _⟩
  all_goals go_light
  all_goals rw [delay_tt]
  all_goals (repeat' split)
  all_goals (try simp only [beq_iff_eq, beq_eq_false_iff_ne, ne_eq] at *)
  all_goals omega

set_option maxHeartbeats 1000000 in
theorem newyear_Delay_tf (d p : Int) (w : World) (hd : I64 d) (hp : I64 p) :
    Calls Tryd.prog 178 #[.agg #[.int .i64 d, .int .i64 p], .bool true, .bool false] w fun e w' => e = .returned (.int .i64 (Cal.delay d p true false)) ∧ Below w.heap.size w w' := by
  have HW := Lib.hid (fun w => molad_Weekday d w hd)
  have k0 : 0 ≤ d % 7 := by omega
  have k1 : d % 7 < 7 := by omega
  go_enter Tryd.func178, Tryd.ntmps178
  go_wp2_with fail
  refine (HW.out _).mono ?_
  rintro e w' ⟨rfl, rfl⟩
  go_wp2_with fail
  all_goals (refine (molad_Weekday _ _ ⟨by omega, by omega⟩).mono ?_; rintro e w' ⟨rfl, rfl⟩; go_wp2_with fail)
  all_goals go_ret
  all_goals refine ⟨ret_i ?_, ba _ _⟩
  all_goals go_light
  all_goals rw [delay_tf]
  all_goals (repeat' split)
  all_goals (try simp only [beq_iff_eq, beq_eq_false_iff_ne, ne_eq] at *)
  all_goals omega

set_option maxHeartbeats 1000000 in
theorem ref5_Delay_tf (d p : Int) (w : World) (hd : I64 d) (hp : I64 p) :
    Calls Tryd.prog 110 #[.agg #[.int .i64 d, .int .i64 p], .bool true, .bool false] w fun e w' => e = .returned (.int .i64 (Cal.delay d p true false)) ∧ Below w.heap.size w w' := by
  have HW := Lib.hid (fun w => ref4_Weekday d w)
  have k0 : 0 ≤ d % 7 := by omega
  have k1 : d % 7 < 7 := by omega
  go_enter Tryd.func110, Tryd.ntmps110
  go_wp2_with fail
  refine (HW.out _).mono ?_
  rintro e w' ⟨rfl, rfl⟩
  go_wp2_with fail
  all_goals go_ret
  all_goals refine ⟨ret_i ?_, ba _ _⟩
  all_goals go_light
  all_goals rw [delay_tf]
  all_goals (repeat' split)
  all_goals (try simp only [beq_iff_eq, beq_eq_false_iff_ne, ne_eq] at *)
  all_goals omega

set_option maxHeartbeats 1000000 in
theorem newyear_Delay_ft (d p : Int) (w : World) (hd : I64 d) (hp : I64 p) :
    Calls Tryd.prog 178 #[.agg #[.int .i64 d, .int .i64 p], .bool false, .bool true] w fun e w' => e = .returned (.int .i64 (Cal.delay d p false true)) ∧ Below w.heap.size w w' := by
  have HW := Lib.hid (fun w => molad_Weekday d w hd)
  have k0 : 0 ≤ d % 7 := by omega
  have k1 : d % 7 < 7 := by omega
  go_enter Tryd.func178, Tryd.ntmps178
  go_wp2_with fail
  refine (HW.out _).mono ?_
  rintro e w' ⟨rfl, rfl⟩
  go_wp2_with fail
  all_goals (refine (molad_Weekday _ _ ⟨by omega, by omega⟩).mono ?_; rintro e w' ⟨rfl, rfl⟩; go_wp2_with fail)
  all_goals go_ret
  all_goals refine ⟨ret_i ?_, ba _ _⟩
  all_goals go_light
  all_goals rw [delay_ft]
  all_goals (repeat' split)
  all_goals (try simp only [beq_iff_eq, beq_eq_false_iff_ne, ne_eq] at *)
  all_goals omega

set_option maxHeartbeats 1000000 in
theorem ref5_Delay_ft (d p : Int) (w : World) (hd : I64 d) (hp : I64 p) :
    Calls Tryd.prog 110 #[.agg #[.int .i64 d, .int .i64 p], .bool false, .bool true] w fun e w' => e = .returned (.int .i64 (Cal.delay d p false true)) ∧ Below w.heap.size w w' := by
  have HW := Lib.hid (fun w => ref4_Weekday d w)
  have k0 : 0 ≤ d % 7 := by omega
  have k1 : d % 7 < 7 := by omega
  go_enter Tryd.func110, Tryd.ntmps110
  go_wp2_with fail
  refine (HW.out _).mono ?_
  rintro e w' ⟨rfl, rfl⟩
  go_wp2_with fail
  all_goals go_ret
  all_goals refine ⟨ret_i ?_, ba _ _⟩
  all_goals go_light
  all_goals rw [delay_ft]
  all_goals (repeat' split)
  all_goals (try simp only [beq_iff_eq, beq_eq_false_iff_ne, ne_eq] at *)
  all_goals omega

set_option maxHeartbeats 1000000 in
theorem newyear_Delay_ff (d p : Int) (w : World) (hd : I64 d) (hp : I64 p) :
    Calls Tryd.prog 178 #[.agg #[.int .i64 d, .int .i64 p], .bool false, .bool false] w fun e w' => e = .returned (.int .i64 (Cal.delay d p false false)) ∧ Below w.heap.size w w' := by
  have HW := Lib.hid (fun w => molad_Weekday d w hd)
  have k0 : 0 ≤ d % 7 := by omega
  have k1 : d % 7 < 7 := by omega
  go_enter Tryd.func178, Tryd.ntmps178
  go_wp2_with fail
  refine (HW.out _).mono ?_
  rintro e w' ⟨rfl, rfl⟩
  go_wp2_with fail
  all_goals (refine (molad_Weekday _ _ ⟨by omega, by omega⟩).mono ?_; rintro e w' ⟨rfl, rfl⟩; go_wp2_with fail)
  all_goals go_ret
  all_goals refine ⟨ret_i ?_, ba _ _⟩
  all_goals go_light
  all_goals rw [delay_ff]
  all_goals (repeat' split)
  all_goals (try simp only [beq_iff_eq, beq_eq_false_iff_ne, ne_eq] at *)
  all_goals omega

set_option maxHeartbeats 1000000 in
theorem ref5_Delay_ff (d p : Int) (w : World) (hd : I64 d) (hp : I64 p) :
    Calls Tryd.prog 110 #[.agg #[.int .i64 d, .int .i64 p], .bool false, .bool false] w fun e w' => e = .returned (.int .i64 (Cal.delay d p false false)) ∧ Below w.heap.size w w' := by
  have HW := Lib.hid (fun w => ref4_Weekday d w)
  have k0 : 0 ≤ d % 7 := by omega
  have k1 : d % 7 < 7 := by omega
  go_enter Tryd.func110, Tryd.ntmps110
  go_wp2_with fail
  refine (HW.out _).mono ?_
  rintro e w' ⟨rfl, rfl⟩
  go_wp2_with fail
  all_goals go_ret
  all_goals refine ⟨ret_i ?_, ba _ _⟩
  all_goals go_light
  all_goals rw [delay_ff]
  all_goals (repeat' split)
  all_goals (try simp only [beq_iff_eq, beq_eq_false_iff_ne, ne_eq] at *)
  all_goals omega

theorem newyear_Delay (d p : Int) (lp af : Bool) (w : World) (hd : I64 d) (hp : I64 p) :
    Calls Tryd.prog 178 #[.agg #[.int .i64 d, .int .i64 p], .bool lp, .bool af] w fun e w' => e = .returned (.int .i64 (Cal.delay d p lp af)) ∧ Below w.heap.size w w' := by
  cases lp <;> cases af
  · exact newyear_Delay_ff d p w hd hp
  · exact newyear_Delay_ft d p w hd hp
  · exact newyear_Delay_tf d p w hd hp
  · exact newyear_Delay_tt d p w hd hp

theorem ref5_Delay (d p : Int) (lp af : Bool) (w : World) (hd : I64 d) (hp : I64 p) :
    Calls Tryd.prog 110 #[.agg #[.int .i64 d, .int .i64 p], .bool lp, .bool af] w fun e w' => e = .returned (.int .i64 (Cal.delay d p lp af)) ∧ Below w.heap.size w w' := by
  cases lp <;> cases af
  · exact ref5_Delay_ff d p w hd hp
  · exact ref5_Delay_ft d p w hd hp
  · exact ref5_Delay_tf d p w hd hp
  · exact ref5_Delay_tt d p w hd hp
end Go.Proofs.YtncckpfenjokmaaDoor
