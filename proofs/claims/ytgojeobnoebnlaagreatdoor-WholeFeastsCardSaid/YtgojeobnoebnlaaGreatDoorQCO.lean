import Derived.Test.YtgojeobnoebnlaaGreatDoorQLA
import Derived.LoopTactic
import Derived.Deep.RegionHeld
import Derived.Test.YtgojeobnoebnlaaGreatDoorQBB
set_option maxHeartbeats 8000000
set_option maxRecDepth 100000
set_option linter.unusedVariables false
namespace Go.Proofs.YtgojeobnoebnlaaGreatDoor
section
open Go.ChangeShapes Go.WideShapes Go.ChangeAt Go.RowKit
def Cal.right (n : Int) (l : Bool) : Bool := decide (1 ≤ n ∧ n ≤ 12 ∧ (l = false ∨ n = 5))
theorem code_Right_ok (n : Int) (w : World) (h1 : 1 ≤ n) (h2 : n ≤ 12) : Calls Tryo.prog 63 #[.agg #[.int .i64 n, .bool false]] w fun e w' => e = .returned (.bool true) ∧ Below w.heap.size w w' := by
 go_enter Tryo.func63, Tryz.ntmps63
 go_wp2_with fail
 go_ret
 exact ⟨rfl, ba _ _⟩
theorem code_Right_leap (w : World) : Calls Tryo.prog 63 #[.agg #[.int .i64 5, .bool true]] w fun e w' => e = .returned (.bool true) ∧ Below w.heap.size w w' := by
 go_enter Tryo.func63, Tryz.ntmps63
 go_wp2_with fail
 go_ret
 exact ⟨rfl, ba _ _⟩
theorem code_Right_no (n : Int) (l : Bool) (w : World) (h : Cal.right n l = false) : Calls Tryo.prog 63 #[.agg #[.int .i64 n, .bool l]] w fun e w' => e = .returned (.bool false) ∧ Below w.heap.size w w' := by
 rw [Cal.right, decide_eq_false_iff_not] at h
 rcases (show n < 1 ∨ (1 ≤ n ∧ 12 < n) ∨ (1 ≤ n ∧ n ≤ 12 ∧ ¬ n = 5 ∧ l = true) by cases l <;> simp at h ⊢ <;> omega) with c | ⟨c1, c2⟩ | ⟨c1, c2, c3, rfl⟩
 ·skip
  go_enter Tryo.func63, Tryz.ntmps63
  go_wp2_with fail
  go_ret
  exact ⟨rfl, ba _ _⟩
 ·skip
  go_enter Tryo.func63, Tryz.ntmps63
  go_wp2_with fail
  go_ret
  exact ⟨rfl, ba _ _⟩
 ·have c4 : (n == 5) = false := by rw [beq_eq_false_iff_ne]; exact c3
  go_enter Tryo.func63, Tryz.ntmps63
  go_wp2_with fail
  go_ret
  exact ⟨rfl, ba _ _⟩
end
section
open Go.ChangeShapes Go.WideShapes Go.ChangeAt Go.RowKit
theorem code_digit (n : Int) (w : World) (h0 : 0 ≤ n) (h1 : n ≤ 9) : Calls Tryo.prog 101 #[.int .i64 n] w fun e w' => e = .returned (.int .u8 (48 + n)) ∧ w = w' := by
 go_enter Tryo.func101, Tryz.ntmps101
 go_wp2_with fail
 go_ret
 exact ⟨rfl, rfl⟩
theorem code_Text_no (n : Int) (l : Bool) (w : World) (h : Cal.right n l = false) : Calls Tryo.prog 65 #[.agg #[.int .i64 n, .bool l]] w fun e w' => e = .returned (.tuple #[.string ByteArray.empty, .bool false]) ∧ Below w.heap.size w w' := by
 go_enter Tryo.func65, Tryz.ntmps65
 go_wp2_with fail
 refine (code_Right_no n l _ h).mono ?_
 rintro e w1 ⟨rfl, hb1⟩
 obtain ⟨hc1, hf1⟩ := bcell hb1
 have hz1 := hb1.size
 try simp at hz1
 go_wp2_with fail
 refine bodyPost_ret (v := .tuple #[.string ByteArray.empty, .bool false]) (by simp [results, Tryz.results65, go_sem]; try rfl) rfl ⟨rfl, bt (ba _ _) hb1⟩
theorem conv_bytes (w : World) (x y : Nat) (hx : x < 256) (hy : y < 256) :
  (convert 145 9 (.slice (some ⟨w.heap.size, 0, none⟩) 2 2)).run Tryo.prog (w.alloc (.cells #[.int .u8 (x : Int), .int .u8 (y : Int)] 5)).drew = .ok (.string ⟨#[UInt8.ofNat x, UInt8.ofNat y]⟩) (w.alloc (.cells #[.int .u8 (x : Int), .int .u8 (y : Int)] 5)).drew := by
 have h := run_convert_bytes_arg (P := Tryo.prog) (w.alloc (.cells #[.int .u8 (x : Int), .int .u8 (y : Int)] 5)).drew 145 5 (und_o Tryz.underlying145) (und_o Tryz.underlying5) w.heap.size 0 2 2 [(x : Int), (y : Int)] rfl (by
  intro i hi
  rcases i with _ | _ | i
  ·exact World.cell?_alloc_mark w _ 5 _ 0
  ·exact World.cell?_alloc_mark w _ 5 _ 1
  ·omega) 9 (und_o Tryz.underlying9)
 exact h
theorem code_Text_1 (w : World) : Calls Tryo.prog 65 #[.agg #[.int .i64 1, .bool false]] w fun e w' => e = .returned (.tuple #[.string ⟨#[77, 48, 49]⟩, .bool true]) ∧ Below w.heap.size w w' := by
 go_enter Tryo.func65, Tryz.ntmps65
 go_wp2_with fail
 refine (code_Right_ok 1 _ (by omega) (by omega)).mono ?_
 rintro e w1 ⟨rfl, hb1⟩
 obtain ⟨hc1, hf1⟩ := bcell hb1
 have hz1 := hb1.size
 try simp at hz1
 have hs1x0 : w.heap.size < w1.heap.size := by omega
 have g1x0 : w1.cell? ⟨w.heap.size, 0, none⟩ = some (.int .i64 1) := celB hc1
 have g1x1 : w1.cell? ⟨w.heap.size, 1, none⟩ = some (.bool false) := celB hc1
 go_wp2_with fail
 have hs1 : w.heap.size < w1.heap.size := by omega
 clear hc1 hf1
 have kc : (convert 145 9 (.slice (some ⟨w1.heap.size, 0, none⟩) 2 2)).run Tryo.prog (w1.alloc (.cells #[.int .u8 48, .int .u8 49] 5)).drew = .ok (.string ⟨#[48, 49]⟩) (w1.alloc (.cells #[.int .u8 48, .int .u8 49] 5)).drew := conv_bytes w1 48 49 (by omega) (by omega)
 go_region_held (fun x => x.cell? ⟨w.heap.size, 0, none⟩ = some (.int .i64 1) ∧ x.cell? ⟨w.heap.size, 1, none⟩ = some (.bool false)) (first | assumption | go_keep)
   (first | (go_at_call 101; first | (refine (code_digit 0 _ (by omega) (by omega)).mono ?_; rintro e w3 ⟨rfl, rfl⟩) | (refine (code_digit 1 _ (by omega) (by omega)).mono ?_; rintro e w3 ⟨rfl, rfl⟩)))
 all_goals (have hh := And.intro hs1 (by assumption : _ ∧ _))
 all_goals obtain ⟨_, hh1, hh2⟩ := hh
 all_goals go_wp2_with fail
 all_goals refine bodyPost_ret (v := .tuple #[.string ⟨#[77, 48, 49]⟩, .bool true]) (by simp [results, Tryz.results65, go_sem]; try rfl) rfl ⟨rfl, (baa (bt (ba _ _) hb1) _).drew⟩
theorem code_Text_2 (w : World) : Calls Tryo.prog 65 #[.agg #[.int .i64 2, .bool false]] w fun e w' => e = .returned (.tuple #[.string ⟨#[77, 48, 50]⟩, .bool true]) ∧ Below w.heap.size w w' := by
 go_enter Tryo.func65, Tryz.ntmps65
 go_wp2_with fail
 refine (code_Right_ok 2 _ (by omega) (by omega)).mono ?_
 rintro e w1 ⟨rfl, hb1⟩
 obtain ⟨hc1, hf1⟩ := bcell hb1
 have hz1 := hb1.size
 try simp at hz1
 have hs1x0 : w.heap.size < w1.heap.size := by omega
 have g1x0 : w1.cell? ⟨w.heap.size, 0, none⟩ = some (.int .i64 2) := celB hc1
 have g1x1 : w1.cell? ⟨w.heap.size, 1, none⟩ = some (.bool false) := celB hc1
 go_wp2_with fail
 have hs1 : w.heap.size < w1.heap.size := by omega
 clear hc1 hf1
 have kc : (convert 145 9 (.slice (some ⟨w1.heap.size, 0, none⟩) 2 2)).run Tryo.prog (w1.alloc (.cells #[.int .u8 48, .int .u8 50] 5)).drew = .ok (.string ⟨#[48, 50]⟩) (w1.alloc (.cells #[.int .u8 48, .int .u8 50] 5)).drew := conv_bytes w1 48 50 (by omega) (by omega)
 go_region_held (fun x => x.cell? ⟨w.heap.size, 0, none⟩ = some (.int .i64 2) ∧ x.cell? ⟨w.heap.size, 1, none⟩ = some (.bool false)) (first | assumption | go_keep)
   (first | (go_at_call 101; first | (refine (code_digit 0 _ (by omega) (by omega)).mono ?_; rintro e w3 ⟨rfl, rfl⟩) | (refine (code_digit 2 _ (by omega) (by omega)).mono ?_; rintro e w3 ⟨rfl, rfl⟩)))
 all_goals (have hh := And.intro hs1 (by assumption : _ ∧ _))
 all_goals obtain ⟨_, hh1, hh2⟩ := hh
 all_goals go_wp2_with fail
 all_goals refine bodyPost_ret (v := .tuple #[.string ⟨#[77, 48, 50]⟩, .bool true]) (by simp [results, Tryz.results65, go_sem]; try rfl) rfl ⟨rfl, (baa (bt (ba _ _) hb1) _).drew⟩
theorem code_Text_3 (w : World) : Calls Tryo.prog 65 #[.agg #[.int .i64 3, .bool false]] w fun e w' => e = .returned (.tuple #[.string ⟨#[77, 48, 51]⟩, .bool true]) ∧ Below w.heap.size w w' := by
 go_enter Tryo.func65, Tryz.ntmps65
 go_wp2_with fail
 refine (code_Right_ok 3 _ (by omega) (by omega)).mono ?_
 rintro e w1 ⟨rfl, hb1⟩
 obtain ⟨hc1, hf1⟩ := bcell hb1
 have hz1 := hb1.size
 try simp at hz1
 have hs1x0 : w.heap.size < w1.heap.size := by omega
 have g1x0 : w1.cell? ⟨w.heap.size, 0, none⟩ = some (.int .i64 3) := celB hc1
 have g1x1 : w1.cell? ⟨w.heap.size, 1, none⟩ = some (.bool false) := celB hc1
 go_wp2_with fail
 have hs1 : w.heap.size < w1.heap.size := by omega
 clear hc1 hf1
 have kc : (convert 145 9 (.slice (some ⟨w1.heap.size, 0, none⟩) 2 2)).run Tryo.prog (w1.alloc (.cells #[.int .u8 48, .int .u8 51] 5)).drew = .ok (.string ⟨#[48, 51]⟩) (w1.alloc (.cells #[.int .u8 48, .int .u8 51] 5)).drew := conv_bytes w1 48 51 (by omega) (by omega)
 go_region_held (fun x => x.cell? ⟨w.heap.size, 0, none⟩ = some (.int .i64 3) ∧ x.cell? ⟨w.heap.size, 1, none⟩ = some (.bool false)) (first | assumption | go_keep)
   (first | (go_at_call 101; first | (refine (code_digit 0 _ (by omega) (by omega)).mono ?_; rintro e w3 ⟨rfl, rfl⟩) | (refine (code_digit 3 _ (by omega) (by omega)).mono ?_; rintro e w3 ⟨rfl, rfl⟩)))
 all_goals (have hh := And.intro hs1 (by assumption : _ ∧ _))
 all_goals obtain ⟨_, hh1, hh2⟩ := hh
 all_goals go_wp2_with fail
 all_goals refine bodyPost_ret (v := .tuple #[.string ⟨#[77, 48, 51]⟩, .bool true]) (by simp [results, Tryz.results65, go_sem]; try rfl) rfl ⟨rfl, (baa (bt (ba _ _) hb1) _).drew⟩
theorem code_Text_4 (w : World) : Calls Tryo.prog 65 #[.agg #[.int .i64 4, .bool false]] w fun e w' => e = .returned (.tuple #[.string ⟨#[77, 48, 52]⟩, .bool true]) ∧ Below w.heap.size w w' := by
 go_enter Tryo.func65, Tryz.ntmps65
 go_wp2_with fail
 refine (code_Right_ok 4 _ (by omega) (by omega)).mono ?_
 rintro e w1 ⟨rfl, hb1⟩
 obtain ⟨hc1, hf1⟩ := bcell hb1
 have hz1 := hb1.size
 try simp at hz1
 have hs1x0 : w.heap.size < w1.heap.size := by omega
 have g1x0 : w1.cell? ⟨w.heap.size, 0, none⟩ = some (.int .i64 4) := celB hc1
 have g1x1 : w1.cell? ⟨w.heap.size, 1, none⟩ = some (.bool false) := celB hc1
 go_wp2_with fail
 have hs1 : w.heap.size < w1.heap.size := by omega
 clear hc1 hf1
 have kc : (convert 145 9 (.slice (some ⟨w1.heap.size, 0, none⟩) 2 2)).run Tryo.prog (w1.alloc (.cells #[.int .u8 48, .int .u8 52] 5)).drew = .ok (.string ⟨#[48, 52]⟩) (w1.alloc (.cells #[.int .u8 48, .int .u8 52] 5)).drew := conv_bytes w1 48 52 (by omega) (by omega)
 go_region_held (fun x => x.cell? ⟨w.heap.size, 0, none⟩ = some (.int .i64 4) ∧ x.cell? ⟨w.heap.size, 1, none⟩ = some (.bool false)) (first | assumption | go_keep)
   (first | (go_at_call 101; first | (refine (code_digit 0 _ (by omega) (by omega)).mono ?_; rintro e w3 ⟨rfl, rfl⟩) | (refine (code_digit 4 _ (by omega) (by omega)).mono ?_; rintro e w3 ⟨rfl, rfl⟩)))
 all_goals (have hh := And.intro hs1 (by assumption : _ ∧ _))
 all_goals obtain ⟨_, hh1, hh2⟩ := hh
 all_goals go_wp2_with fail
 all_goals refine bodyPost_ret (v := .tuple #[.string ⟨#[77, 48, 52]⟩, .bool true]) (by simp [results, Tryz.results65, go_sem]; try rfl) rfl ⟨rfl, (baa (bt (ba _ _) hb1) _).drew⟩
theorem code_Text_5 (w : World) : Calls Tryo.prog 65 #[.agg #[.int .i64 5, .bool false]] w fun e w' => e = .returned (.tuple #[.string ⟨#[77, 48, 53]⟩, .bool true]) ∧ Below w.heap.size w w' := by
 go_enter Tryo.func65, Tryz.ntmps65
 go_wp2_with fail
 refine (code_Right_ok 5 _ (by omega) (by omega)).mono ?_
 rintro e w1 ⟨rfl, hb1⟩
 obtain ⟨hc1, hf1⟩ := bcell hb1
 have hz1 := hb1.size
 try simp at hz1
 have hs1x0 : w.heap.size < w1.heap.size := by omega
 have g1x0 : w1.cell? ⟨w.heap.size, 0, none⟩ = some (.int .i64 5) := celB hc1
 have g1x1 : w1.cell? ⟨w.heap.size, 1, none⟩ = some (.bool false) := celB hc1
 go_wp2_with fail
 have hs1 : w.heap.size < w1.heap.size := by omega
 clear hc1 hf1
 have kc : (convert 145 9 (.slice (some ⟨w1.heap.size, 0, none⟩) 2 2)).run Tryo.prog (w1.alloc (.cells #[.int .u8 48, .int .u8 53] 5)).drew = .ok (.string ⟨#[48, 53]⟩) (w1.alloc (.cells #[.int .u8 48, .int .u8 53] 5)).drew := conv_bytes w1 48 53 (by omega) (by omega)
 go_region_held (fun x => x.cell? ⟨w.heap.size, 0, none⟩ = some (.int .i64 5) ∧ x.cell? ⟨w.heap.size, 1, none⟩ = some (.bool false)) (first | assumption | go_keep)
   (first | (go_at_call 101; first | (refine (code_digit 0 _ (by omega) (by omega)).mono ?_; rintro e w3 ⟨rfl, rfl⟩) | (refine (code_digit 5 _ (by omega) (by omega)).mono ?_; rintro e w3 ⟨rfl, rfl⟩)))
 all_goals (have hh := And.intro hs1 (by assumption : _ ∧ _))
 all_goals obtain ⟨_, hh1, hh2⟩ := hh
 all_goals go_wp2_with fail
 all_goals refine bodyPost_ret (v := .tuple #[.string ⟨#[77, 48, 53]⟩, .bool true]) (by simp [results, Tryz.results65, go_sem]; try rfl) rfl ⟨rfl, (baa (bt (ba _ _) hb1) _).drew⟩
theorem code_Text_6 (w : World) : Calls Tryo.prog 65 #[.agg #[.int .i64 6, .bool false]] w fun e w' => e = .returned (.tuple #[.string ⟨#[77, 48, 54]⟩, .bool true]) ∧ Below w.heap.size w w' := by
 go_enter Tryo.func65, Tryz.ntmps65
 go_wp2_with fail
 refine (code_Right_ok 6 _ (by omega) (by omega)).mono ?_
 rintro e w1 ⟨rfl, hb1⟩
 obtain ⟨hc1, hf1⟩ := bcell hb1
 have hz1 := hb1.size
 try simp at hz1
 have hs1x0 : w.heap.size < w1.heap.size := by omega
 have g1x0 : w1.cell? ⟨w.heap.size, 0, none⟩ = some (.int .i64 6) := celB hc1
 have g1x1 : w1.cell? ⟨w.heap.size, 1, none⟩ = some (.bool false) := celB hc1
 go_wp2_with fail
 have hs1 : w.heap.size < w1.heap.size := by omega
 clear hc1 hf1
 have kc : (convert 145 9 (.slice (some ⟨w1.heap.size, 0, none⟩) 2 2)).run Tryo.prog (w1.alloc (.cells #[.int .u8 48, .int .u8 54] 5)).drew = .ok (.string ⟨#[48, 54]⟩) (w1.alloc (.cells #[.int .u8 48, .int .u8 54] 5)).drew := conv_bytes w1 48 54 (by omega) (by omega)
 go_region_held (fun x => x.cell? ⟨w.heap.size, 0, none⟩ = some (.int .i64 6) ∧ x.cell? ⟨w.heap.size, 1, none⟩ = some (.bool false)) (first | assumption | go_keep)
   (first | (go_at_call 101; first | (refine (code_digit 0 _ (by omega) (by omega)).mono ?_; rintro e w3 ⟨rfl, rfl⟩) | (refine (code_digit 6 _ (by omega) (by omega)).mono ?_; rintro e w3 ⟨rfl, rfl⟩)))
 all_goals (have hh := And.intro hs1 (by assumption : _ ∧ _))
 all_goals obtain ⟨_, hh1, hh2⟩ := hh
 all_goals go_wp2_with fail
 all_goals refine bodyPost_ret (v := .tuple #[.string ⟨#[77, 48, 54]⟩, .bool true]) (by simp [results, Tryz.results65, go_sem]; try rfl) rfl ⟨rfl, (baa (bt (ba _ _) hb1) _).drew⟩
theorem code_Text_7 (w : World) : Calls Tryo.prog 65 #[.agg #[.int .i64 7, .bool false]] w fun e w' => e = .returned (.tuple #[.string ⟨#[77, 48, 55]⟩, .bool true]) ∧ Below w.heap.size w w' := by
 go_enter Tryo.func65, Tryz.ntmps65
 go_wp2_with fail
 refine (code_Right_ok 7 _ (by omega) (by omega)).mono ?_
 rintro e w1 ⟨rfl, hb1⟩
 obtain ⟨hc1, hf1⟩ := bcell hb1
 have hz1 := hb1.size
 try simp at hz1
 have hs1x0 : w.heap.size < w1.heap.size := by omega
 have g1x0 : w1.cell? ⟨w.heap.size, 0, none⟩ = some (.int .i64 7) := celB hc1
 have g1x1 : w1.cell? ⟨w.heap.size, 1, none⟩ = some (.bool false) := celB hc1
 go_wp2_with fail
 have hs1 : w.heap.size < w1.heap.size := by omega
 clear hc1 hf1
 have kc : (convert 145 9 (.slice (some ⟨w1.heap.size, 0, none⟩) 2 2)).run Tryo.prog (w1.alloc (.cells #[.int .u8 48, .int .u8 55] 5)).drew = .ok (.string ⟨#[48, 55]⟩) (w1.alloc (.cells #[.int .u8 48, .int .u8 55] 5)).drew := conv_bytes w1 48 55 (by omega) (by omega)
 go_region_held (fun x => x.cell? ⟨w.heap.size, 0, none⟩ = some (.int .i64 7) ∧ x.cell? ⟨w.heap.size, 1, none⟩ = some (.bool false)) (first | assumption | go_keep)
   (first | (go_at_call 101; first | (refine (code_digit 0 _ (by omega) (by omega)).mono ?_; rintro e w3 ⟨rfl, rfl⟩) | (refine (code_digit 7 _ (by omega) (by omega)).mono ?_; rintro e w3 ⟨rfl, rfl⟩)))
 all_goals (have hh := And.intro hs1 (by assumption : _ ∧ _))
 all_goals obtain ⟨_, hh1, hh2⟩ := hh
 all_goals go_wp2_with fail
 all_goals refine bodyPost_ret (v := .tuple #[.string ⟨#[77, 48, 55]⟩, .bool true]) (by simp [results, Tryz.results65, go_sem]; try rfl) rfl ⟨rfl, (baa (bt (ba _ _) hb1) _).drew⟩
theorem code_Text_8 (w : World) : Calls Tryo.prog 65 #[.agg #[.int .i64 8, .bool false]] w fun e w' => e = .returned (.tuple #[.string ⟨#[77, 48, 56]⟩, .bool true]) ∧ Below w.heap.size w w' := by
 go_enter Tryo.func65, Tryz.ntmps65
 go_wp2_with fail
 refine (code_Right_ok 8 _ (by omega) (by omega)).mono ?_
 rintro e w1 ⟨rfl, hb1⟩
 obtain ⟨hc1, hf1⟩ := bcell hb1
 have hz1 := hb1.size
 try simp at hz1
 have hs1x0 : w.heap.size < w1.heap.size := by omega
 have g1x0 : w1.cell? ⟨w.heap.size, 0, none⟩ = some (.int .i64 8) := celB hc1
 have g1x1 : w1.cell? ⟨w.heap.size, 1, none⟩ = some (.bool false) := celB hc1
 go_wp2_with fail
 have hs1 : w.heap.size < w1.heap.size := by omega
 clear hc1 hf1
 have kc : (convert 145 9 (.slice (some ⟨w1.heap.size, 0, none⟩) 2 2)).run Tryo.prog (w1.alloc (.cells #[.int .u8 48, .int .u8 56] 5)).drew = .ok (.string ⟨#[48, 56]⟩) (w1.alloc (.cells #[.int .u8 48, .int .u8 56] 5)).drew := conv_bytes w1 48 56 (by omega) (by omega)
 go_region_held (fun x => x.cell? ⟨w.heap.size, 0, none⟩ = some (.int .i64 8) ∧ x.cell? ⟨w.heap.size, 1, none⟩ = some (.bool false)) (first | assumption | go_keep)
   (first | (go_at_call 101; first | (refine (code_digit 0 _ (by omega) (by omega)).mono ?_; rintro e w3 ⟨rfl, rfl⟩) | (refine (code_digit 8 _ (by omega) (by omega)).mono ?_; rintro e w3 ⟨rfl, rfl⟩)))
 all_goals (have hh := And.intro hs1 (by assumption : _ ∧ _))
 all_goals obtain ⟨_, hh1, hh2⟩ := hh
 all_goals go_wp2_with fail
 all_goals refine bodyPost_ret (v := .tuple #[.string ⟨#[77, 48, 56]⟩, .bool true]) (by simp [results, Tryz.results65, go_sem]; try rfl) rfl ⟨rfl, (baa (bt (ba _ _) hb1) _).drew⟩
theorem code_Text_9 (w : World) : Calls Tryo.prog 65 #[.agg #[.int .i64 9, .bool false]] w fun e w' => e = .returned (.tuple #[.string ⟨#[77, 48, 57]⟩, .bool true]) ∧ Below w.heap.size w w' := by
 go_enter Tryo.func65, Tryz.ntmps65
 go_wp2_with fail
 refine (code_Right_ok 9 _ (by omega) (by omega)).mono ?_
 rintro e w1 ⟨rfl, hb1⟩
 obtain ⟨hc1, hf1⟩ := bcell hb1
 have hz1 := hb1.size
 try simp at hz1
 have hs1x0 : w.heap.size < w1.heap.size := by omega
 have g1x0 : w1.cell? ⟨w.heap.size, 0, none⟩ = some (.int .i64 9) := celB hc1
 have g1x1 : w1.cell? ⟨w.heap.size, 1, none⟩ = some (.bool false) := celB hc1
 go_wp2_with fail
 have hs1 : w.heap.size < w1.heap.size := by omega
 clear hc1 hf1
 have kc : (convert 145 9 (.slice (some ⟨w1.heap.size, 0, none⟩) 2 2)).run Tryo.prog (w1.alloc (.cells #[.int .u8 48, .int .u8 57] 5)).drew = .ok (.string ⟨#[48, 57]⟩) (w1.alloc (.cells #[.int .u8 48, .int .u8 57] 5)).drew := conv_bytes w1 48 57 (by omega) (by omega)
 go_region_held (fun x => x.cell? ⟨w.heap.size, 0, none⟩ = some (.int .i64 9) ∧ x.cell? ⟨w.heap.size, 1, none⟩ = some (.bool false)) (first | assumption | go_keep)
   (first | (go_at_call 101; first | (refine (code_digit 0 _ (by omega) (by omega)).mono ?_; rintro e w3 ⟨rfl, rfl⟩) | (refine (code_digit 9 _ (by omega) (by omega)).mono ?_; rintro e w3 ⟨rfl, rfl⟩)))
 all_goals (have hh := And.intro hs1 (by assumption : _ ∧ _))
 all_goals obtain ⟨_, hh1, hh2⟩ := hh
 all_goals go_wp2_with fail
 all_goals refine bodyPost_ret (v := .tuple #[.string ⟨#[77, 48, 57]⟩, .bool true]) (by simp [results, Tryz.results65, go_sem]; try rfl) rfl ⟨rfl, (baa (bt (ba _ _) hb1) _).drew⟩
theorem code_Text_10 (w : World) : Calls Tryo.prog 65 #[.agg #[.int .i64 10, .bool false]] w fun e w' => e = .returned (.tuple #[.string ⟨#[77, 49, 48]⟩, .bool true]) ∧ Below w.heap.size w w' := by
 go_enter Tryo.func65, Tryz.ntmps65
 go_wp2_with fail
 refine (code_Right_ok 10 _ (by omega) (by omega)).mono ?_
 rintro e w1 ⟨rfl, hb1⟩
 obtain ⟨hc1, hf1⟩ := bcell hb1
 have hz1 := hb1.size
 try simp at hz1
 have hs1x0 : w.heap.size < w1.heap.size := by omega
 have g1x0 : w1.cell? ⟨w.heap.size, 0, none⟩ = some (.int .i64 10) := celB hc1
 have g1x1 : w1.cell? ⟨w.heap.size, 1, none⟩ = some (.bool false) := celB hc1
 go_wp2_with fail
 have hs1 : w.heap.size < w1.heap.size := by omega
 clear hc1 hf1
 have kc : (convert 145 9 (.slice (some ⟨w1.heap.size, 0, none⟩) 2 2)).run Tryo.prog (w1.alloc (.cells #[.int .u8 49, .int .u8 48] 5)).drew = .ok (.string ⟨#[49, 48]⟩) (w1.alloc (.cells #[.int .u8 49, .int .u8 48] 5)).drew := conv_bytes w1 49 48 (by omega) (by omega)
 go_region_held (fun x => x.cell? ⟨w.heap.size, 0, none⟩ = some (.int .i64 10) ∧ x.cell? ⟨w.heap.size, 1, none⟩ = some (.bool false)) (first | assumption | go_keep)
   (first | (go_at_call 101; first | (refine (code_digit 1 _ (by omega) (by omega)).mono ?_; rintro e w3 ⟨rfl, rfl⟩) | (refine (code_digit 0 _ (by omega) (by omega)).mono ?_; rintro e w3 ⟨rfl, rfl⟩)))
 all_goals (have hh := And.intro hs1 (by assumption : _ ∧ _))
 all_goals obtain ⟨_, hh1, hh2⟩ := hh
 all_goals go_wp2_with fail
 all_goals refine bodyPost_ret (v := .tuple #[.string ⟨#[77, 49, 48]⟩, .bool true]) (by simp [results, Tryz.results65, go_sem]; try rfl) rfl ⟨rfl, (baa (bt (ba _ _) hb1) _).drew⟩
theorem code_Text_11 (w : World) : Calls Tryo.prog 65 #[.agg #[.int .i64 11, .bool false]] w fun e w' => e = .returned (.tuple #[.string ⟨#[77, 49, 49]⟩, .bool true]) ∧ Below w.heap.size w w' := by
 go_enter Tryo.func65, Tryz.ntmps65
 go_wp2_with fail
 refine (code_Right_ok 11 _ (by omega) (by omega)).mono ?_
 rintro e w1 ⟨rfl, hb1⟩
 obtain ⟨hc1, hf1⟩ := bcell hb1
 have hz1 := hb1.size
 try simp at hz1
 have hs1x0 : w.heap.size < w1.heap.size := by omega
 have g1x0 : w1.cell? ⟨w.heap.size, 0, none⟩ = some (.int .i64 11) := celB hc1
 have g1x1 : w1.cell? ⟨w.heap.size, 1, none⟩ = some (.bool false) := celB hc1
 go_wp2_with fail
 have hs1 : w.heap.size < w1.heap.size := by omega
 clear hc1 hf1
 have kc : (convert 145 9 (.slice (some ⟨w1.heap.size, 0, none⟩) 2 2)).run Tryo.prog (w1.alloc (.cells #[.int .u8 49, .int .u8 49] 5)).drew = .ok (.string ⟨#[49, 49]⟩) (w1.alloc (.cells #[.int .u8 49, .int .u8 49] 5)).drew := conv_bytes w1 49 49 (by omega) (by omega)
 go_region_held (fun x => x.cell? ⟨w.heap.size, 0, none⟩ = some (.int .i64 11) ∧ x.cell? ⟨w.heap.size, 1, none⟩ = some (.bool false)) (first | assumption | go_keep)
   (first | (go_at_call 101; first | (refine (code_digit 1 _ (by omega) (by omega)).mono ?_; rintro e w3 ⟨rfl, rfl⟩) | (refine (code_digit 1 _ (by omega) (by omega)).mono ?_; rintro e w3 ⟨rfl, rfl⟩)))
 all_goals (have hh := And.intro hs1 (by assumption : _ ∧ _))
 all_goals obtain ⟨_, hh1, hh2⟩ := hh
 all_goals go_wp2_with fail
 all_goals refine bodyPost_ret (v := .tuple #[.string ⟨#[77, 49, 49]⟩, .bool true]) (by simp [results, Tryz.results65, go_sem]; try rfl) rfl ⟨rfl, (baa (bt (ba _ _) hb1) _).drew⟩
theorem code_Text_12 (w : World) : Calls Tryo.prog 65 #[.agg #[.int .i64 12, .bool false]] w fun e w' => e = .returned (.tuple #[.string ⟨#[77, 49, 50]⟩, .bool true]) ∧ Below w.heap.size w w' := by
 go_enter Tryo.func65, Tryz.ntmps65
 go_wp2_with fail
 refine (code_Right_ok 12 _ (by omega) (by omega)).mono ?_
 rintro e w1 ⟨rfl, hb1⟩
 obtain ⟨hc1, hf1⟩ := bcell hb1
 have hz1 := hb1.size
 try simp at hz1
 have hs1x0 : w.heap.size < w1.heap.size := by omega
 have g1x0 : w1.cell? ⟨w.heap.size, 0, none⟩ = some (.int .i64 12) := celB hc1
 have g1x1 : w1.cell? ⟨w.heap.size, 1, none⟩ = some (.bool false) := celB hc1
 go_wp2_with fail
 have hs1 : w.heap.size < w1.heap.size := by omega
 clear hc1 hf1
 have kc : (convert 145 9 (.slice (some ⟨w1.heap.size, 0, none⟩) 2 2)).run Tryo.prog (w1.alloc (.cells #[.int .u8 49, .int .u8 50] 5)).drew = .ok (.string ⟨#[49, 50]⟩) (w1.alloc (.cells #[.int .u8 49, .int .u8 50] 5)).drew := conv_bytes w1 49 50 (by omega) (by omega)
 go_region_held (fun x => x.cell? ⟨w.heap.size, 0, none⟩ = some (.int .i64 12) ∧ x.cell? ⟨w.heap.size, 1, none⟩ = some (.bool false)) (first | assumption | go_keep)
   (first | (go_at_call 101; first | (refine (code_digit 1 _ (by omega) (by omega)).mono ?_; rintro e w3 ⟨rfl, rfl⟩) | (refine (code_digit 2 _ (by omega) (by omega)).mono ?_; rintro e w3 ⟨rfl, rfl⟩)))
 all_goals (have hh := And.intro hs1 (by assumption : _ ∧ _))
 all_goals obtain ⟨_, hh1, hh2⟩ := hh
 all_goals go_wp2_with fail
 all_goals refine bodyPost_ret (v := .tuple #[.string ⟨#[77, 49, 50]⟩, .bool true]) (by simp [results, Tryz.results65, go_sem]; try rfl) rfl ⟨rfl, (baa (bt (ba _ _) hb1) _).drew⟩
theorem code_Text_5L (w : World) : Calls Tryo.prog 65 #[.agg #[.int .i64 5, .bool true]] w fun e w' => e = .returned (.tuple #[.string ⟨#[77, 48, 53, 76]⟩, .bool true]) ∧ Below w.heap.size w w' := by
 go_enter Tryo.func65, Tryz.ntmps65
 go_wp2_with fail
 refine (code_Right_leap _).mono ?_
 rintro e w1 ⟨rfl, hb1⟩
 obtain ⟨hc1, hf1⟩ := bcell hb1
 have hz1 := hb1.size
 try simp at hz1
 have hs1x0 : w.heap.size < w1.heap.size := by omega
 have g1x0 : w1.cell? ⟨w.heap.size, 0, none⟩ = some (.int .i64 5) := celB hc1
 have g1x1 : w1.cell? ⟨w.heap.size, 1, none⟩ = some (.bool true) := celB hc1
 go_wp2_with fail
 have hs1 : w.heap.size < w1.heap.size := by omega
 clear hc1 hf1
 have kc : (convert 145 9 (.slice (some ⟨w1.heap.size, 0, none⟩) 2 2)).run Tryo.prog (w1.alloc (.cells #[.int .u8 48, .int .u8 53] 5)).drew = .ok (.string ⟨#[48, 53]⟩) (w1.alloc (.cells #[.int .u8 48, .int .u8 53] 5)).drew := conv_bytes w1 48 53 (by omega) (by omega)
 go_region_held (fun x => x.cell? ⟨w.heap.size, 0, none⟩ = some (.int .i64 5) ∧ x.cell? ⟨w.heap.size, 1, none⟩ = some (.bool true)) (first | assumption | go_keep)
   (first | (go_at_call 101; first | (refine (code_digit 0 _ (by omega) (by omega)).mono ?_; rintro e w3 ⟨rfl, rfl⟩) | (refine (code_digit 5 _ (by omega) (by omega)).mono ?_; rintro e w3 ⟨rfl, rfl⟩)))
 all_goals (have hh := And.intro hs1 (by assumption : _ ∧ _))
 all_goals obtain ⟨_, hh1, hh2⟩ := hh
 all_goals go_wp2_with fail
 all_goals refine bodyPost_ret (v := .tuple #[.string ⟨#[77, 48, 53, 76]⟩, .bool true]) (by simp [results, Tryz.results65, go_sem]; try rfl) rfl ⟨rfl, (baa (bt (ba _ _) hb1) _).drew⟩
end
section
open Go.ChangeShapes Go.WideShapes Go.ChangeAt Go.RowKit
theorem code_Of_low (m : Int) (w : World) (h : m < 1) : Calls Tryo.prog 31 #[.bool false, .int .i64 m] w fun e w' => e = .returned (.tuple #[.agg #[.int .i64 0, .bool false], .bool false]) ∧ Below w.heap.size w w' := by
 have HR := Lib.hid (show Cal.right (m) false = false by rw [Cal.right, decide_eq_false_iff_not]; omega)
 go_enter Tryo.func31, Tryz.ntmps31
 go_wp2_with fail
 refine (code_Right_no (m) false _ HR.out).mono ?_
 rintro e w1 ⟨rfl, hb1⟩
 obtain ⟨hc1, hf1⟩ := bcell hb1
 have hz1 := hb1.size
 try simp at hz1
 have g1x0 : w1.cell? ⟨w.heap.size, 0, none⟩ = some (.int .i64 0) := celB hc1
 have g1x1 : w1.cell? ⟨w.heap.size, 1, none⟩ = some (.bool false) := celB hc1
 have g1x2 : w1.cell? ⟨w.heap.size + 1, 0, none⟩ = some (.int .i64 (m)) := celB hc1
 have g1x3 : w1.cell? ⟨w.heap.size + 1, 1, none⟩ = some (.bool false) := celB hc1
 go_wp2_with fail
 refine bodyPost_ret (v := .tuple #[.agg #[.int .i64 0, .bool false], .bool false]) (by simp [results, Tryz.results31, go_sem, g1x0, g1x1]) rfl ⟨rfl, ?_⟩
 first
  | exact bt (baa (ba _ _) _) hb1
  | exact bs (bs (bt (baa (ba _ _) _) hb1) (Nat.le_refl _) _) (Nat.le_refl _) _
theorem code_Of_high (m : Int) (w : World) (h : 12 < m) : Calls Tryo.prog 31 #[.bool false, .int .i64 m] w fun e w' => e = .returned (.tuple #[.agg #[.int .i64 0, .bool false], .bool false]) ∧ Below w.heap.size w w' := by
 have HR := Lib.hid (show Cal.right (m) false = false by rw [Cal.right, decide_eq_false_iff_not]; omega)
 go_enter Tryo.func31, Tryz.ntmps31
 go_wp2_with fail
 refine (code_Right_no (m) false _ HR.out).mono ?_
 rintro e w1 ⟨rfl, hb1⟩
 obtain ⟨hc1, hf1⟩ := bcell hb1
 have hz1 := hb1.size
 try simp at hz1
 have g1x0 : w1.cell? ⟨w.heap.size, 0, none⟩ = some (.int .i64 0) := celB hc1
 have g1x1 : w1.cell? ⟨w.heap.size, 1, none⟩ = some (.bool false) := celB hc1
 have g1x2 : w1.cell? ⟨w.heap.size + 1, 0, none⟩ = some (.int .i64 (m)) := celB hc1
 have g1x3 : w1.cell? ⟨w.heap.size + 1, 1, none⟩ = some (.bool false) := celB hc1
 go_wp2_with fail
 refine bodyPost_ret (v := .tuple #[.agg #[.int .i64 0, .bool false], .bool false]) (by simp [results, Tryz.results31, go_sem, g1x0, g1x1]) rfl ⟨rfl, ?_⟩
 first
  | exact bt (baa (ba _ _) _) hb1
  | exact bs (bs (bt (baa (ba _ _) _) hb1) (Nat.le_refl _) _) (Nat.le_refl _) _
theorem code_Of_in (m : Int) (w : World) (h : 1 ≤ m) (h2 : m ≤ 12) : Calls Tryo.prog 31 #[.bool false, .int .i64 m] w fun e w' => e = .returned (.tuple #[.agg #[.int .i64 (m), .bool false], .bool true]) ∧ Below w.heap.size w w' := by
 go_enter Tryo.func31, Tryz.ntmps31
 go_wp2_with fail
 refine (code_Right_ok (m) _ (by omega) (by omega)).mono ?_
 rintro e w1 ⟨rfl, hb1⟩
 obtain ⟨hc1, hf1⟩ := bcell hb1
 have hz1 := hb1.size
 try simp at hz1
 have g1x0 : w1.cell? ⟨w.heap.size, 0, none⟩ = some (.int .i64 0) := celB hc1
 have g1x1 : w1.cell? ⟨w.heap.size, 1, none⟩ = some (.bool false) := celB hc1
 have g1x2 : w1.cell? ⟨w.heap.size + 1, 0, none⟩ = some (.int .i64 (m)) := celB hc1
 have g1x3 : w1.cell? ⟨w.heap.size + 1, 1, none⟩ = some (.bool false) := celB hc1
 go_wp2_with fail
 refine bodyPost_ret (v := .tuple #[.agg #[.int .i64 (m), .bool false], .bool true]) (by simp [results, Tryz.results31, go_sem, g1x0, g1x1]) rfl ⟨rfl, ?_⟩
 first
  | exact bt (baa (ba _ _) _) hb1
  | exact bs (bs (bt (baa (ba _ _) _) hb1) (Nat.le_refl _) _) (Nat.le_refl _) _
theorem code_Of_llow (m : Int) (w : World) (h : m < 1) : Calls Tryo.prog 31 #[.bool true, .int .i64 m] w fun e w' => e = .returned (.tuple #[.agg #[.int .i64 0, .bool false], .bool false]) ∧ Below w.heap.size w w' := by
 have HR := Lib.hid (show Cal.right (m) false = false by rw [Cal.right, decide_eq_false_iff_not]; omega)
 go_enter Tryo.func31, Tryz.ntmps31
 go_wp2_with fail
 refine (code_Right_no (m) false _ HR.out).mono ?_
 rintro e w1 ⟨rfl, hb1⟩
 obtain ⟨hc1, hf1⟩ := bcell hb1
 have hz1 := hb1.size
 try simp at hz1
 have g1x0 : w1.cell? ⟨w.heap.size, 0, none⟩ = some (.int .i64 0) := celB hc1
 have g1x1 : w1.cell? ⟨w.heap.size, 1, none⟩ = some (.bool false) := celB hc1
 have g1x2 : w1.cell? ⟨w.heap.size + 1, 0, none⟩ = some (.int .i64 (m)) := celB hc1
 have g1x3 : w1.cell? ⟨w.heap.size + 1, 1, none⟩ = some (.bool false) := celB hc1
 go_wp2_with fail
 refine bodyPost_ret (v := .tuple #[.agg #[.int .i64 0, .bool false], .bool false]) (by simp [results, Tryz.results31, go_sem, g1x0, g1x1]) rfl ⟨rfl, ?_⟩
 first
  | exact bt (baa (ba _ _) _) hb1
  | exact bs (bs (bt (baa (ba _ _) _) hb1) (Nat.le_refl _) _) (Nat.le_refl _) _
theorem code_Of_lin (m : Int) (w : World) (h : 1 ≤ m) (h2 : m ≤ 5) : Calls Tryo.prog 31 #[.bool true, .int .i64 m] w fun e w' => e = .returned (.tuple #[.agg #[.int .i64 (m), .bool false], .bool true]) ∧ Below w.heap.size w w' := by
 go_enter Tryo.func31, Tryz.ntmps31
 go_wp2_with fail
 refine (code_Right_ok (m) _ (by omega) (by omega)).mono ?_
 rintro e w1 ⟨rfl, hb1⟩
 obtain ⟨hc1, hf1⟩ := bcell hb1
 have hz1 := hb1.size
 try simp at hz1
 have g1x0 : w1.cell? ⟨w.heap.size, 0, none⟩ = some (.int .i64 0) := celB hc1
 have g1x1 : w1.cell? ⟨w.heap.size, 1, none⟩ = some (.bool false) := celB hc1
 have g1x2 : w1.cell? ⟨w.heap.size + 1, 0, none⟩ = some (.int .i64 (m)) := celB hc1
 have g1x3 : w1.cell? ⟨w.heap.size + 1, 1, none⟩ = some (.bool false) := celB hc1
 go_wp2_with fail
 refine bodyPost_ret (v := .tuple #[.agg #[.int .i64 (m), .bool false], .bool true]) (by simp [results, Tryz.results31, go_sem, g1x0, g1x1]) rfl ⟨rfl, ?_⟩
 first
  | exact bt (baa (ba _ _) _) hb1
  | exact bs (bs (bt (baa (ba _ _) _) hb1) (Nat.le_refl _) _) (Nat.le_refl _) _
theorem code_Of_lup (m : Int) (w : World) (h : 6 < m) (h2 : m ≤ 13) : Calls Tryo.prog 31 #[.bool true, .int .i64 m] w fun e w' => e = .returned (.tuple #[.agg #[.int .i64 (m - 1), .bool false], .bool true]) ∧ Below w.heap.size w w' := by
 have e6 : (m == 6) = false := by rw [beq_eq_false_iff_ne]; omega
 go_enter Tryo.func31, Tryz.ntmps31
 go_wp2_with fail
 refine (code_Right_ok (m - 1) _ (by omega) (by omega)).mono ?_
 rintro e w1 ⟨rfl, hb1⟩
 obtain ⟨hc1, hf1⟩ := bcell hb1
 have hz1 := hb1.size
 try simp at hz1
 have g1x0 : w1.cell? ⟨w.heap.size, 0, none⟩ = some (.int .i64 0) := celB hc1
 have g1x1 : w1.cell? ⟨w.heap.size, 1, none⟩ = some (.bool false) := celB hc1
 have g1x2 : w1.cell? ⟨w.heap.size + 1, 0, none⟩ = some (.int .i64 (m - 1)) := celB hc1
 have g1x3 : w1.cell? ⟨w.heap.size + 1, 1, none⟩ = some (.bool false) := celB hc1
 go_wp2_with fail
 refine bodyPost_ret (v := .tuple #[.agg #[.int .i64 (m - 1), .bool false], .bool true]) (by simp [results, Tryz.results31, go_sem, g1x0, g1x1]) rfl ⟨rfl, ?_⟩
 first
  | exact bt (baa (ba _ _) _) hb1
  | exact bs (bs (bt (baa (ba _ _) _) hb1) (Nat.le_refl _) _) (Nat.le_refl _) _
theorem code_Of_lhigh (m : Int) (w : World) (h : 13 < m) (h2 : m ≤ 9223372036854775807) : Calls Tryo.prog 31 #[.bool true, .int .i64 m] w fun e w' => e = .returned (.tuple #[.agg #[.int .i64 0, .bool false], .bool false]) ∧ Below w.heap.size w w' := by
 have e6 : (m == 6) = false := by rw [beq_eq_false_iff_ne]; omega
 have HR := Lib.hid (show Cal.right (m - 1) false = false by rw [Cal.right, decide_eq_false_iff_not]; omega)
 go_enter Tryo.func31, Tryz.ntmps31
 go_wp2_with fail
 refine (code_Right_no (m - 1) false _ HR.out).mono ?_
 rintro e w1 ⟨rfl, hb1⟩
 obtain ⟨hc1, hf1⟩ := bcell hb1
 have hz1 := hb1.size
 try simp at hz1
 have g1x0 : w1.cell? ⟨w.heap.size, 0, none⟩ = some (.int .i64 0) := celB hc1
 have g1x1 : w1.cell? ⟨w.heap.size, 1, none⟩ = some (.bool false) := celB hc1
 have g1x2 : w1.cell? ⟨w.heap.size + 1, 0, none⟩ = some (.int .i64 (m - 1)) := celB hc1
 have g1x3 : w1.cell? ⟨w.heap.size + 1, 1, none⟩ = some (.bool false) := celB hc1
 go_wp2_with fail
 refine bodyPost_ret (v := .tuple #[.agg #[.int .i64 0, .bool false], .bool false]) (by simp [results, Tryz.results31, go_sem, g1x0, g1x1]) rfl ⟨rfl, ?_⟩
 first
  | exact bt (baa (ba _ _) _) hb1
  | exact bs (bs (bt (baa (ba _ _) _) hb1) (Nat.le_refl _) _) (Nat.le_refl _) _
theorem code_Of_leap (w : World) : Calls Tryo.prog 31 #[.bool true, .int .i64 6] w fun e w' => e = .returned (.tuple #[.agg #[.int .i64 5, .bool true], .bool true]) ∧ Below w.heap.size w w' := by
 go_enter Tryo.func31, Tryz.ntmps31
 go_wp2_with fail
 refine (code_Right_leap _).mono ?_
 rintro e w1 ⟨rfl, hb1⟩
 obtain ⟨hc1, hf1⟩ := bcell hb1
 have hz1 := hb1.size
 try simp at hz1
 have g1x0 : w1.cell? ⟨w.heap.size, 0, none⟩ = some (.int .i64 0) := celB hc1
 have g1x1 : w1.cell? ⟨w.heap.size, 1, none⟩ = some (.bool false) := celB hc1
 have g1x2 : w1.cell? ⟨w.heap.size + 1, 0, none⟩ = some (.int .i64 5) := celB hc1
 have g1x3 : w1.cell? ⟨w.heap.size + 1, 1, none⟩ = some (.bool true) := celB hc1
 go_wp2_with fail
 refine bodyPost_ret (v := .tuple #[.agg #[.int .i64 5, .bool true], .bool true]) (by simp [results, Tryz.results31, go_sem, g1x0, g1x1]) rfl ⟨rfl, ?_⟩
 first
  | exact bt (baa (ba _ _) _) hb1
  | exact bs (bs (bt (baa (ba _ _) _) hb1) (Nat.le_refl _) _) (Nat.le_refl _) _
end
section
open Go.ChangeShapes Go.WideShapes Go.ChangeAt Go.RowKit
theorem code_Place_no_false (n : Int) (l : Bool) (w : World) (h : Cal.right n l = false) : Calls Tryo.prog 136 #[.bool false, .agg #[.int .i64 n, .bool l]] w fun e w' => e = .returned (.tuple #[.int .i64 0, .bool false]) ∧ Below w.heap.size w w' := by
 go_enter Tryo.func136, Tryz.ntmps136
 go_wp2_with fail
 refine (code_Right_no n l _ h).mono ?_
 rintro e w1 ⟨rfl, hb1⟩
 obtain ⟨hc1, hf1⟩ := bcell hb1
 have hz1 := hb1.size
 try simp at hz1
 have g1x0 : w1.cell? ⟨w.heap.size, 0, none⟩ = some (.int .i64 n) := celB hc1
 have g1x1 : w1.cell? ⟨w.heap.size, 1, none⟩ = some (.bool l) := celB hc1
 go_wp2_with fail
 go_ret2
 exact ⟨rfl, bt (ba _ _) hb1⟩
theorem code_Place_no_true (n : Int) (l : Bool) (w : World) (h : Cal.right n l = false) : Calls Tryo.prog 136 #[.bool true, .agg #[.int .i64 n, .bool l]] w fun e w' => e = .returned (.tuple #[.int .i64 0, .bool false]) ∧ Below w.heap.size w w' := by
 go_enter Tryo.func136, Tryz.ntmps136
 go_wp2_with fail
 refine (code_Right_no n l _ h).mono ?_
 rintro e w1 ⟨rfl, hb1⟩
 obtain ⟨hc1, hf1⟩ := bcell hb1
 have hz1 := hb1.size
 try simp at hz1
 have g1x0 : w1.cell? ⟨w.heap.size, 0, none⟩ = some (.int .i64 n) := celB hc1
 have g1x1 : w1.cell? ⟨w.heap.size, 1, none⟩ = some (.bool l) := celB hc1
 go_wp2_with fail
 go_ret2
 exact ⟨rfl, bt (ba _ _) hb1⟩
theorem code_Place_plain (n : Int) (w : World) (h1 : 1 ≤ n) (h2 : n ≤ 12) : Calls Tryo.prog 136 #[.bool false, .agg #[.int .i64 n, .bool false]] w fun e w' => e = .returned (.tuple #[.int .i64 n, .bool true]) ∧ Below w.heap.size w w' := by
 go_enter Tryo.func136, Tryz.ntmps136
 go_wp2_with fail
 refine (code_Right_ok n _ h1 h2).mono ?_
 rintro e w1 ⟨rfl, hb1⟩
 obtain ⟨hc1, hf1⟩ := bcell hb1
 have hz1 := hb1.size
 try simp at hz1
 have g1x0 : w1.cell? ⟨w.heap.size, 0, none⟩ = some (.int .i64 n) := celB hc1
 have g1x1 : w1.cell? ⟨w.heap.size, 1, none⟩ = some (.bool false) := celB hc1
 go_wp2_with fail
 go_ret2
 exact ⟨rfl, bt (ba _ _) hb1⟩
theorem code_Place_low (n : Int) (w : World) (h1 : 1 ≤ n) (h2 : n ≤ 5) : Calls Tryo.prog 136 #[.bool true, .agg #[.int .i64 n, .bool false]] w fun e w' => e = .returned (.tuple #[.int .i64 n, .bool true]) ∧ Below w.heap.size w w' := by
 go_enter Tryo.func136, Tryz.ntmps136
 go_wp2_with fail
 refine (code_Right_ok n _ h1 (by omega)).mono ?_
 rintro e w1 ⟨rfl, hb1⟩
 obtain ⟨hc1, hf1⟩ := bcell hb1
 have hz1 := hb1.size
 try simp at hz1
 have g1x0 : w1.cell? ⟨w.heap.size, 0, none⟩ = some (.int .i64 n) := celB hc1
 have g1x1 : w1.cell? ⟨w.heap.size, 1, none⟩ = some (.bool false) := celB hc1
 go_wp2_with fail
 go_ret2
 exact ⟨rfl, bt (ba _ _) hb1⟩
theorem code_Place_up (n : Int) (w : World) (h1 : 5 < n) (h2 : n ≤ 12) : Calls Tryo.prog 136 #[.bool true, .agg #[.int .i64 n, .bool false]] w fun e w' => e = .returned (.tuple #[.int .i64 (n + 1), .bool true]) ∧ Below w.heap.size w w' := by
 go_enter Tryo.func136, Tryz.ntmps136
 go_wp2_with fail
 refine (code_Right_ok n _ (by omega) h2).mono ?_
 rintro e w1 ⟨rfl, hb1⟩
 obtain ⟨hc1, hf1⟩ := bcell hb1
 have hz1 := hb1.size
 try simp at hz1
 have g1x0 : w1.cell? ⟨w.heap.size, 0, none⟩ = some (.int .i64 n) := celB hc1
 have g1x1 : w1.cell? ⟨w.heap.size, 1, none⟩ = some (.bool false) := celB hc1
 go_wp2_with fail
 go_ret2
 exact ⟨rfl, bt (ba _ _) hb1⟩
theorem code_Place_leap (w : World)  : Calls Tryo.prog 136 #[.bool true, .agg #[.int .i64 5, .bool true]] w fun e w' => e = .returned (.tuple #[.int .i64 6, .bool true]) ∧ Below w.heap.size w w' := by
 go_enter Tryo.func136, Tryz.ntmps136
 go_wp2_with fail
 refine (code_Right_leap _).mono ?_
 rintro e w1 ⟨rfl, hb1⟩
 obtain ⟨hc1, hf1⟩ := bcell hb1
 have hz1 := hb1.size
 try simp at hz1
 have g1x0 : w1.cell? ⟨w.heap.size, 0, none⟩ = some (.int .i64 5) := celB hc1
 have g1x1 : w1.cell? ⟨w.heap.size, 1, none⟩ = some (.bool true) := celB hc1
 go_wp2_with fail
 go_ret2
 exact ⟨rfl, bt (ba _ _) hb1⟩
theorem code_Place_lone (w : World)  : Calls Tryo.prog 136 #[.bool false, .agg #[.int .i64 5, .bool true]] w fun e w' => e = .returned (.tuple #[.int .i64 0, .bool false]) ∧ Below w.heap.size w w' := by
 go_enter Tryo.func136, Tryz.ntmps136
 go_wp2_with fail
 refine (code_Right_leap _).mono ?_
 rintro e w1 ⟨rfl, hb1⟩
 obtain ⟨hc1, hf1⟩ := bcell hb1
 have hz1 := hb1.size
 try simp at hz1
 have g1x0 : w1.cell? ⟨w.heap.size, 0, none⟩ = some (.int .i64 5) := celB hc1
 have g1x1 : w1.cell? ⟨w.heap.size, 1, none⟩ = some (.bool true) := celB hc1
 go_wp2_with fail
 go_ret2
 exact ⟨rfl, bt (ba _ _) hb1⟩
end
section
open Go.ChangeShapes Go.WideShapes Go.ChangeAt Go.RowKit
def Cal.most (lp : Bool) : Int := if lp then 13 else 12
def Cal.ofOk (lp : Bool) (m : Int) : Bool := decide (1 ≤ m) && decide (m ≤ Cal.most lp)
def Cal.ofN (lp : Bool) (m : Int) : Int := if Cal.ofOk lp m then (if lp && decide (6 ≤ m) then m - 1 else m) else 0
def Cal.ofL (lp : Bool) (m : Int) : Bool := Cal.ofOk lp m && (lp && m == 6)
def Cal.plOk (lp : Bool) (n : Int) (l : Bool) : Bool := Cal.right n l && !(l && !lp)
def Cal.plV (lp : Bool) (n : Int) (l : Bool) : Int := if Cal.plOk lp n l then (if lp && (l || decide (5 < n)) then n + 1 else n) else 0
theorem right_cases (n : Int) (l : Bool) (h : Cal.right n l = true) : (1 ≤ n ∧ n ≤ 12 ∧ l = false) ∨ (n = 5 ∧ l = true) := by
 rw [Cal.right, decide_eq_true_iff] at h
 cases l
 ·exact .inl ⟨h.1, h.2.1, rfl⟩
 ·rcases h.2.2 with h3 | h3
  ·cases h3
  ·exact .inr ⟨h3, rfl⟩
theorem code_Of_any (lp : Bool) (m : Int) (w : World) (hm : m ≤ 9223372036854775807) : Calls Tryo.prog 31 #[.bool lp, .int .i64 m] w fun e w' => e = .returned (.tuple #[.agg #[.int .i64 (Cal.ofN lp m), .bool (Cal.ofL lp m)], .bool (Cal.ofOk lp m)]) ∧ Below w.heap.size w w' := by
 cases lp
 ·rcases (show m < 1 ∨ 12 < m ∨ (1 ≤ m ∧ m ≤ 12) by omega) with c | c | ⟨c1, c2⟩
  ·have e : Cal.ofOk false m = false := by simp [Cal.ofOk, Cal.most]; omega
   simp only [Cal.ofN, Cal.ofL, e, Bool.false_and, Bool.false_eq_true, if_false]
   exact code_Of_low m w c
  ·have e : Cal.ofOk false m = false := by simp [Cal.ofOk, Cal.most]; omega
   simp only [Cal.ofN, Cal.ofL, e, Bool.false_and, Bool.false_eq_true, if_false]
   exact code_Of_high m w c
  ·have e : Cal.ofOk false m = true := by simp [Cal.ofOk, Cal.most, c1, c2]
   simp only [Cal.ofN, Cal.ofL, e, Bool.false_and, Bool.and_false, Bool.false_eq_true, if_false, if_true]
   exact code_Of_in m w c1 c2
 ·rcases (show m < 1 ∨ 13 < m ∨ (1 ≤ m ∧ m ≤ 5) ∨ m = 6 ∨ (6 < m ∧ m ≤ 13) by omega) with c | c | ⟨c1, c2⟩ | rfl | ⟨c1, c2⟩
  ·have e : Cal.ofOk true m = false := by simp [Cal.ofOk, Cal.most]; omega
   simp only [Cal.ofN, Cal.ofL, e, Bool.false_and, Bool.false_eq_true, if_false]
   exact code_Of_llow m w c
  ·have e : Cal.ofOk true m = false := by simp [Cal.ofOk, Cal.most]; omega
   simp only [Cal.ofN, Cal.ofL, e, Bool.false_and, Bool.false_eq_true, if_false]
   exact code_Of_lhigh m w c hm
  ·have e : Cal.ofOk true m = true := by simp [Cal.ofOk, Cal.most, c1]; omega
   have e2 : decide (6 ≤ m) = false := by simp; omega
   have e3 : (m == 6) = false := by rw [beq_eq_false_iff_ne]; omega
   simp only [Cal.ofN, Cal.ofL, e, e2, e3, Bool.and_false, Bool.false_eq_true, if_false, if_true]
   exact code_Of_lin m w c1 c2
  ·exact code_Of_leap w
  ·have e : Cal.ofOk true m = true := by simp [Cal.ofOk, Cal.most, c2]; omega
   have e2 : decide (6 ≤ m) = true := by simp; omega
   have e3 : (m == 6) = false := by rw [beq_eq_false_iff_ne]; omega
   simp only [Cal.ofN, Cal.ofL, e, e2, e3, Bool.and_false, Bool.and_true, if_true]
   exact code_Of_lup m w c1 c2
theorem plOk_no (lp : Bool) (n : Int) (l : Bool) (h : Cal.right n l = false) : Cal.plOk lp n l = false ∧ Cal.plV lp n l = 0 := by simp [Cal.plV, Cal.plOk, h]
theorem code_Place_any (lp : Bool) (n : Int) (l : Bool) (w : World) : Calls Tryo.prog 136 #[.bool lp, .agg #[.int .i64 n, .bool l]] w fun e w' => e = .returned (.tuple #[.int .i64 (Cal.plV lp n l), .bool (Cal.plOk lp n l)]) ∧ Below w.heap.size w w' := by
 cases h : Cal.right n l
 ·rw [(plOk_no lp n l h).1, (plOk_no lp n l h).2]
  cases lp
  ·exact code_Place_no_false n l w h
  ·exact code_Place_no_true n l w h
 ·rcases right_cases n l h with ⟨h1, h2, rfl⟩ | ⟨rfl, rfl⟩
  ·have e : ∀ lp, Cal.plOk lp n false = true := fun lp => by simp [Cal.plOk, h]
   cases lp
   ·simp only [Cal.plV, e, Bool.false_and, Bool.false_eq_true, if_false, if_true]
    exact code_Place_plain n w h1 h2
   ·by_cases c : 5 < n
    ·simp only [Cal.plV, e, Bool.false_or, c, decide_true, Bool.and_true, if_true]
     exact code_Place_up n w c h2
    ·simp only [Cal.plV, e, Bool.false_or, c, decide_false, Bool.and_false, Bool.false_eq_true, if_false, if_true]
     exact code_Place_low n w h1 (by omega)
  ·cases lp
   ·exact code_Place_lone w
   ·exact code_Place_leap w
open Go.ChangeShapes Go.WideShapes Go.ChangeAt Go.RowKit
def codesTo (lp : Bool) : Nat → List (Int × Bool)
 | 0 => []
 | k + 1 => codesTo lp k ++ (((k : Int) + 1, false) :: if k = 4 ∧ lp = true then [(5, true)] else [])
def cells2 (xs : List (Int × Bool)) : List Value := xs.flatMap fun c => [.int .i64 c.1, .bool c.2]
theorem cells2_app (xs ys : List (Int × Bool)) : cells2 (xs ++ ys) = cells2 xs ++ cells2 ys := by simp [cells2]
theorem cells2_at : ∀ (xs : List (Int × Bool)) (i : Nat) c, xs[i]? = some c → (cells2 xs)[i * 2]? = some (.int .i64 c.1) ∧ (cells2 xs)[i * 2 + 1]? = some (.bool c.2)
 | [], i, c, h => by simp at h
 | x :: xs, 0, c, h => by
  simp only [List.getElem?_cons_zero, Option.some.injEq] at h
  subst h
  exact ⟨rfl, rfl⟩
 | x :: xs, i + 1, c, h => by
  have ih := cells2_at xs i c (by simpa using h)
  show (_ :: _ :: cells2 xs)[(i + 1) * 2]? = _ ∧ (_ :: _ :: cells2 xs)[(i + 1) * 2 + 1]? = _
  rw [show (i + 1) * 2 = i * 2 + 1 + 1 by omega, show i * 2 + 1 + 1 + 1 = i * 2 + 1 + 1 + 1 from rfl]
  simpa using ih
theorem codesTo_len (lp : Bool) : ∀ k, k ≤ (codesTo lp k).length ∧ (codesTo lp k).length ≤ 2 * k
 | 0 => by simp [codesTo]
 | k + 1 => by
  have ih := codesTo_len lp k
  simp only [codesTo, List.length_append, List.length_cons]
  split <;> simp <;> omega
def Codes (w : World) (B : Nat) (v : Value) (xs : List (Int × Bool)) : Prop := ∃ g cap, v = .slice (some ⟨g, 0, none⟩) xs.length cap ∧ xs.length ≤ cap ∧ B ≤ g ∧ g < w.heap.size ∧ ∀ (j : Nat) c, xs[j]? = some c → w.cell? ⟨g, j * 2, none⟩ = some (.int .i64 c.1) ∧ w.cell? ⟨g, j * 2 + 1, none⟩ = some (.bool c.2)
theorem codes_of_own {w : World} {B n e : Nat} {v : Value} {xs : List (Int × Bool)} (h : w.ownsRow B e 2 v n (cells2 xs)) (hn : n = xs.length) (h0 : 0 < n) : Codes w B v xs := by
 obtain ⟨g, cap, rfl, hle, hlt⟩ := h.form h0
 have hc := fun j hj => h.cellAt (g := g) (cap := cap) j hj
 obtain ⟨_, h2⟩ := h
 rcases h2 with ⟨h, _⟩ | ⟨g', cap', cur, hv, h1, h2, h3, h4, h5, h6⟩
 ·cases h
 ·simp only [Value.slice.injEq, Option.some.injEq, Addr.mk.injEq, and_true, true_and] at hv
  obtain ⟨rfl, rfl⟩ := hv
  subst hn
  refine ⟨_, _, rfl, h3, h1, (Array.getElem?_eq_some_iff.1 h2).1, fun j c hj => ?_⟩
  have hl := (List.getElem?_eq_some_iff.1 hj).1
  obtain ⟨e1, e2⟩ := cells2_at xs j c hj
  exact ⟨(hc (j * 2) (by omega)).trans e1, (hc (j * 2 + 1) (by omega)).trans e2⟩
theorem A_infoCode : (Tryo.prog.info? 30).map (fun i => (i.zero, i.size, i.bytes)) = some (some (.agg #[.int .i64 0, .bool false]), 2, 16) := by kernel_rfl
theorem news2 (w : World) (n : Int) (l : Bool) (t : TypeId) : ∀ j u, [Value.int .i64 n, .bool l][j]? = some u → (w.alloc (.cells #[.int .i64 n, .bool l] t)).cell? ((⟨w.heap.size, 0, none⟩ : Addr).add j) = some u :=
 news_at w #[.int .i64 n, .bool l] t w.heap.size rfl
theorem one2 (n : Int) (l : Bool) : ∀ u ∈ [Value.int .i64 n, .bool l], u.oneCell' = true := by
 intro u hu
 simp only [List.mem_cons, List.not_mem_nil, or_false] at hu
 rcases hu with rfl | rfl <;> rfl
theorem grow_own {w a b : World} {e s n : Nat} {v : Value} {xs : List Value} (h : Below w.heap.size w a) (ho : a.ownsRow w.heap.size e s v n xs) (hg : (a).grownBy b v.ownBlock) : Below w.heap.size w b := h.grown hg h.size (fun k hk => (ho.lt k hk).1)
theorem ref9_codes (lp : Bool) (w : World) : Calls Tryo.prog 117 #[.bool lp] w fun e w' => ∃ v, e = .returned v ∧ Codes w' w.heap.size v (codesTo lp 12) ∧ Below w.heap.size w w' := by
 obtain ⟨i0, hi, hz0, hz1, hz2⟩ := info_parts A_infoCode
 go_enter Tryo.func117, Tryz.ntmps117
 go_wp2_with fail
 go_loopw [3, 4] (fun v n wr => ∃ k : Nat, k ≤ 12 ∧ n = .int .i64 ((k : Int) + 1) ∧ wr.ownsRow w.heap.size 30 2 v (codesTo lp k).length (cells2 (codesTo lp k)) ∧ Below w.heap.size w wr) (fun _ n _ => 13 - (intOf n).toNat)
 case atStart => exact ⟨0, by omega, rfl, World.ownsRow_nil _ _ _ _, Below.refl _ _⟩
 case round =>
  obtain ⟨k, hk, rfl, hown, hB⟩ := hrel
  have hlen := codesTo_len lp k
  have hsz := hB.size
  obtain ⟨L, hL⟩ : ∃ L, (codesTo lp k).length = L := ⟨_, rfl⟩
  rw [hL] at hown hlen
  obtain ⟨C, hC⟩ : ∃ C, cells2 (codesTo lp k) = C := ⟨_, rfl⟩
  rw [hC] at hown
  by_cases hlt : k < 12
  ·have HR : Hid (∀ (v : Value) (w' : World), (k = 4 ∧ lp = true → False) → w'.ownsRow w.heap.size 30 2 v (L + 1) (C ++ [.int .i64 ((k : Int) + 1), .bool false]) → w'.ownsRow w.heap.size 30 2 v (codesTo lp (k + 1)).length (cells2 (codesTo lp (k + 1)))) := fun v w' hn h => by
    have e : codesTo lp (k + 1) = codesTo lp k ++ [((k : Int) + 1, false)] := by simp only [codesTo]; rw [if_neg hn]
    rw [e, cells2_app, hC, List.length_append, hL]
    exact h
   have HR2 : Hid (∀ (v : Value) (w' : World), k = 4 ∧ lp = true → w'.ownsRow w.heap.size 30 2 v (L + 1 + 1) (C ++ [.int .i64 ((k : Int) + 1), .bool false] ++ [.int .i64 5, .bool true]) → w'.ownsRow w.heap.size 30 2 v (codesTo lp (k + 1)).length (cells2 (codesTo lp (k + 1)))) := fun v w' hn h => by
    have e : codesTo lp (k + 1) = codesTo lp k ++ [((k : Int) + 1, false), (5, true)] := by simp only [codesTo]; rw [if_pos hn]
    rw [e, cells2_app, hC, List.length_append, hL]
    have e2 : cells2 [((k : Int) + 1, false), (5, true)] = [.int .i64 ((k : Int) + 1), .bool false] ++ [.int .i64 5, .bool true] := rfl
    rw [e2, ← List.append_assoc]
    exact h
   have HN := Lib.hid hlt
   clear hL hC
   by_cases h5 : k = 4 ∧ lp = true
   ·have HH := Lib.hid h5
    obtain ⟨rfl, rfl⟩ := h5
    go_wp2_with (first | (at_builtin; refine wpList_append_own _ rfl (.tmp 9) (.tmp 12) _ rfl w.heap.size 30 i0 (.agg #[.int .i64 0, .bool false]) 2 16 (und_o Tryz.underlying164) hi hz0 hz1 hz2 rfl (by decide) _ (L) (C) rfl (hown.alloc _) ⟨wr.heap.size, 0, none⟩ 1 1 [.int .i64 (((4 : Nat) : Int) + 1), .bool false] rfl rfl (news2 _ _ _ _) (one2 _ _) (by simp only [maxLen]; omega) (by omega) (by simp; omega) ?_; intro v1 w1 hown1 hgrow1 _) | (at_builtin; refine wpList_append_own _ rfl (.tmp 19) (.tmp 21) _ rfl w.heap.size 30 i0 (.agg #[.int .i64 0, .bool false]) 2 16 (und_o Tryz.underlying164) hi hz0 hz1 hz2 rfl (by decide) _ (L + 1) (C ++ [.int .i64 (((4 : Nat) : Int) + 1), .bool false]) rfl (hown1.alloc _) ⟨w1.heap.size, 0, none⟩ 1 1 [.int .i64 (5), .bool true] rfl rfl (news2 _ _ _ _) (one2 _ _) (by simp only [maxLen]; omega) (by omega) (by have := hgrow1.size; simp at this ⊢; omega) ?_; intro v2 w2 hown2 hgrow2 _))
    go_roundw
    case rel => exact ⟨4 + 1, by omega, by go_num, HR2.out _ _ HH.out hown2, grow_own (baa (grow_own (baa hB _) (hown.alloc _) hgrow1) _) (hown1.alloc _) hgrow2⟩
    case measure => simp [intOf]
   ·have HH := Lib.hid h5
    have h6 : (((k : Int) + 1 == 5) = false) ∨ (lp = false) := by
     by_cases hk4 : k = 4
     ·right; cases lp <;> simp_all
     ·left; rw [beq_eq_false_iff_ne]; omega
    clear h5
    rcases h6 with h6 | rfl
    all_goals
     go_wp2_with ((at_builtin; refine wpList_append_own _ rfl (.tmp 9) (.tmp 12) _ rfl w.heap.size 30 i0 (.agg #[.int .i64 0, .bool false]) 2 16 (und_o Tryz.underlying164) hi hz0 hz1 hz2 rfl (by decide) _ (L) (C) rfl (hown.alloc _) ⟨wr.heap.size, 0, none⟩ 1 1 [.int .i64 ((k : Int) + 1), .bool false] rfl rfl (news2 _ _ _ _) (one2 _ _) (by simp only [maxLen]; omega) (by omega) (by simp; omega) ?_; intro v1 w1 hown1 hgrow1 _))
    all_goals go_roundw
    all_goals first
     | exact ⟨k + 1, by omega, by go_num, HR.out _ _ (fun h => HH.out h) hown1, grow_own (baa hB _) (hown.alloc _) hgrow1⟩
     | (simp [intOf]; omega)
  ·obtain rfl : k = 12 := by omega
   have HLC := Lib.hid (And.intro hL hC)
   clear hL hC
   go_wp2_with fail
   go_ret
   exact ⟨_, rfl, codes_of_own (HLC.out.2 ▸ HLC.out.1 ▸ hown) rfl (by rw [HLC.out.1]; omega), hB⟩
open Go.ChangeShapes Go.WideShapes Go.ChangeAt Go.RowKit
theorem ret_ib {a b : Int} {x y : Bool} (h : a = b) (h' : x = y) : Ending.returned (.tuple #[.int .i64 a, .bool x]) = .returned (.tuple #[.int .i64 b, .bool y]) := by rw [h, h']
theorem codes_len (lp : Bool) : (codesTo lp 12).length = if lp then 13 else 12 := by cases lp <;> decide
def codesOk (lp : Bool) : Bool := (List.range (codesTo lp 12).length).all fun j => (codesTo lp 12)[j]? == some (Cal.ofN lp ((j : Int) + 1), Cal.ofL lp ((j : Int) + 1)) && (Cal.plOk lp (Cal.ofN lp ((j : Int) + 1)) (Cal.ofL lp ((j : Int) + 1)) && Cal.plV lp (Cal.ofN lp ((j : Int) + 1)) (Cal.ofL lp ((j : Int) + 1)) == (j : Int) + 1)
theorem codesOk_ok (lp : Bool) : codesOk lp = true := by cases lp <;> decide +kernel
theorem codes_at (lp : Bool) (j : Nat) (hj : j < (codesTo lp 12).length) : (codesTo lp 12)[j]? = some (Cal.ofN lp ((j : Int) + 1), Cal.ofL lp ((j : Int) + 1)) ∧ Cal.plOk lp (Cal.ofN lp ((j : Int) + 1)) (Cal.ofL lp ((j : Int) + 1)) = true ∧ Cal.plV lp (Cal.ofN lp ((j : Int) + 1)) (Cal.ofL lp ((j : Int) + 1)) = (j : Int) + 1 := by
 have := List.all_eq_true.1 (codesOk_ok lp) j (List.mem_range.2 hj)
 simp only [Bool.and_eq_true, beq_iff_eq] at this
 exact this
theorem codes_place (lp : Bool) (j : Nat) (n : Int) (l : Bool) (h : (codesTo lp 12)[j]? = some (n, l)) : Cal.plOk lp n l = true ∧ Cal.plV lp n l = (j : Int) + 1 := by
 have h2 := codes_at lp j (List.getElem?_eq_some_iff.1 h).1
 rw [h2.1] at h
 simp only [Option.some.injEq, Prod.mk.injEq] at h
 rw [h.1, h.2] at h2
 exact h2.2
theorem codes_there (lp : Bool) (n : Int) (l : Bool) (h : Cal.plOk lp n l = true) : ∃ j, j < (codesTo lp 12).length ∧ (codesTo lp 12)[j]? = some (n, l) := by
 have hr : Cal.right n l = true := by
  cases c : Cal.right n l
  ·rw [(plOk_no lp n l c).1] at h; exact h
  ·rfl
 rcases right_cases n l hr with ⟨h1, h2, rfl⟩ | ⟨rfl, rfl⟩
 ·obtain ⟨k, hk, rfl⟩ : ∃ k : Nat, k < 12 ∧ n = (k : Int) + 1 := ⟨(n - 1).toNat, by omega, by omega⟩
  cases lp
  ·match k, hk with
   | 0, _ => exact ⟨0, by decide, by decide⟩
   | 1, _ => exact ⟨1, by decide, by decide⟩
   | 2, _ => exact ⟨2, by decide, by decide⟩
   | 3, _ => exact ⟨3, by decide, by decide⟩
   | 4, _ => exact ⟨4, by decide, by decide⟩
   | 5, _ => exact ⟨5, by decide, by decide⟩
   | 6, _ => exact ⟨6, by decide, by decide⟩
   | 7, _ => exact ⟨7, by decide, by decide⟩
   | 8, _ => exact ⟨8, by decide, by decide⟩
   | 9, _ => exact ⟨9, by decide, by decide⟩
   | 10, _ => exact ⟨10, by decide, by decide⟩
   | 11, _ => exact ⟨11, by decide, by decide⟩
  ·match k, hk with
   | 0, _ => exact ⟨0, by decide, by decide⟩
   | 1, _ => exact ⟨1, by decide, by decide⟩
   | 2, _ => exact ⟨2, by decide, by decide⟩
   | 3, _ => exact ⟨3, by decide, by decide⟩
   | 4, _ => exact ⟨4, by decide, by decide⟩
   | 5, _ => exact ⟨6, by decide, by decide⟩
   | 6, _ => exact ⟨7, by decide, by decide⟩
   | 7, _ => exact ⟨8, by decide, by decide⟩
   | 8, _ => exact ⟨9, by decide, by decide⟩
   | 9, _ => exact ⟨10, by decide, by decide⟩
   | 10, _ => exact ⟨11, by decide, by decide⟩
   | 11, _ => exact ⟨12, by decide, by decide⟩
 ·cases lp
  ·simp [Cal.plOk] at h
  ·exact ⟨5, by decide, by decide⟩
theorem ref9_Place_any (lp : Bool) (n : Int) (l : Bool) (w : World) :
  Calls Tryo.prog 79 #[.bool lp, .agg #[.int .i64 n, .bool l]] w fun e w' => e = .returned (.tuple #[.int .i64 (Cal.plV lp n l), .bool (Cal.plOk lp n l)]) ∧ Below w.heap.size w w' := by
 have HP := Lib.hid (codes_place lp)
 have HT := Lib.hid (codes_there lp n l)
 have HN := Lib.hid (plOk_no lp n l)
 have hN13 : (codesTo lp 12).length ≤ 13 := by rw [codes_len]; split <;> omega
 have HV : Hid (Cal.plOk lp n l = false → Cal.plV lp n l = 0) := fun h => by rw [Cal.plV, if_neg (by rw [h]; exact Bool.false_ne_true)]
 go_enter Tryo.func79, Tryz.ntmps79
 go_wp2_with fail
 refine (ref9_codes lp _).mono ?_
 rintro e w1 ⟨v, rfl, ⟨g, cap, rfl, hcap, hBg, hg, hcell⟩, hb1⟩
 obtain ⟨hc1, hf1⟩ := bcell hb1
 have hz1 := hb1.size
 try simp at hz1
 try simp at hBg
 have hs1 : w.heap.size < w1.heap.size := by omega
 have g1x0 : w1.cell? ⟨w.heap.size, 0, none⟩ = some (.int .i64 n) := (hc1 _ _ (by simp)).trans (by simp [go_sem])
 have g1x1 : w1.cell? ⟨w.heap.size, 1, none⟩ = some (.bool l) := (hc1 _ _ (by simp)).trans (by simp [go_sem])
 generalize codesTo lp 12 = xs at *
 have HC := Lib.hid hcell
 clear hcell hc1
 go_wp2_with fail
 go_loopw [7] (fun i wr => ∃ j : Nat, j ≤ xs.length ∧ i = .int .i64 j ∧ Hid (∀ i', i' < j → xs[i']? ≠ some (n, l)) ∧ Below w1.heap.size w1 wr) (fun i _ => xs.length - (intOf i).toNat)
 case atStart => exact ⟨0, by omega, rfl, Lib.hid (fun _ h => absurd h (by omega)), Below.refl _ _⟩
 case round =>
  obtain ⟨j, hj, rfl, hno, hB⟩ := hrel
  have hsz := hB.size
  by_cases hlt : j < xs.length
  ·obtain ⟨⟨x, y⟩, hx⟩ : ∃ c, xs[j]? = some c := ⟨_, List.getElem?_eq_getElem hlt⟩
   obtain ⟨d1, d2⟩ := HC.out j _ hx
   simp only at d1 d2
   have e1 := (hB.cell (p := ⟨g, j * 2, none⟩) hg).trans d1
   have e2 := (hB.cell (p := ⟨g, j * 2 + 1, none⟩) hg).trans d2
   have e3 := (hB.cell (p := ⟨w.heap.size, 0, none⟩) hs1).trans g1x0
   have e4 := (hB.cell (p := ⟨w.heap.size, 1, none⟩) hs1).trans g1x1
   have hg2 : g < wr.heap.size := by omega
   have hs2 : w.heap.size < wr.heap.size := by omega
   have h1 : (j : Int) < (xs.length : Int) := by omega
   have h2 : (0 : Int) ≤ (j : Int) := by omega
   have HX := Lib.hid hx
   clear d1 d2 hx
   by_cases f1 : x = n
   ·subst f1
    by_cases f2 : y = l
    ·subst f2
     have HR := Lib.hid (HP.out j _ _ HX.out)
     go_wp2_with fail
     refine wp_region_class (by kernel_rfl) (by kernel_rfl) (fun hall => ?_)
     repeat (first | go_big_quiet_skip | (go_big_quiet_want; first | (refine quiet_load1 _ _ _ rfl rfl ?_ ?_ ?_; (focus (intro _; simp; done)); (focus (first | assumption | omega | (simp; done) | (simp; omega))); apply Exists.intro; refine ⟨?_, ?_⟩; assumption; go_simp; go_big_quiet_on) | (refine quiet_load2 _ _ _ _ rfl rfl ?_ ?_ ?_ ?_; (focus (intro _; simp; done)); (focus (intro _; simp; done)); (focus (first | assumption | omega | (simp; done) | (simp; omega))); apply Exists.intro; apply Exists.intro; refine ⟨?_, ?_, ?_⟩; assumption; assumption; go_simp; go_big_quiet_on) | (refine quiet_load3 _ _ _ _ rfl rfl ?_ ?_ ?_ ?_; (focus (intro _; simp; done)); (focus (intro _; simp; done)); (focus (first | assumption | omega | (simp; done) | (simp; omega))); apply Exists.intro; apply Exists.intro; apply Exists.intro; refine ⟨?_, ?_, ?_, ?_⟩; assumption; assumption; assumption; go_simp; go_big_quiet_on) | (refine quiet_load4 _ _ _ _ rfl rfl ?_ ?_ ?_ ?_; (focus (intro _; simp; done)); (focus (intro _; simp; done)); (focus (first | assumption | omega | (simp; done) | (simp; omega))); apply Exists.intro; apply Exists.intro; apply Exists.intro; apply Exists.intro; refine ⟨?_, ?_, ?_, ?_, ?_⟩; assumption; assumption; assumption; assumption; go_simp; go_big_quiet_on) | (go_big_quiet_op; first | go_big_quiet_on | (apply Exists.intro; refine ⟨fun x hx => ?_, ?_⟩; (first | fail); go_big_quiet_on))))
     refine wpQuiet_nil ?_
     clear hall
     intro x2 hx2
     have hz2 := hx2.size
     go_wp2_with fail
     go_ret2
     exact ⟨ret_ib HR.out.2.symm HR.out.1.symm, bt (bt (ba _ _) hb1) (bt hB hx2)⟩
    ·have HNx : Hid (∀ i', i' < j + 1 → xs[i']? ≠ some (x, l)) := fun i' hi' he => by
      by_cases c : i' < j
      ·exact hno.out i' c he
      ·obtain rfl : i' = j := by omega
       rw [HX.out] at he
       simp only [Option.some.injEq, Prod.mk.injEq] at he
       exact f2 he.2
     go_wp2_with fail
     refine wp_region_class (by kernel_rfl) (by kernel_rfl) (fun hall => ?_)
     repeat (first | go_big_quiet_skip | (go_big_quiet_want; first | (refine quiet_load1 _ _ _ rfl rfl ?_ ?_ ?_; (focus (intro _; simp; done)); (focus (first | assumption | omega | (simp; done) | (simp; omega))); apply Exists.intro; refine ⟨?_, ?_⟩; assumption; go_simp; go_big_quiet_on) | (refine quiet_load2 _ _ _ _ rfl rfl ?_ ?_ ?_ ?_; (focus (intro _; simp; done)); (focus (intro _; simp; done)); (focus (first | assumption | omega | (simp; done) | (simp; omega))); apply Exists.intro; apply Exists.intro; refine ⟨?_, ?_, ?_⟩; assumption; assumption; go_simp; go_big_quiet_on) | (refine quiet_load3 _ _ _ _ rfl rfl ?_ ?_ ?_ ?_; (focus (intro _; simp; done)); (focus (intro _; simp; done)); (focus (first | assumption | omega | (simp; done) | (simp; omega))); apply Exists.intro; apply Exists.intro; apply Exists.intro; refine ⟨?_, ?_, ?_, ?_⟩; assumption; assumption; assumption; go_simp; go_big_quiet_on) | (refine quiet_load4 _ _ _ _ rfl rfl ?_ ?_ ?_ ?_; (focus (intro _; simp; done)); (focus (intro _; simp; done)); (focus (first | assumption | omega | (simp; done) | (simp; omega))); apply Exists.intro; apply Exists.intro; apply Exists.intro; apply Exists.intro; refine ⟨?_, ?_, ?_, ?_, ?_⟩; assumption; assumption; assumption; assumption; go_simp; go_big_quiet_on) | (go_big_quiet_op; first | go_big_quiet_on | (apply Exists.intro; refine ⟨fun x hx => ?_, ?_⟩; (first | fail); go_big_quiet_on))))
     refine wpQuiet_nil ?_
     clear hall
     intro x2 hx2
     have hz2 := hx2.size
     go_wp2_with fail
     go_roundw
     case rel => exact ⟨j + 1, by omega, by go_num, HNx, bt hB hx2⟩
     case measure => simp [intOf]; omega
   ·have HNx : Hid (∀ i', i' < j + 1 → xs[i']? ≠ some (n, l)) := fun i' hi' he => by
     by_cases c : i' < j
     ·exact hno.out i' c he
     ·obtain rfl : i' = j := by omega
      rw [HX.out] at he
      simp only [Option.some.injEq, Prod.mk.injEq] at he
      exact f1 he.1
    go_wp2_with fail
    refine wp_region_class (by kernel_rfl) (by kernel_rfl) (fun hall => ?_)
    repeat (first | go_big_quiet_skip | (go_big_quiet_want; first | (refine quiet_load1 _ _ _ rfl rfl ?_ ?_ ?_; (focus (intro _; simp; done)); (focus (first | assumption | omega | (simp; done) | (simp; omega))); apply Exists.intro; refine ⟨?_, ?_⟩; assumption; go_simp; go_big_quiet_on) | (refine quiet_load2 _ _ _ _ rfl rfl ?_ ?_ ?_ ?_; (focus (intro _; simp; done)); (focus (intro _; simp; done)); (focus (first | assumption | omega | (simp; done) | (simp; omega))); apply Exists.intro; apply Exists.intro; refine ⟨?_, ?_, ?_⟩; assumption; assumption; go_simp; go_big_quiet_on) | (refine quiet_load3 _ _ _ _ rfl rfl ?_ ?_ ?_ ?_; (focus (intro _; simp; done)); (focus (intro _; simp; done)); (focus (first | assumption | omega | (simp; done) | (simp; omega))); apply Exists.intro; apply Exists.intro; apply Exists.intro; refine ⟨?_, ?_, ?_, ?_⟩; assumption; assumption; assumption; go_simp; go_big_quiet_on) | (refine quiet_load4 _ _ _ _ rfl rfl ?_ ?_ ?_ ?_; (focus (intro _; simp; done)); (focus (intro _; simp; done)); (focus (first | assumption | omega | (simp; done) | (simp; omega))); apply Exists.intro; apply Exists.intro; apply Exists.intro; apply Exists.intro; refine ⟨?_, ?_, ?_, ?_, ?_⟩; assumption; assumption; assumption; assumption; go_simp; go_big_quiet_on) | (go_big_quiet_op; first | go_big_quiet_on | (apply Exists.intro; refine ⟨fun x hx => ?_, ?_⟩; (first | fail); go_big_quiet_on))))
    refine wpQuiet_nil ?_
    clear hall
    intro x2 hx2
    have hz2 := hx2.size
    go_wp2_with fail
    go_roundw
    case rel => exact ⟨j + 1, by omega, by go_num, HNx, bt hB hx2⟩
    case measure => simp [intOf]; omega
  ·have HE : Hid (Cal.plOk lp n l = false) := by
    cases h : Cal.plOk lp n l
    ·rfl
    ·obtain ⟨i', hi', he⟩ := HT.out h
     exact absurd he (hno.out i' (by omega))
   go_wp2_with fail
   go_ret2
   exact ⟨ret_ib (HV.out HE.out).symm HE.out.symm, bt (bt (ba _ _) hb1) hB⟩
end
section
open Go.ChangeShapes Go.WideShapes Go.ChangeAt Go.RowKit
end
end Go.Proofs.YtgojeobnoebnlaaGreatDoor
