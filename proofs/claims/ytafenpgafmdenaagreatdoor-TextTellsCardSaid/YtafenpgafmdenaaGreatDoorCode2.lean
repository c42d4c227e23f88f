/- Layer 9: texts of codes. -/
import Derived.Test.YtafenpgafmdenaaGreatDoorCode
import Derived.Deep.RegionHeld
namespace Go.Proofs.YtafenpgafmdenaaGreatDoor
open Go.ChangeShapes Go.WideShapes Go.ChangeAt Go.RowKit
set_option linter.unusedVariables false
set_option maxRecDepth 100000

theorem code_digit (n : Int) (w : World) (h0 : 0 ≤ n) (h1 : n ≤ 9) : Calls Tryz.prog 88 #[.int .i64 n] w fun e w' => e = .returned (.int .u8 (48 + n)) ∧ w = w' := by
  go_enter Tryz.func88, Tryz.ntmps88
  go_wp2_with fail
  go_ret
  exact ⟨rfl, rfl⟩
theorem code_Text_no (n : Int) (l : Bool) (w : World) (h : Cal.right n l = false) : Calls Tryz.prog 39 #[.agg #[.int .i64 n, .bool l]] w fun e w' => e = .returned (.tuple #[.string ByteArray.empty, .bool false]) ∧ Below w.heap.size w w' := by
  go_enter Tryz.func39, Tryz.ntmps39
  go_wp2_with fail
  refine (code_Right_no n l _ h).mono ?_
  rintro e w1 ⟨rfl, hb1⟩
  obtain ⟨hc1, hf1⟩ := bcell hb1
  have hz1 := hb1.size
  try simp at hz1
  go_wp2_with fail
  refine bodyPost_ret (v := .tuple #[.string ByteArray.empty, .bool false]) (by simp [results, Tryz.results39, go_sem]; try rfl) rfl ⟨rfl, bt (ba _ _) hb1⟩
theorem conv_bytes (w : World) (x y : Nat) (hx : x < 256) (hy : y < 256) :
    (convert 105 9 (.slice (some ⟨w.heap.size, 0, none⟩) 2 2)).run Tryz.prog (w.alloc (.cells #[.int .u8 (x : Int), .int .u8 (y : Int)] 5)).drew = .ok (.string ⟨#[UInt8.ofNat x, UInt8.ofNat y]⟩) (w.alloc (.cells #[.int .u8 (x : Int), .int .u8 (y : Int)] 5)).drew := by
  have h := run_convert_bytes_arg (P := Tryz.prog) (w.alloc (.cells #[.int .u8 (x : Int), .int .u8 (y : Int)] 5)).drew 105 5 Tryz.underlying105 Tryz.underlying5 w.heap.size 0 2 2 [(x : Int), (y : Int)] rfl (by
    intro i hi
    rcases i with _ | _ | i
    · exact World.cell?_alloc_mark w _ 5 _ 0
    · exact World.cell?_alloc_mark w _ 5 _ 1
    · omega) 9 Tryz.underlying9
  exact h

theorem code_Text_1 (w : World) : Calls Tryz.prog 39 #[.agg #[.int .i64 1, .bool false]] w fun e w' => e = .returned (.tuple #[.string ⟨#[77, 48, 49]⟩, .bool true]) ∧ Below w.heap.size w w' := by
  go_enter Tryz.func39, Tryz.ntmps39
  go_wp2_with fail
  refine (code_Right_ok 1 _ (by omega) (by omega)).mono ?_
  rintro e w1 ⟨rfl, hb1⟩
  obtain ⟨hc1, hf1⟩ := bcell hb1
  have hz1 := hb1.size
  try simp at hz1
  have hs1x0 : w.heap.size < w1.heap.size := by omega
  have g1x0 : w1.cell? ⟨w.heap.size, 0, none⟩ = some (.int .i64 1) := (hc1 _ _ (by first | omega | (simp; done) | (simp; omega))).trans (by first | assumption | simp [go_sem] | simp [go_sem, *])
  have g1x1 : w1.cell? ⟨w.heap.size, 1, none⟩ = some (.bool false) := (hc1 _ _ (by first | omega | (simp; done) | (simp; omega))).trans (by first | assumption | simp [go_sem] | simp [go_sem, *])
  go_wp2_with fail
  have hs1 : w.heap.size < w1.heap.size := by omega
  clear hc1 hf1
  have kc : (convert 105 9 (.slice (some ⟨w1.heap.size, 0, none⟩) 2 2)).run Tryz.prog (w1.alloc (.cells #[.int .u8 48, .int .u8 49] 5)).drew = .ok (.string ⟨#[48, 49]⟩) (w1.alloc (.cells #[.int .u8 48, .int .u8 49] 5)).drew := conv_bytes w1 48 49 (by omega) (by omega)
  go_region_held (fun x => x.cell? ⟨w.heap.size, 0, none⟩ = some (.int .i64 1) ∧ x.cell? ⟨w.heap.size, 1, none⟩ = some (.bool false)) (first | assumption | go_keep)
      (first | (go_at_call 88; first | (refine (code_digit 0 _ (by omega) (by omega)).mono ?_; rintro e w3 ⟨rfl, rfl⟩) | (refine (code_digit 1 _ (by omega) (by omega)).mono ?_; rintro e w3 ⟨rfl, rfl⟩)))
  all_goals (have hh := And.intro hs1 (by assumption : _ ∧ _))
  all_goals obtain ⟨_, hh1, hh2⟩ := hh
  all_goals go_wp2_with fail
  all_goals refine bodyPost_ret (v := .tuple #[.string ⟨#[77, 48, 49]⟩, .bool true]) (by simp [results, Tryz.results39, go_sem]; try rfl) rfl ⟨rfl, (baa (bt (ba _ _) hb1) _).drew⟩

theorem code_Text_2 (w : World) : Calls Tryz.prog 39 #[.agg #[.int .i64 2, .bool false]] w fun e w' => e = .returned (.tuple #[.string ⟨#[77, 48, 50]⟩, .bool true]) ∧ Below w.heap.size w w' := by
  go_enter Tryz.func39, Tryz.ntmps39
  go_wp2_with fail
  refine (code_Right_ok 2 _ (by omega) (by omega)).mono ?_
  rintro e w1 ⟨rfl, hb1⟩
  obtain ⟨hc1, hf1⟩ := bcell hb1
  have hz1 := hb1.size
  try simp at hz1
  have hs1x0 : w.heap.size < w1.heap.size := by omega
  have g1x0 : w1.cell? ⟨w.heap.size, 0, none⟩ = some (.int .i64 2) := (hc1 _ _ (by first | omega | (simp; done) | (simp; omega))).trans (by first | assumption | simp [go_sem] | simp [go_sem, *])
  have g1x1 : w1.cell? ⟨w.heap.size, 1, none⟩ = some (.bool false) := (hc1 _ _ (by first | omega | (simp; done) | (simp; omega))).trans (by first | assumption | simp [go_sem] | simp [go_sem, *])
  go_wp2_with fail
  have hs1 : w.heap.size < w1.heap.size := by omega
  clear hc1 hf1
  have kc : (convert 105 9 (.slice (some ⟨w1.heap.size, 0, none⟩) 2 2)).run Tryz.prog (w1.alloc (.cells #[.int .u8 48, .int .u8 50] 5)).drew = .ok (.string ⟨#[48, 50]⟩) (w1.alloc (.cells #[.int .u8 48, .int .u8 50] 5)).drew := conv_bytes w1 48 50 (by omega) (by omega)
  go_region_held (fun x => x.cell? ⟨w.heap.size, 0, none⟩ = some (.int .i64 2) ∧ x.cell? ⟨w.heap.size, 1, none⟩ = some (.bool false)) (first | assumption | go_keep)
      (first | (go_at_call 88; first | (refine (code_digit 0 _ (by omega) (by omega)).mono ?_; rintro e w3 ⟨rfl, rfl⟩) | (refine (code_digit 2 _ (by omega) (by omega)).mono ?_; rintro e w3 ⟨rfl, rfl⟩)))
  all_goals (have hh := And.intro hs1 (by assumption : _ ∧ _))
  all_goals obtain ⟨_, hh1, hh2⟩ := hh
  all_goals go_wp2_with fail
  all_goals refine bodyPost_ret (v := .tuple #[.string ⟨#[77, 48, 50]⟩, .bool true]) (by simp [results, Tryz.results39, go_sem]; try rfl) rfl ⟨rfl, (baa (bt (ba _ _) hb1) _).drew⟩

theorem code_Text_3 (w : World) : Calls Tryz.prog 39 #[.agg #[.int .i64 3, .bool false]] w fun e w' => e = .returned (.tuple #[.string ⟨#[77, 48, 51]⟩, .bool true]) ∧ Below w.heap.size w w' := by
  go_enter Tryz.func39, Tryz.ntmps39
  go_wp2_with fail
  refine (code_Right_ok 3 _ (by omega) (by omega)).mono ?_
  rintro e w1 ⟨rfl, hb1⟩
  obtain ⟨hc1, hf1⟩ := bcell hb1
  have hz1 := hb1.size
  try simp at hz1
  have hs1x0 : w.heap.size < w1.heap.size := by omega
  have g1x0 : w1.cell? ⟨w.heap.size, 0, none⟩ = some (.int .i64 3) := (hc1 _ _ (by first | omega | (simp; done) | (simp; omega))).trans (by first | assumption | simp [go_sem] | simp [go_sem, *])
  have g1x1 : w1.cell? ⟨w.heap.size, 1, none⟩ = some (.bool false) := (hc1 _ _ (by first | omega | (simp; done) | (simp; omega))).trans (by first | assumption | simp [go_sem] | simp [go_sem, *])
  go_wp2_with fail
  have hs1 : w.heap.size < w1.heap.size := by omega
  clear hc1 hf1
  have kc : (convert 105 9 (.slice (some ⟨w1.heap.size, 0, none⟩) 2 2)).run Tryz.prog (w1.alloc (.cells #[.int .u8 48, .int .u8 51] 5)).drew = .ok (.string ⟨#[48, 51]⟩) (w1.alloc (.cells #[.int .u8 48, .int .u8 51] 5)).drew := conv_bytes w1 48 51 (by omega) (by omega)
  go_region_held (fun x => x.cell? ⟨w.heap.size, 0, none⟩ = some (.int .i64 3) ∧ x.cell? ⟨w.heap.size, 1, none⟩ = some (.bool false)) (first | assumption | go_keep)
      (first | (go_at_call 88; first | (refine (code_digit 0 _ (by omega) (by omega)).mono ?_; rintro e w3 ⟨rfl, rfl⟩) | (refine (code_digit 3 _ (by omega) (by omega)).mono ?_; rintro e w3 ⟨rfl, rfl⟩)))
  all_goals (have hh := And.intro hs1 (by assumption : _ ∧ _))
  all_goals obtain ⟨_, hh1, hh2⟩ := hh
  all_goals go_wp2_with fail
  all_goals refine bodyPost_ret (v := .tuple #[.string ⟨#[77, 48, 51]⟩, .bool true]) (by simp [results, Tryz.results39, go_sem]; try rfl) rfl ⟨rfl, (baa (bt (ba _ _) hb1) _).drew⟩

theorem code_Text_4 (w : World) : Calls Tryz.prog 39 #[.agg #[.int .i64 4, .bool false]] w fun e w' => e = .returned (.tuple #[.string ⟨#[77, 48, 52]⟩, .bool true]) ∧ Below w.heap.size w w' := by
  go_enter Tryz.func39, Tryz.ntmps39
  go_wp2_with fail
  refine (code_Right_ok 4 _ (by omega) (by omega)).mono ?_
  rintro e w1 ⟨rfl, hb1⟩
  obtain ⟨hc1, hf1⟩ := bcell hb1
  have hz1 := hb1.size
  try simp at hz1
  have hs1x0 : w.heap.size < w1.heap.size := by omega
  have g1x0 : w1.cell? ⟨w.heap.size, 0, none⟩ = some (.int .i64 4) := (hc1 _ _ (by first | omega | (simp; done) | (simp; omega))).trans (by first | assumption | simp [go_sem] | simp [go_sem, *])
  have g1x1 : w1.cell? ⟨w.heap.size, 1, none⟩ = some (.bool false) := (hc1 _ _ (by first | omega | (simp; done) | (simp; omega))).trans (by first | assumption | simp [go_sem] | simp [go_sem, *])
  go_wp2_with fail
  have hs1 : w.heap.size < w1.heap.size := by omega
  clear hc1 hf1
  have kc : (convert 105 9 (.slice (some ⟨w1.heap.size, 0, none⟩) 2 2)).run Tryz.prog (w1.alloc (.cells #[.int .u8 48, .int .u8 52] 5)).drew = .ok (.string ⟨#[48, 52]⟩) (w1.alloc (.cells #[.int .u8 48, .int .u8 52] 5)).drew := conv_bytes w1 48 52 (by omega) (by omega)
  go_region_held (fun x => x.cell? ⟨w.heap.size, 0, none⟩ = some (.int .i64 4) ∧ x.cell? ⟨w.heap.size, 1, none⟩ = some (.bool false)) (first | assumption | go_keep)
      (first | (go_at_call 88; first | (refine (code_digit 0 _ (by omega) (by omega)).mono ?_; rintro e w3 ⟨rfl, rfl⟩) | (refine (code_digit 4 _ (by omega) (by omega)).mono ?_; rintro e w3 ⟨rfl, rfl⟩)))
  all_goals (have hh := And.intro hs1 (by assumption : _ ∧ _))
  all_goals obtain ⟨_, hh1, hh2⟩ := hh
  all_goals go_wp2_with fail
  all_goals refine bodyPost_ret (v := .tuple #[.string ⟨#[77, 48, 52]⟩, .bool true]) (by simp [results, Tryz.results39, go_sem]; try rfl) rfl ⟨rfl, (baa (bt (ba _ _) hb1) _).drew⟩

theorem code_Text_5 (w : World) : Calls Tryz.prog 39 #[.agg #[.int .i64 5, .bool false]] w fun e w' => e = .returned (.tuple #[.string ⟨#[77, 48, 53]⟩, .bool true]) ∧ Below w.heap.size w w' := by
  go_enter Tryz.func39, Tryz.ntmps39
  go_wp2_with fail
  refine (code_Right_ok 5 _ (by omega) (by omega)).mono ?_
  rintro e w1 ⟨rfl, hb1⟩
  obtain ⟨hc1, hf1⟩ := bcell hb1
  have hz1 := hb1.size
  try simp at hz1
  have hs1x0 : w.heap.size < w1.heap.size := by omega
  have g1x0 : w1.cell? ⟨w.heap.size, 0, none⟩ = some (.int .i64 5) := (hc1 _ _ (by first | omega | (simp; done) | (simp; omega))).trans (by first | assumption | simp [go_sem] | simp [go_sem, *])
  have g1x1 : w1.cell? ⟨w.heap.size, 1, none⟩ = some (.bool false) := (hc1 _ _ (by first | omega | (simp; done) | (simp; omega))).trans (by first | assumption | simp [go_sem] | simp [go_sem, *])
  go_wp2_with fail
  have hs1 : w.heap.size < w1.heap.size := by omega
  clear hc1 hf1
  have kc : (convert 105 9 (.slice (some ⟨w1.heap.size, 0, none⟩) 2 2)).run Tryz.prog (w1.alloc (.cells #[.int .u8 48, .int .u8 53] 5)).drew = .ok (.string ⟨#[48, 53]⟩) (w1.alloc (.cells #[.int .u8 48, .int .u8 53] 5)).drew := conv_bytes w1 48 53 (by omega) (by omega)
  go_region_held (fun x => x.cell? ⟨w.heap.size, 0, none⟩ = some (.int .i64 5) ∧ x.cell? ⟨w.heap.size, 1, none⟩ = some (.bool false)) (first | assumption | go_keep)
      (first | (go_at_call 88; first | (refine (code_digit 0 _ (by omega) (by omega)).mono ?_; rintro e w3 ⟨rfl, rfl⟩) | (refine (code_digit 5 _ (by omega) (by omega)).mono ?_; rintro e w3 ⟨rfl, rfl⟩)))
  all_goals (have hh := And.intro hs1 (by assumption : _ ∧ _))
  all_goals obtain ⟨_, hh1, hh2⟩ := hh
  all_goals go_wp2_with fail
  all_goals refine bodyPost_ret (v := .tuple #[.string ⟨#[77, 48, 53]⟩, .bool true]) (by simp [results, Tryz.results39, go_sem]; try rfl) rfl ⟨rfl, (baa (bt (ba _ _) hb1) _).drew⟩

theorem code_Text_6 (w : World) : Calls Tryz.prog 39 #[.agg #[.int .i64 6, .bool false]] w fun e w' => e = .returned (.tuple #[.string ⟨#[77, 48, 54]⟩, .bool true]) ∧ Below w.heap.size w w' := by
  go_enter Tryz.func39, Tryz.ntmps39
  go_wp2_with fail
  refine (code_Right_ok 6 _ (by omega) (by omega)).mono ?_
  rintro e w1 ⟨rfl, hb1⟩
  obtain ⟨hc1, hf1⟩ := bcell hb1
  have hz1 := hb1.size
  try simp at hz1
  have hs1x0 : w.heap.size < w1.heap.size := by omega
  have g1x0 : w1.cell? ⟨w.heap.size, 0, none⟩ = some (.int .i64 6) := (hc1 _ _ (by first | omega | (simp; done) | (simp; omega))).trans (by first | assumption | simp [go_sem] | simp [go_sem, *])
  have g1x1 : w1.cell? ⟨w.heap.size, 1, none⟩ = some (.bool false) := (hc1 _ _ (by first | omega | (simp; done) | (simp; omega))).trans (by first | assumption | simp [go_sem] | simp [go_sem, *])
  go_wp2_with fail
  have hs1 : w.heap.size < w1.heap.size := by omega
  clear hc1 hf1
  have kc : (convert 105 9 (.slice (some ⟨w1.heap.size, 0, none⟩) 2 2)).run Tryz.prog (w1.alloc (.cells #[.int .u8 48, .int .u8 54] 5)).drew = .ok (.string ⟨#[48, 54]⟩) (w1.alloc (.cells #[.int .u8 48, .int .u8 54] 5)).drew := conv_bytes w1 48 54 (by omega) (by omega)
  go_region_held (fun x => x.cell? ⟨w.heap.size, 0, none⟩ = some (.int .i64 6) ∧ x.cell? ⟨w.heap.size, 1, none⟩ = some (.bool false)) (first | assumption | go_keep)
      (first | (go_at_call 88; first | (refine (code_digit 0 _ (by omega) (by omega)).mono ?_; rintro e w3 ⟨rfl, rfl⟩) | (refine (code_digit 6 _ (by omega) (by omega)).mono ?_; rintro e w3 ⟨rfl, rfl⟩)))
  all_goals (have hh := And.intro hs1 (by assumption : _ ∧ _))
  all_goals obtain ⟨_, hh1, hh2⟩ := hh
  all_goals go_wp2_with fail
  all_goals refine bodyPost_ret (v := .tuple #[.string ⟨#[77, 48, 54]⟩, .bool true]) (by simp [results, Tryz.results39, go_sem]; try rfl) rfl ⟨rfl, (baa (bt (ba _ _) hb1) _).drew⟩

theorem code_Text_7 (w : World) : Calls Tryz.prog 39 #[.agg #[.int .i64 7, .bool false]] w fun e w' => e = .returned (.tuple #[.string ⟨#[77, 48, 55]⟩, .bool true]) ∧ Below w.heap.size w w' := by
  go_enter Tryz.func39, Tryz.ntmps39
  go_wp2_with fail
  refine (code_Right_ok 7 _ (by omega) (by omega)).mono ?_
  rintro e w1 ⟨rfl, hb1⟩
  obtain ⟨hc1, hf1⟩ := bcell hb1
  have hz1 := hb1.size
  try simp at hz1
  have hs1x0 : w.heap.size < w1.heap.size := by omega
  have g1x0 : w1.cell? ⟨w.heap.size, 0, none⟩ = some (.int .i64 7) := (hc1 _ _ (by first | omega | (simp; done) | (simp; omega))).trans (by first | assumption | simp [go_sem] | simp [go_sem, *])
  have g1x1 : w1.cell? ⟨w.heap.size, 1, none⟩ = some (.bool false) := (hc1 _ _ (by first | omega | (simp; done) | (simp; omega))).trans (by first | assumption | simp [go_sem] | simp [go_sem, *])
  go_wp2_with fail
  have hs1 : w.heap.size < w1.heap.size := by omega
  clear hc1 hf1
  have kc : (convert 105 9 (.slice (some ⟨w1.heap.size, 0, none⟩) 2 2)).run Tryz.prog (w1.alloc (.cells #[.int .u8 48, .int .u8 55] 5)).drew = .ok (.string ⟨#[48, 55]⟩) (w1.alloc (.cells #[.int .u8 48, .int .u8 55] 5)).drew := conv_bytes w1 48 55 (by omega) (by omega)
  go_region_held (fun x => x.cell? ⟨w.heap.size, 0, none⟩ = some (.int .i64 7) ∧ x.cell? ⟨w.heap.size, 1, none⟩ = some (.bool false)) (first | assumption | go_keep)
      (first | (go_at_call 88; first | (refine (code_digit 0 _ (by omega) (by omega)).mono ?_; rintro e w3 ⟨rfl, rfl⟩) | (refine (code_digit 7 _ (by omega) (by omega)).mono ?_; rintro e w3 ⟨rfl, rfl⟩)))
  all_goals (have hh := And.intro hs1 (by assumption : _ ∧ _))
  all_goals obtain ⟨_, hh1, hh2⟩ := hh
  all_goals go_wp2_with fail
  all_goals refine bodyPost_ret (v := .tuple #[.string ⟨#[77, 48, 55]⟩, .bool true]) (by simp [results, Tryz.results39, go_sem]; try rfl) rfl ⟨rfl, (baa (bt (ba _ _) hb1) _).drew⟩

theorem code_Text_8 (w : World) : Calls Tryz.prog 39 #[.agg #[.int .i64 8, .bool false]] w fun e w' => e = .returned (.tuple #[.string ⟨#[77, 48, 56]⟩, .bool true]) ∧ Below w.heap.size w w' := by
  go_enter Tryz.func39, Tryz.ntmps39
  go_wp2_with fail
  refine (code_Right_ok 8 _ (by omega) (by omega)).mono ?_
  rintro e w1 ⟨rfl, hb1⟩
  obtain ⟨hc1, hf1⟩ := bcell hb1
  have hz1 := hb1.size
  try simp at hz1
  have hs1x0 : w.heap.size < w1.heap.size := by omega
  have g1x0 : w1.cell? ⟨w.heap.size, 0, none⟩ = some (.int .i64 8) := (hc1 _ _ (by first | omega | (simp; done) | (simp; omega))).trans (by first | assumption | simp [go_sem] | simp [go_sem, *])
  have g1x1 : w1.cell? ⟨w.heap.size, 1, none⟩ = some (.bool false) := (hc1 _ _ (by first | omega | (simp; done) | (simp; omega))).trans (by first | assumption | simp [go_sem] | simp [go_sem, *])
  go_wp2_with fail
  have hs1 : w.heap.size < w1.heap.size := by omega
  clear hc1 hf1
  have kc : (convert 105 9 (.slice (some ⟨w1.heap.size, 0, none⟩) 2 2)).run Tryz.prog (w1.alloc (.cells #[.int .u8 48, .int .u8 56] 5)).drew = .ok (.string ⟨#[48, 56]⟩) (w1.alloc (.cells #[.int .u8 48, .int .u8 56] 5)).drew := conv_bytes w1 48 56 (by omega) (by omega)
  go_region_held (fun x => x.cell? ⟨w.heap.size, 0, none⟩ = some (.int .i64 8) ∧ x.cell? ⟨w.heap.size, 1, none⟩ = some (.bool false)) (first | assumption | go_keep)
      (first | (go_at_call 88; first | (refine (code_digit 0 _ (by omega) (by omega)).mono ?_; rintro e w3 ⟨rfl, rfl⟩) | (refine (code_digit 8 _ (by omega) (by omega)).mono ?_; rintro e w3 ⟨rfl, rfl⟩)))
  all_goals (have hh := And.intro hs1 (by assumption : _ ∧ _))
  all_goals obtain ⟨_, hh1, hh2⟩ := hh
  all_goals go_wp2_with fail
  all_goals refine bodyPost_ret (v := .tuple #[.string ⟨#[77, 48, 56]⟩, .bool true]) (by simp [results, Tryz.results39, go_sem]; try rfl) rfl ⟨rfl, (baa (bt (ba _ _) hb1) _).drew⟩

theorem code_Text_9 (w : World) : Calls Tryz.prog 39 #[.agg #[.int .i64 9, .bool false]] w fun e w' => e = .returned (.tuple #[.string ⟨#[77, 48, 57]⟩, .bool true]) ∧ Below w.heap.size w w' := by
  go_enter Tryz.func39, Tryz.ntmps39
  go_wp2_with fail
  refine (code_Right_ok 9 _ (by omega) (by omega)).mono ?_
  rintro e w1 ⟨rfl, hb1⟩
  obtain ⟨hc1, hf1⟩ := bcell hb1
  have hz1 := hb1.size
  try simp at hz1
  have hs1x0 : w.heap.size < w1.heap.size := by omega
  have g1x0 : w1.cell? ⟨w.heap.size, 0, none⟩ = some (.int .i64 9) := (hc1 _ _ (by first | omega | (simp; done) | (simp; omega))).trans (by first | assumption | simp [go_sem] | simp [go_sem, *])
  have g1x1 : w1.cell? ⟨w.heap.size, 1, none⟩ = some (.bool false) := (hc1 _ _ (by first | omega | (simp; done) | (simp; omega))).trans (by first | assumption | simp [go_sem] | simp [go_sem, *])
  go_wp2_with fail
  have hs1 : w.heap.size < w1.heap.size := by omega
  clear hc1 hf1
  have kc : (convert 105 9 (.slice (some ⟨w1.heap.size, 0, none⟩) 2 2)).run Tryz.prog (w1.alloc (.cells #[.int .u8 48, .int .u8 57] 5)).drew = .ok (.string ⟨#[48, 57]⟩) (w1.alloc (.cells #[.int .u8 48, .int .u8 57] 5)).drew := conv_bytes w1 48 57 (by omega) (by omega)
  go_region_held (fun x => x.cell? ⟨w.heap.size, 0, none⟩ = some (.int .i64 9) ∧ x.cell? ⟨w.heap.size, 1, none⟩ = some (.bool false)) (first | assumption | go_keep)
      (first | (go_at_call 88; first | (refine (code_digit 0 _ (by omega) (by omega)).mono ?_; rintro e w3 ⟨rfl, rfl⟩) | (refine (code_digit 9 _ (by omega) (by omega)).mono ?_; rintro e w3 ⟨rfl, rfl⟩)))
  all_goals (have hh := And.intro hs1 (by assumption : _ ∧ _))
  all_goals obtain ⟨_, hh1, hh2⟩ := hh
  all_goals go_wp2_with fail
  all_goals refine bodyPost_ret (v := .tuple #[.string ⟨#[77, 48, 57]⟩, .bool true]) (by simp [results, Tryz.results39, go_sem]; try rfl) rfl ⟨rfl, (baa (bt (ba _ _) hb1) _).drew⟩

theorem code_Text_10 (w : World) : Calls Tryz.prog 39 #[.agg #[.int .i64 10, .bool false]] w fun e w' => e = .returned (.tuple #[.string ⟨#[77, 49, 48]⟩, .bool true]) ∧ Below w.heap.size w w' := by
  go_enter Tryz.func39, Tryz.ntmps39
  go_wp2_with fail
  refine (code_Right_ok 10 _ (by omega) (by omega)).mono ?_
  rintro e w1 ⟨rfl, hb1⟩
  obtain ⟨hc1, hf1⟩ := bcell hb1
  have hz1 := hb1.size
  try simp at hz1
  have hs1x0 : w.heap.size < w1.heap.size := by omega
  have g1x0 : w1.cell? ⟨w.heap.size, 0, none⟩ = some (.int .i64 10) := (hc1 _ _ (by first | omega | (simp; done) | (simp; omega))).trans (by first | assumption | simp [go_sem] | simp [go_sem, *])
  have g1x1 : w1.cell? ⟨w.heap.size, 1, none⟩ = some (.bool false) := (hc1 _ _ (by first | omega | (simp; done) | (simp; omega))).trans (by first | assumption | simp [go_sem] | simp [go_sem, *])
  go_wp2_with fail
  have hs1 : w.heap.size < w1.heap.size := by omega
  clear hc1 hf1
  have kc : (convert 105 9 (.slice (some ⟨w1.heap.size, 0, none⟩) 2 2)).run Tryz.prog (w1.alloc (.cells #[.int .u8 49, .int .u8 48] 5)).drew = .ok (.string ⟨#[49, 48]⟩) (w1.alloc (.cells #[.int .u8 49, .int .u8 48] 5)).drew := conv_bytes w1 49 48 (by omega) (by omega)
  go_region_held (fun x => x.cell? ⟨w.heap.size, 0, none⟩ = some (.int .i64 10) ∧ x.cell? ⟨w.heap.size, 1, none⟩ = some (.bool false)) (first | assumption | go_keep)
      (first | (go_at_call 88; first | (refine (code_digit 1 _ (by omega) (by omega)).mono ?_; rintro e w3 ⟨rfl, rfl⟩) | (refine (code_digit 0 _ (by omega) (by omega)).mono ?_; rintro e w3 ⟨rfl, rfl⟩)))
  all_goals (have hh := And.intro hs1 (by assumption : _ ∧ _))
  all_goals obtain ⟨_, hh1, hh2⟩ := hh
  all_goals go_wp2_with fail
  all_goals refine bodyPost_ret (v := .tuple #[.string ⟨#[77, 49, 48]⟩, .bool true]) (by simp [results, Tryz.results39, go_sem]; try rfl) rfl ⟨rfl, (baa (bt (ba _ _) hb1) _).drew⟩

theorem code_Text_11 (w : World) : Calls Tryz.prog 39 #[.agg #[.int .i64 11, .bool false]] w fun e w' => e = .returned (.tuple #[.string ⟨#[77, 49, 49]⟩, .bool true]) ∧ Below w.heap.size w w' := by
  go_enter Tryz.func39, Tryz.ntmps39
  go_wp2_with fail
  refine (code_Right_ok 11 _ (by omega) (by omega)).mono ?_
  rintro e w1 ⟨rfl, hb1⟩
  obtain ⟨hc1, hf1⟩ := bcell hb1
  have hz1 := hb1.size
  try simp at hz1
  have hs1x0 : w.heap.size < w1.heap.size := by omega
  have g1x0 : w1.cell? ⟨w.heap.size, 0, none⟩ = some (.int .i64 11) := (hc1 _ _ (by first | omega | (simp; done) | (simp; omega))).trans (by first | assumption | simp [go_sem] | simp [go_sem, *])
  have g1x1 : w1.cell? ⟨w.heap.size, 1, none⟩ = some (.bool false) := (hc1 _ _ (by first | omega | (simp; done) | (simp; omega))).trans (by first | assumption | simp [go_sem] | simp [go_sem, *])
  go_wp2_with fail
  have hs1 : w.heap.size < w1.heap.size := by omega
  clear hc1 hf1
  have kc : (convert 105 9 (.slice (some ⟨w1.heap.size, 0, none⟩) 2 2)).run Tryz.prog (w1.alloc (.cells #[.int .u8 49, .int .u8 49] 5)).drew = .ok (.string ⟨#[49, 49]⟩) (w1.alloc (.cells #[.int .u8 49, .int .u8 49] 5)).drew := conv_bytes w1 49 49 (by omega) (by omega)
  go_region_held (fun x => x.cell? ⟨w.heap.size, 0, none⟩ = some (.int .i64 11) ∧ x.cell? ⟨w.heap.size, 1, none⟩ = some (.bool false)) (first | assumption | go_keep)
      (first | (go_at_call 88; first | (refine (code_digit 1 _ (by omega) (by omega)).mono ?_; rintro e w3 ⟨rfl, rfl⟩) | (refine (code_digit 1 _ (by omega) (by omega)).mono ?_; rintro e w3 ⟨rfl, rfl⟩)))
  all_goals (have hh := And.intro hs1 (by assumption : _ ∧ _))
  all_goals obtain ⟨_, hh1, hh2⟩ := hh
  all_goals go_wp2_with fail
  all_goals refine bodyPost_ret (v := .tuple #[.string ⟨#[77, 49, 49]⟩, .bool true]) (by simp [results, Tryz.results39, go_sem]; try rfl) rfl ⟨rfl, (baa (bt (ba _ _) hb1) _).drew⟩

theorem code_Text_12 (w : World) : Calls Tryz.prog 39 #[.agg #[.int .i64 12, .bool false]] w fun e w' => e = .returned (.tuple #[.string ⟨#[77, 49, 50]⟩, .bool true]) ∧ Below w.heap.size w w' := by
  go_enter Tryz.func39, Tryz.ntmps39
  go_wp2_with fail
  refine (code_Right_ok 12 _ (by omega) (by omega)).mono ?_
  rintro e w1 ⟨rfl, hb1⟩
  obtain ⟨hc1, hf1⟩ := bcell hb1
  have hz1 := hb1.size
  try simp at hz1
  have hs1x0 : w.heap.size < w1.heap.size := by omega
  have g1x0 : w1.cell? ⟨w.heap.size, 0, none⟩ = some (.int .i64 12) := (hc1 _ _ (by first | omega | (simp; done) | (simp; omega))).trans (by first | assumption | simp [go_sem] | simp [go_sem, *])
  have g1x1 : w1.cell? ⟨w.heap.size, 1, none⟩ = some (.bool false) := (hc1 _ _ (by first | omega | (simp; done) | (simp; omega))).trans (by first | assumption | simp [go_sem] | simp [go_sem, *])
  go_wp2_with fail
  have hs1 : w.heap.size < w1.heap.size := by omega
  clear hc1 hf1
  have kc : (convert 105 9 (.slice (some ⟨w1.heap.size, 0, none⟩) 2 2)).run Tryz.prog (w1.alloc (.cells #[.int .u8 49, .int .u8 50] 5)).drew = .ok (.string ⟨#[49, 50]⟩) (w1.alloc (.cells #[.int .u8 49, .int .u8 50] 5)).drew := conv_bytes w1 49 50 (by omega) (by omega)
  go_region_held (fun x => x.cell? ⟨w.heap.size, 0, none⟩ = some (.int .i64 12) ∧ x.cell? ⟨w.heap.size, 1, none⟩ = some (.bool false)) (first | assumption | go_keep)
      (first | (go_at_call 88; first | (refine (code_digit 1 _ (by omega) (by omega)).mono ?_; rintro e w3 ⟨rfl, rfl⟩) | (refine (code_digit 2 _ (by omega) (by omega)).mono ?_; rintro e w3 ⟨rfl, rfl⟩)))
  all_goals (have hh := And.intro hs1 (by assumption : _ ∧ _))
  all_goals obtain ⟨_, hh1, hh2⟩ := hh
  all_goals go_wp2_with fail
  all_goals refine bodyPost_ret (v := .tuple #[.string ⟨#[77, 49, 50]⟩, .bool true]) (by simp [results, Tryz.results39, go_sem]; try rfl) rfl ⟨rfl, (baa (bt (ba _ _) hb1) _).drew⟩

theorem code_Text_5L (w : World) : Calls Tryz.prog 39 #[.agg #[.int .i64 5, .bool true]] w fun e w' => e = .returned (.tuple #[.string ⟨#[77, 48, 53, 76]⟩, .bool true]) ∧ Below w.heap.size w w' := by
  go_enter Tryz.func39, Tryz.ntmps39
  go_wp2_with fail
  refine (code_Right_leap _).mono ?_
  rintro e w1 ⟨rfl, hb1⟩
  obtain ⟨hc1, hf1⟩ := bcell hb1
  have hz1 := hb1.size
  try simp at hz1
  have hs1x0 : w.heap.size < w1.heap.size := by omega
  have g1x0 : w1.cell? ⟨w.heap.size, 0, none⟩ = some (.int .i64 5) := (hc1 _ _ (by first | omega | (simp; done) | (simp; omega))).trans (by first | assumption | simp [go_sem] | simp [go_sem, *])
  have g1x1 : w1.cell? ⟨w.heap.size, 1, none⟩ = some (.bool true) := (hc1 _ _ (by first | omega | (simp; done) | (simp; omega))).trans (by first | assumption | simp [go_sem] | simp [go_sem, *])
  go_wp2_with fail
  have hs1 : w.heap.size < w1.heap.size := by omega
  clear hc1 hf1
  have kc : (convert 105 9 (.slice (some ⟨w1.heap.size, 0, none⟩) 2 2)).run Tryz.prog (w1.alloc (.cells #[.int .u8 48, .int .u8 53] 5)).drew = .ok (.string ⟨#[48, 53]⟩) (w1.alloc (.cells #[.int .u8 48, .int .u8 53] 5)).drew := conv_bytes w1 48 53 (by omega) (by omega)
  go_region_held (fun x => x.cell? ⟨w.heap.size, 0, none⟩ = some (.int .i64 5) ∧ x.cell? ⟨w.heap.size, 1, none⟩ = some (.bool true)) (first | assumption | go_keep)
      (first | (go_at_call 88; first | (refine (code_digit 0 _ (by omega) (by omega)).mono ?_; rintro e w3 ⟨rfl, rfl⟩) | (refine (code_digit 5 _ (by omega) (by omega)).mono ?_; rintro e w3 ⟨rfl, rfl⟩)))
  all_goals (have hh := And.intro hs1 (by assumption : _ ∧ _))
  all_goals obtain ⟨_, hh1, hh2⟩ := hh
  all_goals go_wp2_with fail
  all_goals refine bodyPost_ret (v := .tuple #[.string ⟨#[77, 48, 53, 76]⟩, .bool true]) (by simp [results, Tryz.results39, go_sem]; try rfl) rfl ⟨rfl, (baa (bt (ba _ _) hb1) _).drew⟩

end Go.Proofs.YtafenpgafmdenaaGreatDoor
