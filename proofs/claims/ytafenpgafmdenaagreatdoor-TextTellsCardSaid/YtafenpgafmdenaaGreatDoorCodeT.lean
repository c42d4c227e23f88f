/- Layer 9: texts of codes, for every input. -/
import Derived.Test.YtafenpgafmdenaaGreatDoorLD
import Derived.Test.YtafenpgafmdenaaGreatDoorCode5
namespace Go.Proofs.YtafenpgafmdenaaGreatDoor
open Go.ChangeShapes Go.WideShapes Go.ChangeAt Go.RowKit
set_option linter.unusedVariables false
set_option maxRecDepth 100000
def codeTxt (n : Int) (l : Bool) : ByteArray :=
  if l then ⟨#[77, UInt8.ofNat (48 + n.toNat / 10), UInt8.ofNat (48 + n.toNat % 10), 76]⟩ else ⟨#[77, UInt8.ofNat (48 + n.toNat / 10), UInt8.ofNat (48 + n.toNat % 10)]⟩
def txtV (n : Int) (l : Bool) : ByteArray := if Cal.right n l then codeTxt n l else ByteArray.empty
theorem conv_bytes0 (w : World) (x y : Nat) (hx : x < 256) (hy : y < 256) :
    (convert 105 9 (.slice (some ⟨w.heap.size, 0, none⟩) 2 2)).run Tryz.prog (w.alloc (.cells #[.int .u8 (x : Int), .int .u8 (y : Int)] 5)) = .ok (.string ⟨#[UInt8.ofNat x, UInt8.ofNat y]⟩) (w.alloc (.cells #[.int .u8 (x : Int), .int .u8 (y : Int)] 5)) := by
  have h := run_convert_bytes_arg (P := Tryz.prog) (w.alloc (.cells #[.int .u8 (x : Int), .int .u8 (y : Int)] 5)) 105 5 Tryz.underlying105 Tryz.underlying5 w.heap.size 0 2 2 [(x : Int), (y : Int)] rfl (by
    intro i hi
    rcases i with _ | _ | i
    · exact World.cell?_alloc_mark w _ 5 _ 0
    · exact World.cell?_alloc_mark w _ 5 _ 1
    · omega) 9 Tryz.underlying9
  exact h
theorem codeTxt_1 : codeTxt 1 false = ⟨#[77, 48, 49]⟩ := rfl
theorem codeTxt_2 : codeTxt 2 false = ⟨#[77, 48, 50]⟩ := rfl
theorem codeTxt_3 : codeTxt 3 false = ⟨#[77, 48, 51]⟩ := rfl
theorem codeTxt_4 : codeTxt 4 false = ⟨#[77, 48, 52]⟩ := rfl
theorem codeTxt_5 : codeTxt 5 false = ⟨#[77, 48, 53]⟩ := rfl
theorem codeTxt_6 : codeTxt 6 false = ⟨#[77, 48, 54]⟩ := rfl
theorem codeTxt_7 : codeTxt 7 false = ⟨#[77, 48, 55]⟩ := rfl
theorem codeTxt_8 : codeTxt 8 false = ⟨#[77, 48, 56]⟩ := rfl
theorem codeTxt_9 : codeTxt 9 false = ⟨#[77, 48, 57]⟩ := rfl
theorem codeTxt_10 : codeTxt 10 false = ⟨#[77, 49, 48]⟩ := rfl
theorem codeTxt_11 : codeTxt 11 false = ⟨#[77, 49, 49]⟩ := rfl
theorem codeTxt_12 : codeTxt 12 false = ⟨#[77, 49, 50]⟩ := rfl
theorem codeTxt_5L : codeTxt 5 true = ⟨#[77, 48, 53, 76]⟩ := rfl
theorem code_Text_any (n : Int) (l : Bool) (w : World) : Calls Tryz.prog 39 #[.agg #[.int .i64 n, .bool l]] w fun e w' => e = .returned (.tuple #[.string (txtV n l), .bool (Cal.right n l)]) ∧ Below w.heap.size w w' := by
  cases h : Cal.right n l
  · rw [txtV, h, if_neg Bool.false_ne_true]
    exact code_Text_no n l w h
  · rw [txtV, h, if_pos rfl]
    rcases right_cases n l h with ⟨h1, h2, rfl⟩ | ⟨rfl, rfl⟩
    · rcases (show n = 1 ∨ n = 2 ∨ n = 3 ∨ n = 4 ∨ n = 5 ∨ n = 6 ∨ n = 7 ∨ n = 8 ∨ n = 9 ∨ n = 10 ∨ n = 11 ∨ n = 12 by omega) with rfl | rfl | rfl | rfl | rfl | rfl | rfl | rfl | rfl | rfl | rfl | rfl
      · rw [codeTxt_1]; exact code_Text_1 w
      · rw [codeTxt_2]; exact code_Text_2 w
      · rw [codeTxt_3]; exact code_Text_3 w
      · rw [codeTxt_4]; exact code_Text_4 w
      · rw [codeTxt_5]; exact code_Text_5 w
      · rw [codeTxt_6]; exact code_Text_6 w
      · rw [codeTxt_7]; exact code_Text_7 w
      · rw [codeTxt_8]; exact code_Text_8 w
      · rw [codeTxt_9]; exact code_Text_9 w
      · rw [codeTxt_10]; exact code_Text_10 w
      · rw [codeTxt_11]; exact code_Text_11 w
      · rw [codeTxt_12]; exact code_Text_12 w
    · rw [codeTxt_5L]; exact code_Text_5L w
theorem ref9_Text_no (n : Int) (l : Bool) (w : World) (h : Cal.right n l = false) : Calls Tryz.prog 41 #[.agg #[.int .i64 n, .bool l]] w fun e w' => e = .returned (.tuple #[.string ByteArray.empty, .bool false]) ∧ Below w.heap.size w w' := by
  go_enter Tryz.func41, Tryz.ntmps41
  go_wp2_with fail
  refine (ref9_Right_no n l _ h).mono ?_
  rintro e w1 ⟨rfl, hb1⟩
  obtain ⟨hc1, hf1⟩ := bcell hb1
  have hz1 := hb1.size
  try simp at hz1
  go_wp2_with fail
  refine bodyPost_ret (v := .tuple #[.string ByteArray.empty, .bool false]) (by simp [results, Tryz.results41, go_sem]; try rfl) rfl ⟨rfl, bt (ba _ _) hb1⟩
set_option maxHeartbeats 1000000 in
theorem ref9_Text_1 (w : World) : Calls Tryz.prog 41 #[.agg #[.int .i64 1, .bool false]] w fun e w' => e = .returned (.tuple #[.string ⟨#[77, 48, 49]⟩, .bool true]) ∧ Below w.heap.size w w' := by
  go_enter Tryz.func41, Tryz.ntmps41
  go_wp2_with fail
  refine (ref9_Right_ok 1 _ (by omega) (by omega)).mono ?_
  rintro e w1 ⟨rfl, hb1⟩
  obtain ⟨hc1, hf1⟩ := bcell hb1
  have hz1 := hb1.size
  try simp at hz1
  have hs1x0 : w.heap.size < w1.heap.size := by omega
  have g1x0 : w1.cell? ⟨w.heap.size, 0, none⟩ = some (.int .i64 1) := (hc1 _ _ (by first | omega | (simp; done) | (simp; omega))).trans (by first | assumption | simp [go_sem] | simp [go_sem, *])
  have g1x1 : w1.cell? ⟨w.heap.size, 1, none⟩ = some (.bool false) := (hc1 _ _ (by first | omega | (simp; done) | (simp; omega))).trans (by first | assumption | simp [go_sem] | simp [go_sem, *])
  have kc : (convert 105 9 (.slice (some ⟨w1.heap.size, 0, none⟩) 2 2)).run Tryz.prog (w1.alloc (.cells #[.int .u8 48, .int .u8 49] 5)) = .ok (.string ⟨#[48, 49]⟩) (w1.alloc (.cells #[.int .u8 48, .int .u8 49] 5)) := conv_bytes0 w1 48 49 (by omega) (by omega)
  clear hc1 hf1
  go_wp2_with fail
  refine bodyPost_ret (v := .tuple #[.string ⟨#[77, 48, 49]⟩, .bool true]) (by simp [results, Tryz.results41, go_sem]; try rfl) rfl ⟨rfl, baa (bt (ba _ _) hb1) _⟩
set_option maxHeartbeats 1000000 in
theorem ref9_Text_2 (w : World) : Calls Tryz.prog 41 #[.agg #[.int .i64 2, .bool false]] w fun e w' => e = .returned (.tuple #[.string ⟨#[77, 48, 50]⟩, .bool true]) ∧ Below w.heap.size w w' := by
  go_enter Tryz.func41, Tryz.ntmps41
  go_wp2_with fail
  refine (ref9_Right_ok 2 _ (by omega) (by omega)).mono ?_
  rintro e w1 ⟨rfl, hb1⟩
  obtain ⟨hc1, hf1⟩ := bcell hb1
  have hz1 := hb1.size
  try simp at hz1
  have hs1x0 : w.heap.size < w1.heap.size := by omega
  have g1x0 : w1.cell? ⟨w.heap.size, 0, none⟩ = some (.int .i64 2) := (hc1 _ _ (by first | omega | (simp; done) | (simp; omega))).trans (by first | assumption | simp [go_sem] | simp [go_sem, *])
  have g1x1 : w1.cell? ⟨w.heap.size, 1, none⟩ = some (.bool false) := (hc1 _ _ (by first | omega | (simp; done) | (simp; omega))).trans (by first | assumption | simp [go_sem] | simp [go_sem, *])
  have kc : (convert 105 9 (.slice (some ⟨w1.heap.size, 0, none⟩) 2 2)).run Tryz.prog (w1.alloc (.cells #[.int .u8 48, .int .u8 50] 5)) = .ok (.string ⟨#[48, 50]⟩) (w1.alloc (.cells #[.int .u8 48, .int .u8 50] 5)) := conv_bytes0 w1 48 50 (by omega) (by omega)
  clear hc1 hf1
  go_wp2_with fail
  refine bodyPost_ret (v := .tuple #[.string ⟨#[77, 48, 50]⟩, .bool true]) (by simp [results, Tryz.results41, go_sem]; try rfl) rfl ⟨rfl, baa (bt (ba _ _) hb1) _⟩
set_option maxHeartbeats 1000000 in
theorem ref9_Text_3 (w : World) : Calls Tryz.prog 41 #[.agg #[.int .i64 3, .bool false]] w fun e w' => e = .returned (.tuple #[.string ⟨#[77, 48, 51]⟩, .bool true]) ∧ Below w.heap.size w w' := by
  go_enter Tryz.func41, Tryz.ntmps41
  go_wp2_with fail
  refine (ref9_Right_ok 3 _ (by omega) (by omega)).mono ?_
  rintro e w1 ⟨rfl, hb1⟩
  obtain ⟨hc1, hf1⟩ := bcell hb1
  have hz1 := hb1.size
  try simp at hz1
  have hs1x0 : w.heap.size < w1.heap.size := by omega
  have g1x0 : w1.cell? ⟨w.heap.size, 0, none⟩ = some (.int .i64 3) := (hc1 _ _ (by first | omega | (simp; done) | (simp; omega))).trans (by first | assumption | simp [go_sem] | simp [go_sem, *])
  have g1x1 : w1.cell? ⟨w.heap.size, 1, none⟩ = some (.bool false) := (hc1 _ _ (by first | omega | (simp; done) | (simp; omega))).trans (by first | assumption | simp [go_sem] | simp [go_sem, *])
  have kc : (convert 105 9 (.slice (some ⟨w1.heap.size, 0, none⟩) 2 2)).run Tryz.prog (w1.alloc (.cells #[.int .u8 48, .int .u8 51] 5)) = .ok (.string ⟨#[48, 51]⟩) (w1.alloc (.cells #[.int .u8 48, .int .u8 51] 5)) := conv_bytes0 w1 48 51 (by omega) (by omega)
  clear hc1 hf1
  go_wp2_with fail
  refine bodyPost_ret (v := .tuple #[.string ⟨#[77, 48, 51]⟩, .bool true]) (by simp [results, Tryz.results41, go_sem]; try rfl) rfl ⟨rfl, baa (bt (ba _ _) hb1) _⟩
set_option maxHeartbeats 1000000 in
theorem ref9_Text_4 (w : World) : Calls Tryz.prog 41 #[.agg #[.int .i64 4, .bool false]] w fun e w' => e = .returned (.tuple #[.string ⟨#[77, 48, 52]⟩, .bool true]) ∧ Below w.heap.size w w' := by
  go_enter Tryz.func41, Tryz.ntmps41
  go_wp2_with fail
  refine (ref9_Right_ok 4 _ (by omega) (by omega)).mono ?_
  rintro e w1 ⟨rfl, hb1⟩
  obtain ⟨hc1, hf1⟩ := bcell hb1
  have hz1 := hb1.size
  try simp at hz1
  have hs1x0 : w.heap.size < w1.heap.size := by omega
  have g1x0 : w1.cell? ⟨w.heap.size, 0, none⟩ = some (.int .i64 4) := (hc1 _ _ (by first | omega | (simp; done) | (simp; omega))).trans (by first | assumption | simp [go_sem] | simp [go_sem, *])
  have g1x1 : w1.cell? ⟨w.heap.size, 1, none⟩ = some (.bool false) := (hc1 _ _ (by first | omega | (simp; done) | (simp; omega))).trans (by first | assumption | simp [go_sem] | simp [go_sem, *])
  have kc : (convert 105 9 (.slice (some ⟨w1.heap.size, 0, none⟩) 2 2)).run Tryz.prog (w1.alloc (.cells #[.int .u8 48, .int .u8 52] 5)) = .ok (.string ⟨#[48, 52]⟩) (w1.alloc (.cells #[.int .u8 48, .int .u8 52] 5)) := conv_bytes0 w1 48 52 (by omega) (by omega)
  clear hc1 hf1
  go_wp2_with fail
  refine bodyPost_ret (v := .tuple #[.string ⟨#[77, 48, 52]⟩, .bool true]) (by simp [results, Tryz.results41, go_sem]; try rfl) rfl ⟨rfl, baa (bt (ba _ _) hb1) _⟩
set_option maxHeartbeats 1000000 in
theorem ref9_Text_5 (w : World) : Calls Tryz.prog 41 #[.agg #[.int .i64 5, .bool false]] w fun e w' => e = .returned (.tuple #[.string ⟨#[77, 48, 53]⟩, .bool true]) ∧ Below w.heap.size w w' := by
  go_enter Tryz.func41, Tryz.ntmps41
  go_wp2_with fail
  refine (ref9_Right_ok 5 _ (by omega) (by omega)).mono ?_
  rintro e w1 ⟨rfl, hb1⟩
  obtain ⟨hc1, hf1⟩ := bcell hb1
  have hz1 := hb1.size
  try simp at hz1
  have hs1x0 : w.heap.size < w1.heap.size := by omega
  have g1x0 : w1.cell? ⟨w.heap.size, 0, none⟩ = some (.int .i64 5) := (hc1 _ _ (by first | omega | (simp; done) | (simp; omega))).trans (by first | assumption | simp [go_sem] | simp [go_sem, *])
  have g1x1 : w1.cell? ⟨w.heap.size, 1, none⟩ = some (.bool false) := (hc1 _ _ (by first | omega | (simp; done) | (simp; omega))).trans (by first | assumption | simp [go_sem] | simp [go_sem, *])
  have kc : (convert 105 9 (.slice (some ⟨w1.heap.size, 0, none⟩) 2 2)).run Tryz.prog (w1.alloc (.cells #[.int .u8 48, .int .u8 53] 5)) = .ok (.string ⟨#[48, 53]⟩) (w1.alloc (.cells #[.int .u8 48, .int .u8 53] 5)) := conv_bytes0 w1 48 53 (by omega) (by omega)
  clear hc1 hf1
  go_wp2_with fail
  refine bodyPost_ret (v := .tuple #[.string ⟨#[77, 48, 53]⟩, .bool true]) (by simp [results, Tryz.results41, go_sem]; try rfl) rfl ⟨rfl, baa (bt (ba _ _) hb1) _⟩
set_option maxHeartbeats 1000000 in
theorem ref9_Text_6 (w : World) : Calls Tryz.prog 41 #[.agg #[.int .i64 6, .bool false]] w fun e w' => e = .returned (.tuple #[.string ⟨#[77, 48, 54]⟩, .bool true]) ∧ Below w.heap.size w w' := by
  go_enter Tryz.func41, Tryz.ntmps41
  go_wp2_with fail
  refine (ref9_Right_ok 6 _ (by omega) (by omega)).mono ?_
  rintro e w1 ⟨rfl, hb1⟩
  obtain ⟨hc1, hf1⟩ := bcell hb1
  have hz1 := hb1.size
  try simp at hz1
  have hs1x0 : w.heap.size < w1.heap.size := by omega
  have g1x0 : w1.cell? ⟨w.heap.size, 0, none⟩ = some (.int .i64 6) := (hc1 _ _ (by first | omega | (simp; done) | (simp; omega))).trans (by first | assumption | simp [go_sem] | simp [go_sem, *])
  have g1x1 : w1.cell? ⟨w.heap.size, 1, none⟩ = some (.bool false) := (hc1 _ _ (by first | omega | (simp; done) | (simp; omega))).trans (by first | assumption | simp [go_sem] | simp [go_sem, *])
  have kc : (convert 105 9 (.slice (some ⟨w1.heap.size, 0, none⟩) 2 2)).run Tryz.prog (w1.alloc (.cells #[.int .u8 48, .int .u8 54] 5)) = .ok (.string ⟨#[48, 54]⟩) (w1.alloc (.cells #[.int .u8 48, .int .u8 54] 5)) := conv_bytes0 w1 48 54 (by omega) (by omega)
  clear hc1 hf1
  go_wp2_with fail
  refine bodyPost_ret (v := .tuple #[.string ⟨#[77, 48, 54]⟩, .bool true]) (by simp [results, Tryz.results41, go_sem]; try rfl) rfl ⟨rfl, baa (bt (ba _ _) hb1) _⟩
set_option maxHeartbeats 1000000 in
theorem ref9_Text_7 (w : World) : Calls Tryz.prog 41 #[.agg #[.int .i64 7, .bool false]] w fun e w' => e = .returned (.tuple #[.string ⟨#[77, 48, 55]⟩, .bool true]) ∧ Below w.heap.size w w' := by
  go_enter Tryz.func41, Tryz.ntmps41
  go_wp2_with fail
  refine (ref9_Right_ok 7 _ (by omega) (by omega)).mono ?_
  rintro e w1 ⟨rfl, hb1⟩
  obtain ⟨hc1, hf1⟩ := bcell hb1
  have hz1 := hb1.size
  try simp at hz1
  have hs1x0 : w.heap.size < w1.heap.size := by omega
  have g1x0 : w1.cell? ⟨w.heap.size, 0, none⟩ = some (.int .i64 7) := (hc1 _ _ (by first | omega | (simp; done) | (simp; omega))).trans (by first | assumption | simp [go_sem] | simp [go_sem, *])
  have g1x1 : w1.cell? ⟨w.heap.size, 1, none⟩ = some (.bool false) := (hc1 _ _ (by first | omega | (simp; done) | (simp; omega))).trans (by first | assumption | simp [go_sem] | simp [go_sem, *])
  have kc : (convert 105 9 (.slice (some ⟨w1.heap.size, 0, none⟩) 2 2)).run Tryz.prog (w1.alloc (.cells #[.int .u8 48, .int .u8 55] 5)) = .ok (.string ⟨#[48, 55]⟩) (w1.alloc (.cells #[.int .u8 48, .int .u8 55] 5)) := conv_bytes0 w1 48 55 (by omega) (by omega)
  clear hc1 hf1
  go_wp2_with fail
  refine bodyPost_ret (v := .tuple #[.string ⟨#[77, 48, 55]⟩, .bool true]) (by simp [results, Tryz.results41, go_sem]; try rfl) rfl ⟨rfl, baa (bt (ba _ _) hb1) _⟩
set_option maxHeartbeats 1000000 in
theorem ref9_Text_8 (w : World) : Calls Tryz.prog 41 #[.agg #[.int .i64 8, .bool false]] w fun e w' => e = .returned (.tuple #[.string ⟨#[77, 48, 56]⟩, .bool true]) ∧ Below w.heap.size w w' := by
  go_enter Tryz.func41, Tryz.ntmps41
  go_wp2_with fail
  refine (ref9_Right_ok 8 _ (by omega) (by omega)).mono ?_
  rintro e w1 ⟨rfl, hb1⟩
  obtain ⟨hc1, hf1⟩ := bcell hb1
  have hz1 := hb1.size
  try simp at hz1
  have hs1x0 : w.heap.size < w1.heap.size := by omega
  have g1x0 : w1.cell? ⟨w.heap.size, 0, none⟩ = some (.int .i64 8) := (hc1 _ _ (by first | omega | (simp; done) | (simp; omega))).trans (by first | assumption | simp [go_sem] | simp [go_sem, *])
  have g1x1 : w1.cell? ⟨w.heap.size, 1, none⟩ = some (.bool false) := (hc1 _ _ (by first | omega | (simp; done) | (simp; omega))).trans (by first | assumption | simp [go_sem] | simp [go_sem, *])
  have kc : (convert 105 9 (.slice (some ⟨w1.heap.size, 0, none⟩) 2 2)).run Tryz.prog (w1.alloc (.cells #[.int .u8 48, .int .u8 56] 5)) = .ok (.string ⟨#[48, 56]⟩) (w1.alloc (.cells #[.int .u8 48, .int .u8 56] 5)) := conv_bytes0 w1 48 56 (by omega) (by omega)
  clear hc1 hf1
  go_wp2_with fail
  refine bodyPost_ret (v := .tuple #[.string ⟨#[77, 48, 56]⟩, .bool true]) (by simp [results, Tryz.results41, go_sem]; try rfl) rfl ⟨rfl, baa (bt (ba _ _) hb1) _⟩
set_option maxHeartbeats 1000000 in
theorem ref9_Text_9 (w : World) : Calls Tryz.prog 41 #[.agg #[.int .i64 9, .bool false]] w fun e w' => e = .returned (.tuple #[.string ⟨#[77, 48, 57]⟩, .bool true]) ∧ Below w.heap.size w w' := by
  go_enter Tryz.func41, Tryz.ntmps41
  go_wp2_with fail
  refine (ref9_Right_ok 9 _ (by omega) (by omega)).mono ?_
  rintro e w1 ⟨rfl, hb1⟩
  obtain ⟨hc1, hf1⟩ := bcell hb1
  have hz1 := hb1.size
  try simp at hz1
  have hs1x0 : w.heap.size < w1.heap.size := by omega
  have g1x0 : w1.cell? ⟨w.heap.size, 0, none⟩ = some (.int .i64 9) := (hc1 _ _ (by first | omega | (simp; done) | (simp; omega))).trans (by first | assumption | simp [go_sem] | simp [go_sem, *])
  have g1x1 : w1.cell? ⟨w.heap.size, 1, none⟩ = some (.bool false) := (hc1 _ _ (by first | omega | (simp; done) | (simp; omega))).trans (by first | assumption | simp [go_sem] | simp [go_sem, *])
  have kc : (convert 105 9 (.slice (some ⟨w1.heap.size, 0, none⟩) 2 2)).run Tryz.prog (w1.alloc (.cells #[.int .u8 48, .int .u8 57] 5)) = .ok (.string ⟨#[48, 57]⟩) (w1.alloc (.cells #[.int .u8 48, .int .u8 57] 5)) := conv_bytes0 w1 48 57 (by omega) (by omega)
  clear hc1 hf1
  go_wp2_with fail
  refine bodyPost_ret (v := .tuple #[.string ⟨#[77, 48, 57]⟩, .bool true]) (by simp [results, Tryz.results41, go_sem]; try rfl) rfl ⟨rfl, baa (bt (ba _ _) hb1) _⟩
set_option maxHeartbeats 1000000 in
theorem ref9_Text_10 (w : World) : Calls Tryz.prog 41 #[.agg #[.int .i64 10, .bool false]] w fun e w' => e = .returned (.tuple #[.string ⟨#[77, 49, 48]⟩, .bool true]) ∧ Below w.heap.size w w' := by
  go_enter Tryz.func41, Tryz.ntmps41
  go_wp2_with fail
  refine (ref9_Right_ok 10 _ (by omega) (by omega)).mono ?_
  rintro e w1 ⟨rfl, hb1⟩
  obtain ⟨hc1, hf1⟩ := bcell hb1
  have hz1 := hb1.size
  try simp at hz1
  have hs1x0 : w.heap.size < w1.heap.size := by omega
  have g1x0 : w1.cell? ⟨w.heap.size, 0, none⟩ = some (.int .i64 10) := (hc1 _ _ (by first | omega | (simp; done) | (simp; omega))).trans (by first | assumption | simp [go_sem] | simp [go_sem, *])
  have g1x1 : w1.cell? ⟨w.heap.size, 1, none⟩ = some (.bool false) := (hc1 _ _ (by first | omega | (simp; done) | (simp; omega))).trans (by first | assumption | simp [go_sem] | simp [go_sem, *])
  have kc : (convert 105 9 (.slice (some ⟨w1.heap.size, 0, none⟩) 2 2)).run Tryz.prog (w1.alloc (.cells #[.int .u8 49, .int .u8 48] 5)) = .ok (.string ⟨#[49, 48]⟩) (w1.alloc (.cells #[.int .u8 49, .int .u8 48] 5)) := conv_bytes0 w1 49 48 (by omega) (by omega)
  clear hc1 hf1
  go_wp2_with fail
  refine bodyPost_ret (v := .tuple #[.string ⟨#[77, 49, 48]⟩, .bool true]) (by simp [results, Tryz.results41, go_sem]; try rfl) rfl ⟨rfl, baa (bt (ba _ _) hb1) _⟩
set_option maxHeartbeats 1000000 in
theorem ref9_Text_11 (w : World) : Calls Tryz.prog 41 #[.agg #[.int .i64 11, .bool false]] w fun e w' => e = .returned (.tuple #[.string ⟨#[77, 49, 49]⟩, .bool true]) ∧ Below w.heap.size w w' := by
  go_enter Tryz.func41, Tryz.ntmps41
  go_wp2_with fail
  refine (ref9_Right_ok 11 _ (by omega) (by omega)).mono ?_
  rintro e w1 ⟨rfl, hb1⟩
  obtain ⟨hc1, hf1⟩ := bcell hb1
  have hz1 := hb1.size
  try simp at hz1
  have hs1x0 : w.heap.size < w1.heap.size := by omega
  have g1x0 : w1.cell? ⟨w.heap.size, 0, none⟩ = some (.int .i64 11) := (hc1 _ _ (by first | omega | (simp; done) | (simp; omega))).trans (by first | assumption | simp [go_sem] | simp [go_sem, *])
  have g1x1 : w1.cell? ⟨w.heap.size, 1, none⟩ = some (.bool false) := (hc1 _ _ (by first | omega | (simp; done) | (simp; omega))).trans (by first | assumption | simp [go_sem] | simp [go_sem, *])
  have kc : (convert 105 9 (.slice (some ⟨w1.heap.size, 0, none⟩) 2 2)).run Tryz.prog (w1.alloc (.cells #[.int .u8 49, .int .u8 49] 5)) = .ok (.string ⟨#[49, 49]⟩) (w1.alloc (.cells #[.int .u8 49, .int .u8 49] 5)) := conv_bytes0 w1 49 49 (by omega) (by omega)
  clear hc1 hf1
  go_wp2_with fail
  refine bodyPost_ret (v := .tuple #[.string ⟨#[77, 49, 49]⟩, .bool true]) (by simp [results, Tryz.results41, go_sem]; try rfl) rfl ⟨rfl, baa (bt (ba _ _) hb1) _⟩
set_option maxHeartbeats 1000000 in
theorem ref9_Text_12 (w : World) : Calls Tryz.prog 41 #[.agg #[.int .i64 12, .bool false]] w fun e w' => e = .returned (.tuple #[.string ⟨#[77, 49, 50]⟩, .bool true]) ∧ Below w.heap.size w w' := by
  go_enter Tryz.func41, Tryz.ntmps41
  go_wp2_with fail
  refine (ref9_Right_ok 12 _ (by omega) (by omega)).mono ?_
  rintro e w1 ⟨rfl, hb1⟩
  obtain ⟨hc1, hf1⟩ := bcell hb1
  have hz1 := hb1.size
  try simp at hz1
  have hs1x0 : w.heap.size < w1.heap.size := by omega
  have g1x0 : w1.cell? ⟨w.heap.size, 0, none⟩ = some (.int .i64 12) := (hc1 _ _ (by first | omega | (simp; done) | (simp; omega))).trans (by first | assumption | simp [go_sem] | simp [go_sem, *])
  have g1x1 : w1.cell? ⟨w.heap.size, 1, none⟩ = some (.bool false) := (hc1 _ _ (by first | omega | (simp; done) | (simp; omega))).trans (by first | assumption | simp [go_sem] | simp [go_sem, *])
  have kc : (convert 105 9 (.slice (some ⟨w1.heap.size, 0, none⟩) 2 2)).run Tryz.prog (w1.alloc (.cells #[.int .u8 49, .int .u8 50] 5)) = .ok (.string ⟨#[49, 50]⟩) (w1.alloc (.cells #[.int .u8 49, .int .u8 50] 5)) := conv_bytes0 w1 49 50 (by omega) (by omega)
  clear hc1 hf1
  go_wp2_with fail
  refine bodyPost_ret (v := .tuple #[.string ⟨#[77, 49, 50]⟩, .bool true]) (by simp [results, Tryz.results41, go_sem]; try rfl) rfl ⟨rfl, baa (bt (ba _ _) hb1) _⟩
set_option maxHeartbeats 1000000 in
theorem ref9_Text_5L (w : World) : Calls Tryz.prog 41 #[.agg #[.int .i64 5, .bool true]] w fun e w' => e = .returned (.tuple #[.string ⟨#[77, 48, 53, 76]⟩, .bool true]) ∧ Below w.heap.size w w' := by
  go_enter Tryz.func41, Tryz.ntmps41
  go_wp2_with fail
  refine (ref9_Right_leap _).mono ?_
  rintro e w1 ⟨rfl, hb1⟩
  obtain ⟨hc1, hf1⟩ := bcell hb1
  have hz1 := hb1.size
  try simp at hz1
  have hs1x0 : w.heap.size < w1.heap.size := by omega
  have g1x0 : w1.cell? ⟨w.heap.size, 0, none⟩ = some (.int .i64 5) := (hc1 _ _ (by first | omega | (simp; done) | (simp; omega))).trans (by first | assumption | simp [go_sem] | simp [go_sem, *])
  have g1x1 : w1.cell? ⟨w.heap.size, 1, none⟩ = some (.bool true) := (hc1 _ _ (by first | omega | (simp; done) | (simp; omega))).trans (by first | assumption | simp [go_sem] | simp [go_sem, *])
  have kc : (convert 105 9 (.slice (some ⟨w1.heap.size, 0, none⟩) 2 2)).run Tryz.prog (w1.alloc (.cells #[.int .u8 48, .int .u8 53] 5)) = .ok (.string ⟨#[48, 53]⟩) (w1.alloc (.cells #[.int .u8 48, .int .u8 53] 5)) := conv_bytes0 w1 48 53 (by omega) (by omega)
  clear hc1 hf1
  go_wp2_with fail
  refine bodyPost_ret (v := .tuple #[.string ⟨#[77, 48, 53, 76]⟩, .bool true]) (by simp [results, Tryz.results41, go_sem]; try rfl) rfl ⟨rfl, baa (bt (ba _ _) hb1) _⟩
theorem ref9_Text_any (n : Int) (l : Bool) (w : World) : Calls Tryz.prog 41 #[.agg #[.int .i64 n, .bool l]] w fun e w' => e = .returned (.tuple #[.string (txtV n l), .bool (Cal.right n l)]) ∧ Below w.heap.size w w' := by
  cases h : Cal.right n l
  · rw [txtV, h, if_neg Bool.false_ne_true]
    exact ref9_Text_no n l w h
  · rw [txtV, h, if_pos rfl]
    rcases right_cases n l h with ⟨h1, h2, rfl⟩ | ⟨rfl, rfl⟩
    · rcases (show n = 1 ∨ n = 2 ∨ n = 3 ∨ n = 4 ∨ n = 5 ∨ n = 6 ∨ n = 7 ∨ n = 8 ∨ n = 9 ∨ n = 10 ∨ n = 11 ∨ n = 12 by omega) with rfl | rfl | rfl | rfl | rfl | rfl | rfl | rfl | rfl | rfl | rfl | rfl
      · rw [codeTxt_1]; exact ref9_Text_1 w
      · rw [codeTxt_2]; exact ref9_Text_2 w
      · rw [codeTxt_3]; exact ref9_Text_3 w
      · rw [codeTxt_4]; exact ref9_Text_4 w
      · rw [codeTxt_5]; exact ref9_Text_5 w
      · rw [codeTxt_6]; exact ref9_Text_6 w
      · rw [codeTxt_7]; exact ref9_Text_7 w
      · rw [codeTxt_8]; exact ref9_Text_8 w
      · rw [codeTxt_9]; exact ref9_Text_9 w
      · rw [codeTxt_10]; exact ref9_Text_10 w
      · rw [codeTxt_11]; exact ref9_Text_11 w
      · rw [codeTxt_12]; exact ref9_Text_12 w
    · rw [codeTxt_5L]; exact ref9_Text_5L w
end Go.Proofs.YtafenpgafmdenaaGreatDoor
