/- Layer 9: texts of codes, for every input. -/
import Derived.Test.YtmiadhiomingmaaDoorLD
import Derived.Test.YtmiadhiomingmaaDoorCode5
namespace Go.Proofs.YtmiadhiomingmaaDoor
open Go.ChangeShapes Go.WideShapes Go.ChangeAt Go.RowKit
set_option linter.unusedVariables false
set_option maxRecDepth 100000
def codeTxt (n : Int) (l : Bool) : ByteArray :=
  if l then ⟨#[77, UInt8.ofNat (48 + n.toNat / 10), UInt8.ofNat (48 + n.toNat % 10), 76]⟩ else ⟨#[77, UInt8.ofNat (48 + n.toNat / 10), UInt8.ofNat (48 + n.toNat % 10)]⟩
def txtV (n : Int) (l : Bool) : ByteArray := if Cal.right n l then codeTxt n l else ByteArray.empty
theorem conv_bytes0 (w : World) (x y : Nat) (hx : x < 256) (hy : y < 256) :
    (convert 101 9 (.slice (some ⟨w.heap.size, 0, none⟩) 2 2)).run Tryd.prog (w.alloc (.cells #[.int .u8 (x : Int), .int .u8 (y : Int)] 5)) = .ok (.string ⟨#[UInt8.ofNat x, UInt8.ofNat y]⟩) (w.alloc (.cells #[.int .u8 (x : Int), .int .u8 (y : Int)] 5)) := by
  have h := run_convert_bytes_arg (P := Tryd.prog) (w.alloc (.cells #[.int .u8 (x : Int), .int .u8 (y : Int)] 5)) 101 5 Tryd.underlying101 Tryd.underlying5 w.heap.size 0 2 2 [(x : Int), (y : Int)] rfl (by
    intro i hi
    rcases i with _ | _ | i
    · exact World.cell?_alloc_mark w _ 5 _ 0
    · exact World.cell?_alloc_mark w _ 5 _ 1
    · omega) 9 Tryd.underlying9
  exact h
theorem codeTxt_1 : codeTxt 1 false = ⟨#[77, 48, 49]⟩ := rfl
theorem codeTxt_2 : codeTxt 2 false = ⟨#[77, 48, 50]⟩ := rfl
theorem codeTxt_3 : codeTxt 3 false = ⟨#[77, 48, 51]⟩ := rfl
theorem codeTxt_4 : codeTxt 4 false = ⟨#[77, 48, 52]⟩ := rfl
theorem codeTxt_5 : codeTxt 5 false = ⟨#[77, 48, 53]⟩ := rfl
theorem codeTxt_6 : codeTxt 6 false = ⟨#[77, 48, 54]⟩ := rfl
theorem codeTxt_7 : codeTxt 7 false = ⟨#[77, 48, 55]⟩ := rfl
theorem codeTxt_8 : codeTxt 8 false = ⟨#[77, 48, 56]⟩ := rfl
theorem codeTxt_9 : codeTxt 9 false = ⟨#[77, 48, 57]⟩ := rfl
theorem codeTxt_10 : codeTxt 10 false = ⟨#[77, 49, 48]⟩ := rfl
theorem codeTxt_11 : codeTxt 11 false = ⟨#[77, 49, 49]⟩ := rfl
theorem codeTxt_12 : codeTxt 12 false = ⟨#[77, 49, 50]⟩ := rfl
theorem codeTxt_5L : codeTxt 5 true = ⟨#[77, 48, 53, 76]⟩ := rfl
theorem code_Text_any (n : Int) (l : Bool) (w : World) : Calls Tryd.prog 31 #[.agg #[.int .i64 n, .bool l]] w fun e w' => e = .returned (.tuple #[.string (txtV n l), .bool (Cal.right n l)]) ∧ Below w.heap.size w w' := by
  cases h : Cal.right n l
  · rw [txtV, h, if_neg Bool.false_ne_true]
    exact code_Text_no n l w h
  · rw [txtV, h, if_pos rfl]
    rcases right_cases n l h with ⟨h1, h2, rfl⟩ | ⟨rfl, rfl⟩
    · rcases (show n = 1 ∨ n = 2 ∨ n = 3 ∨ n = 4 ∨ n = 5 ∨ n = 6 ∨ n = 7 ∨ n = 8 ∨ n = 9 ∨ n = 10 ∨ n = 11 ∨ n = 12 by omega) with rfl | rfl | rfl | rfl | rfl | rfl | rfl | rfl | rfl | rfl | rfl | rfl
      · rw [codeTxt_1]; exact code_Text_1 w
      · rw [codeTxt_2]; exact code_Text_2 w
      · rw [codeTxt_3]; exact code_Text_3 w
      · rw [codeTxt_4]; exact code_Text_4 w
      · rw [codeTxt_5]; exact code_Text_5 w
      · rw [codeTxt_6]; exact code_Text_6 w
      · rw [codeTxt_7]; exact code_Text_7 w
      · rw [codeTxt_8]; exact code_Text_8 w
      · rw [codeTxt_9]; exact code_Text_9 w
      · rw [codeTxt_10]; exact code_Text_10 w
      · rw [codeTxt_11]; exact code_Text_11 w
      · rw [codeTxt_12]; exact code_Text_12 w
    · rw [codeTxt_5L]; exact code_Text_5L w
end Go.Proofs.YtmiadhiomingmaaDoor
