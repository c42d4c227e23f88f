/- A byte as a text, ahead of a text. -/
import Derived.Test.YtagmdglmflcegaaGreatDoorFlat
import Derived.Laws.IdiomStrings
namespace Go.Proofs.YtagmdglmflcegaaGreatDoor
open Go.ChangeShapes Go.WideShapes Go.ChangeAt Go.RowKit
set_option linter.unusedVariables false
set_option maxRecDepth 100000
theorem app1 (a : UInt8) (l : List UInt8) : (⟨#[a]⟩ : ByteArray) ++ ⟨l.toArray⟩ = ⟨(a :: l).toArray⟩ := by
  have : ((⟨#[a]⟩ : ByteArray) ++ ⟨l.toArray⟩).data.toList = (⟨(a :: l).toArray⟩ : ByteArray).data.toList := by simp
  cases h : ((⟨#[a]⟩ : ByteArray) ++ ⟨l.toArray⟩)
  rw [h] at this
  exact congrArg ByteArray.mk (Array.toList_inj.1 this)
theorem conv_byte1 (w : World) (x : Int) :
    (convert 94 9 (.slice (some ⟨w.heap.size, 0, none⟩) 1 1)).run Tryz.prog (w.alloc (.cells #[.int .u8 x] 5)) = .ok (.string ⟨#[UInt8.ofNat x.toNat]⟩) (w.alloc (.cells #[.int .u8 x] 5)) :=
  run_convert_bytes_arg (P := Tryz.prog) (w.alloc (.cells #[.int .u8 x] 5)) 94 5 Tryz.underlying94 Tryz.underlying5 w.heap.size 0 1 1 [x] rfl (by
    intro i hi
    rcases i with _ | i
    · exact World.cell?_alloc_mark w _ 5 _ 0
    · omega) 9 Tryz.underlying9
end Go.Proofs.YtagmdglmflcegaaGreatDoor
