/- Layer 2: contracts of the parts. -/
import Derived.Test.YtinpdamfdaefmaaW1
import Derived.Test.YtinpdamfdaefmaaMath2
import Derived.Below
namespace Go.Proofs.Ytinpdamfdaefmaa
open Go.ChangeShapes Go.WideShapes Go.ChangeAt Go.RowKit
set_option linter.unusedVariables false

theorem bcell {W w1 : World} (hb : Below W.heap.size W w1) : (∀ b o, b < W.heap.size → w1.cell? ⟨b, o, none⟩ = W.cell? ⟨b, o, none⟩) ∧ (∀ b o, b < W.heap.size → w1.frozen? ⟨b, o, none⟩ = W.frozen? ⟨b, o, none⟩) :=
  ⟨fun b o h => hb.cell (p := ⟨b, o, none⟩) h, fun b o h => hb.frozen (p := ⟨b, o, none⟩) h⟩

theorem fits_I64 {n : Int} (h : Cal.fits n = true) : I64 n := by
  simp only [Cal.fits, Bool.and_eq_true, decide_eq_true_eq] at h
  exact h

/-! A moment's parts. -/
end Go.Proofs.Ytinpdamfdaefmaa
