import Derived.Test.YtankichdmlkfmaaGreatDoorXHE
import Derived.Test.YtankichdmlkfmaaGreatDoorXBB
set_option maxHeartbeats 8000000
set_option maxRecDepth 100000
set_option linter.unusedVariables false
section
namespace Go.Proofs.YtankichdmlkfmaaGreatDoor
open Go.ChangeShapes Go.WideShapes Go.ChangeAt Go.RowKit
end Go.Proofs.YtankichdmlkfmaaGreatDoor
end
section
namespace Go.Proofs.YtankichdmlkfmaaGreatDoor
open Go.ChangeShapes Go.WideShapes Go.ChangeAt Go.RowKit
def KevAt (w : World) (g : Nat) (b k : Int) (lp : Bool) : Prop := w.cell? ⟨g, 0, none⟩ = some (.int .i64 b) ∧ w.cell? ⟨g, 1, none⟩ = some (.int .i64 k) ∧ w.cell? ⟨g, 2, none⟩ = some (.bool lp) ∧ g < w.heap.size
theorem KevAt.below {w w' : World} {g : Nat} {b k : Int} {lp : Bool} (h : KevAt w g b k lp) (hb : Below w.heap.size w w') : KevAt w' g b k lp := by
 obtain ⟨h0, h1, h2, hs⟩ := h
 have c := fun i => hb.cell (p := ⟨g, i, none⟩) hs
 exact ⟨(c 0).trans h0, (c 1).trans h1, (c 2).trans h2, Nat.lt_of_lt_of_le hs hb.size⟩
end Go.Proofs.YtankichdmlkfmaaGreatDoor
end
section
namespace Go.Proofs.YtankichdmlkfmaaGreatDoor
open Go.ChangeShapes Go.WideShapes Go.ChangeAt Go.RowKit Go.Joins
section
variable {H : Type} {enc : TypeId × Value → H} {W : World} {base b0 : Nat} {spare : Nat → Bool} {held : Bool} {r : Reach} {v : Value} {d : DataW H} {p : List MemPlace}
end
end Go.Proofs.YtankichdmlkfmaaGreatDoor
end
section
namespace Go.Proofs.YtankichdmlkfmaaGreatDoor
open Go.ChangeShapes Go.WideShapes Go.ChangeAt Go.RowKit
namespace D10
theorem most_one (y : Int) : 1 ≤ Cal.most (Cal.leap y) := by unfold Cal.most; split <;> omega
end D10
end Go.Proofs.YtankichdmlkfmaaGreatDoor
end
