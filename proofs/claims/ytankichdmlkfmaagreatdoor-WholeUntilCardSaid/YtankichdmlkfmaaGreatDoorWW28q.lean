import Derived.Test.YtankichdmlkfmaaGreatDoorWW28k
set_option maxHeartbeats 8000000
set_option maxRecDepth 100000
set_option linter.unusedSimpArgs false
set_option linter.unusedVariables false
namespace Go.Proofs.YtankichdmlkfmaaGreatDoor
open Go.ChangeShapes Go.WideShapes Go.ChangeAt Go.RowKit Go.Lib
theorem cel4 {W w' : World} {B : Nat} {a b c d : Value} (hc : ∀ b o, b < W.heap.size → w'.cell? ⟨b, o, none⟩ = W.cell? ⟨b, o, none⟩) (h1 : B < W.heap.size := by first | omega | (simp; done) | (simp; omega)) (h2 : W.cell? ⟨B, 0, none⟩ = some a := by first | (with_reducible assumption) | (simp [go_sem]; done) | (simp [go_sem, *]; done) | assumption) (h3 : W.cell? ⟨B, 1, none⟩ = some b := by first | (with_reducible assumption) | (simp [go_sem]; done) | (simp [go_sem, *]; done) | assumption) (h4 : W.cell? ⟨B, 2, none⟩ = some c := by first | (with_reducible assumption) | (simp [go_sem]; done) | (simp [go_sem, *]; done) | assumption) (h5 : W.cell? ⟨B, 3, none⟩ = some d := by first | (with_reducible assumption) | (simp [go_sem]; done) | (simp [go_sem, *]; done) | assumption) :
  w'.cell? ⟨B, 0, none⟩ = some a ∧ w'.cell? ⟨B, 1, none⟩ = some b ∧ w'.cell? ⟨B, 2, none⟩ = some c ∧ w'.cell? ⟨B, 3, none⟩ = some d :=
 ⟨(hc _ _ h1).trans h2, (hc _ _ h1).trans h3, (hc _ _ h1).trans h4, (hc _ _ h1).trans h5⟩
theorem bel28 {B : Nat} {a b : World} (h : Below B a b := by repeat (first | (with_reducible exact Below.refl _ _) | (with_reducible assumption) | (with_reducible refine bdrew ?_) | (with_reducible refine baa ?_ _) | (with_reducible refine bs ?_ (by first | exact Nat.le_refl _ | omega | (simp; done) | (simp; omega)) _) | (with_reducible refine bt ?_ (by with_reducible assumption)))) : Below B a b := h
end Go.Proofs.YtankichdmlkfmaaGreatDoor
