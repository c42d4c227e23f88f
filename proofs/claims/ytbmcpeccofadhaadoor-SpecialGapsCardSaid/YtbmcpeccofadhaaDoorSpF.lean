/- Layer 22: the rules: eight finders. -/
import Derived.Test.YtbmcpeccofadhaaDoorSpL
namespace Go.Proofs.YtbmcpeccofadhaaDoor
open Go.ChangeShapes Go.WideShapes Go.ChangeAt Go.RowKit Go.Lib Go.Sort Go.Shelf
set_option linter.unusedVariables false
set_option maxRecDepth 100000
namespace Sp
/-- The func v finds R in year y, whatever came behind world w. -/
def Finds (w : World) (v : Value) (y R : Int) : Prop := ∃ gf b1 b2, v = .func (.func gf) #[] #[.pointer (some ⟨b1, 0, none⟩), .pointer (some ⟨b2, 0, none⟩)] ∧ (∀ args w, (callFunc gf args).run Tryd.prog w = .ok (.enter gf args) w) ∧
  ∀ W : World, Below w.heap.size w W → Tab W 1 kevCells → Tab W 0 lenCells → Calls Tryd.prog gf #[.int .i64 y, .pointer (some ⟨b1, 0, none⟩), .pointer (some ⟨b2, 0, none⟩)] W fun e w' => e = .returned (.int .i64 R) ∧ Below W.heap.size W w'
theorem Finds.below {w w' : World} {v : Value} {y R : Int} (h : Finds w v y R) (hb : Below w.heap.size w w') : Finds w' v y R := by
  obtain ⟨gf, b1, b2, e, eg, hf⟩ := h
  exact ⟨gf, b1, b2, e, eg, fun W hW hT hL => hf W (bt hb hW) hT hL⟩
def up (y n d : Int) : Int := D10.dayV y n false d - (D10.dayV y n false d - 6) % 7
def fr (y n d : Int) : Int := D10.dayV y n false d + (6 - D10.dayV y n false d) % 7
end Sp
theorem finds_upto (y n d : Int) (w : World) (hy : I64 y) (hD : Day12 (D10.dayV y n false d)) : Calls Tryd.prog 43 #[.int .i64 n, .int .i64 d] w fun e w' => ∃ v, e = .returned v ∧ Sp.Finds w' v y (Sp.up y n d) ∧ v.oneCell' = true ∧ Below w.heap.size w w' := by
  refine (special_upto n d w).mono ?_
  rintro e w' ⟨rfl, c1, c2, hs, hb⟩
  refine ⟨_, rfl, ⟨_, _, _, rfl, enters_of Tryd.func68 (by kernel_rfl) rfl, fun W hW hT hL => ?_⟩, rfl, hb⟩
  exact special_upto1 y n d _ _ W hy hD ((hW.cell (show w.heap.size < w'.heap.size by omega)).trans c1) ((hW.cell (show w.heap.size + 1 < w'.heap.size by omega)).trans c2) hT hL
theorem finds_from (y n d : Int) (w : World) (hy : I64 y) (hD : Day12 (D10.dayV y n false d)) : Calls Tryd.prog 44 #[.int .i64 n, .int .i64 d] w fun e w' => ∃ v, e = .returned v ∧ Sp.Finds w' v y (Sp.fr y n d) ∧ v.oneCell' = true ∧ Below w.heap.size w w' := by
  refine (special_from n d w).mono ?_
  rintro e w' ⟨rfl, c1, c2, hs, hb⟩
  refine ⟨_, rfl, ⟨_, _, _, rfl, enters_of Tryd.func71 (by kernel_rfl) rfl, fun W hW hT hL => ?_⟩, rfl, hb⟩
  exact special_from1 y n d _ _ W hy hD ((hW.cell (show w.heap.size < w'.heap.size by omega)).trans c1) ((hW.cell (show w.heap.size + 1 < w'.heap.size by omega)).trans c2) hT hL
theorem finds_later (y days R : Int) (v : Value) (w : World) (hr : -4000000 ≤ R ∧ R ≤ 4000000) (hd : -7 ≤ days ∧ days ≤ 7) (hv : Sp.Finds w v y R) : Calls Tryd.prog 45 #[.int .i64 days, v] w fun e w' => ∃ u, e = .returned u ∧ Sp.Finds w' u y (R + days) ∧ u.oneCell' = true ∧ Below w.heap.size w w' := by
  obtain ⟨gf, b1, b2, rfl, eg, hf⟩ := hv
  refine (special_later days _ rfl gf _ rfl w).mono ?_
  rintro e w' ⟨rfl, c1, c2, hs, hb⟩
  refine ⟨_, rfl, ⟨_, _, _, rfl, enters_of Tryd.func73 (by kernel_rfl) rfl, fun W hW hT hL => ?_⟩, rfl, hb⟩
  refine special_later1 y days R gf b1 b2 _ _ W eg hr hd ((hW.cell (show w.heap.size + 1 < w'.heap.size by omega)).trans c1) ((hW.cell (show w.heap.size < w'.heap.size by omega)).trans c2) (Lib.hid (fun X hX => ?_))
  exact hf X (bt hb (bt hW hX)) (Tab.below hT hX) (Tab.below hL hX)
end Go.Proofs.YtbmcpeccofadhaaDoor
