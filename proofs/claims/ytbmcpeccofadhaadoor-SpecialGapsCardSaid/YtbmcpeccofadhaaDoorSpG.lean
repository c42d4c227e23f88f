/- Layer 22: the rules laid out. -/
import Derived.Test.YtbmcpeccofadhaaDoorSpF
namespace Go.Proofs.YtbmcpeccofadhaaDoor
open Go.ChangeShapes Go.WideShapes Go.ChangeAt Go.RowKit Go.Lib Go.Sort Go.Shelf
set_option linter.unusedVariables false
set_option maxRecDepth 100000
namespace Sp
def kind (j : Nat) : Int := [35, 30, 31, 32, 33, 34, 36, 37].getD j 0
def day (y : Int) (j : Nat) : Int := [Sp.fr y 1 3, Sp.up y 6 1, Sp.up y 6 13, (Sp.up y 7 1 + (-7)), Sp.up y 7 1, Sp.up y 7 14, Sp.up y 11 9, (Sp.up y 11 9 + 7)].getD j 0
end Sp
set_option maxHeartbeats 8000000 in
theorem special_rules (y : Int) (w : World) (hy : I64 y) (h0 : Day12 (D10.dayV y 7 false 1)) (h1 : Day12 (D10.dayV y 11 false 9)) (h2 : Day12 (D10.dayV y 1 false 3)) (h3 : Day12 (D10.dayV y 6 false 1)) (h4 : Day12 (D10.dayV y 6 false 13)) (h6 : Day12 (D10.dayV y 7 false 14)) (r1 : -4000000 ≤ Sp.up y 7 1 ∧ Sp.up y 7 1 ≤ 4000000) (r2 : -4000000 ≤ Sp.up y 11 9 ∧ Sp.up y 11 9 ≤ 4000000) :
    Calls Tryd.prog 23 #[] w fun e w' => ∃ (g : Nat) (u : Nat → Value), e = .returned (.slice (some ⟨g, 0, none⟩) 8 8) ∧ Hid (∀ j, j < 8 → w'.cell? ⟨g, j * 2, none⟩ = some (.int .i64 (Sp.kind j)) ∧ w'.cell? ⟨g, j * 2 + 1, none⟩ = some (u j) ∧ Sp.Finds w' (u j) y (Sp.day y j)) ∧ g < w'.heap.size ∧ Below w.heap.size w w' := by
  have K0 := Lib.hid (fun w => finds_upto y 7 1 w hy h0)
  have K1 := Lib.hid (fun w => finds_upto y 11 9 w hy h1)
  have K2 := Lib.hid (fun w => finds_from y 1 3 w hy h2)
  have K3 := Lib.hid (fun w => finds_upto y 6 1 w hy h3)
  have K4 := Lib.hid (fun w => finds_upto y 6 13 w hy h4)
  have K6 := Lib.hid (fun w => finds_upto y 7 14 w hy h6)
  have R1 := Lib.hid r1
  have R2 := Lib.hid r2
  clear r1 r2 h0 h1 h2 h3 h4 h6
  go_enter Tryd.func23, Tryd.ntmps23
  go_wp2_with fail
  refine (K0.out _).mono ?_
  rintro e w1 ⟨v1, rfl, hF, -, hb1⟩
  have HF1_1 := Lib.hid hF
  obtain ⟨g1, a1, c1, rfl, -, -⟩ := hF
  go_wp2_with fail
  refine (K1.out _).mono ?_
  rintro e w2 ⟨v2, rfl, hF, -, hb2⟩
  have HF2_2 := Lib.hid hF
  obtain ⟨g2, a2, c2, rfl, -, -⟩ := hF
  have HF1_2 := Lib.hid (HF1_1.out.below hb2)
  go_wp2_with fail
  refine (K2.out _).mono ?_
  rintro e w3 ⟨v3, rfl, hF, -, hb3⟩
  have HF3_3 := Lib.hid hF
  obtain ⟨g3, a3, c3, rfl, -, -⟩ := hF
  have HF1_3 := Lib.hid (HF1_2.out.below hb3)
  have HF2_3 := Lib.hid (HF2_2.out.below hb3)
  go_wp2_with fail
  refine (K3.out _).mono ?_
  rintro e w4 ⟨v4, rfl, hF, -, hb4⟩
  have HF4_4 := Lib.hid hF
  obtain ⟨g4, a4, c4, rfl, -, -⟩ := hF
  have HF1_4 := Lib.hid (HF1_3.out.below hb4)
  have HF2_4 := Lib.hid (HF2_3.out.below hb4)
  have HF3_4 := Lib.hid (HF3_3.out.below hb4)
  go_wp2_with fail
  refine (K4.out _).mono ?_
  rintro e w5 ⟨v5, rfl, hF, -, hb5⟩
  have HF5_5 := Lib.hid hF
  obtain ⟨g5, a5, c5, rfl, -, -⟩ := hF
  have HF1_5 := Lib.hid (HF1_4.out.below hb5)
  have HF2_5 := Lib.hid (HF2_4.out.below hb5)
  have HF3_5 := Lib.hid (HF3_4.out.below hb5)
  have HF4_5 := Lib.hid (HF4_4.out.below hb5)
  go_wp2_with fail
  refine (finds_later y (-7) _ _ _ R1.out (by omega) HF1_5.out).mono ?_
  rintro e w6 ⟨v6, rfl, hF, -, hb6⟩
  have HF6_6 := Lib.hid hF
  obtain ⟨g6, a6, c6, rfl, -, -⟩ := hF
  have HF1_6 := Lib.hid (HF1_5.out.below hb6)
  have HF2_6 := Lib.hid (HF2_5.out.below hb6)
  have HF3_6 := Lib.hid (HF3_5.out.below hb6)
  have HF4_6 := Lib.hid (HF4_5.out.below hb6)
  have HF5_6 := Lib.hid (HF5_5.out.below hb6)
  go_wp2_with fail
  refine (K6.out _).mono ?_
  rintro e w7 ⟨v7, rfl, hF, -, hb7⟩
  have HF7_7 := Lib.hid hF
  obtain ⟨g7, a7, c7, rfl, -, -⟩ := hF
  have HF1_7 := Lib.hid (HF1_6.out.below hb7)
  have HF2_7 := Lib.hid (HF2_6.out.below hb7)
  have HF3_7 := Lib.hid (HF3_6.out.below hb7)
  have HF4_7 := Lib.hid (HF4_6.out.below hb7)
  have HF5_7 := Lib.hid (HF5_6.out.below hb7)
  have HF6_7 := Lib.hid (HF6_6.out.below hb7)
  go_wp2_with fail
  refine (finds_later y 7 _ _ _ R2.out (by omega) HF2_7.out).mono ?_
  rintro e w8 ⟨v8, rfl, hF, -, hb8⟩
  have HF8_8 := Lib.hid hF
  obtain ⟨g8, a8, c8, rfl, -, -⟩ := hF
  have HF1_8 := Lib.hid (HF1_7.out.below hb8)
  have HF2_8 := Lib.hid (HF2_7.out.below hb8)
  have HF3_8 := Lib.hid (HF3_7.out.below hb8)
  have HF4_8 := Lib.hid (HF4_7.out.below hb8)
  have HF5_8 := Lib.hid (HF5_7.out.below hb8)
  have HF6_8 := Lib.hid (HF6_7.out.below hb8)
  have HF7_8 := Lib.hid (HF7_7.out.below hb8)
  go_wp2_with fail
  have hB : Below w.heap.size w w8 := by repeat (first | (with_reducible exact Below.refl _ _) | (with_reducible assumption) | (with_reducible refine bdrew ?_) | (with_reducible refine baa ?_ _) | (with_reducible refine bs ?_ (by first | exact Nat.le_refl _ | omega | (simp; done) | (simp; omega)) _) | (with_reducible refine bt ?_ (by with_reducible assumption)))
  have hBa := Below.refl w8.heap.size w8
  go_ret
  refine ⟨w8.heap.size, fun j => [.func (.func g3) #[] #[.pointer (some ⟨a3, 0, none⟩), .pointer (some ⟨c3, 0, none⟩)], .func (.func g4) #[] #[.pointer (some ⟨a4, 0, none⟩), .pointer (some ⟨c4, 0, none⟩)], .func (.func g5) #[] #[.pointer (some ⟨a5, 0, none⟩), .pointer (some ⟨c5, 0, none⟩)], .func (.func g6) #[] #[.pointer (some ⟨a6, 0, none⟩), .pointer (some ⟨c6, 0, none⟩)], .func (.func g1) #[] #[.pointer (some ⟨a1, 0, none⟩), .pointer (some ⟨c1, 0, none⟩)], .func (.func g7) #[] #[.pointer (some ⟨a7, 0, none⟩), .pointer (some ⟨c7, 0, none⟩)], .func (.func g2) #[] #[.pointer (some ⟨a2, 0, none⟩), .pointer (some ⟨c2, 0, none⟩)], .func (.func g8) #[] #[.pointer (some ⟨a8, 0, none⟩), .pointer (some ⟨c8, 0, none⟩)]].getD j .nilFunc, rfl, Lib.hid (fun j hj => ?_), by simp, by repeat (first | (with_reducible exact Below.refl _ _) | (with_reducible assumption) | (with_reducible refine bdrew ?_) | (with_reducible refine baa ?_ _) | (with_reducible refine bs ?_ (by first | exact Nat.le_refl _ | omega | (simp; done) | (simp; omega)) _) | (with_reducible refine bt ?_ (by with_reducible assumption)))⟩
  rcases (show j = 0 ∨ j = 1 ∨ j = 2 ∨ j = 3 ∨ j = 4 ∨ j = 5 ∨ j = 6 ∨ j = 7 by omega) with rfl | rfl | rfl | rfl | rfl | rfl | rfl | rfl
  · exact ⟨(World.cell?_alloc_mark w8 _ _ _ 0).trans rfl, (World.cell?_alloc_mark w8 _ _ _ 1).trans rfl, HF3_8.out.below (ba _ _)⟩
  · exact ⟨(World.cell?_alloc_mark w8 _ _ _ 2).trans rfl, (World.cell?_alloc_mark w8 _ _ _ 3).trans rfl, HF4_8.out.below (ba _ _)⟩
  · exact ⟨(World.cell?_alloc_mark w8 _ _ _ 4).trans rfl, (World.cell?_alloc_mark w8 _ _ _ 5).trans rfl, HF5_8.out.below (ba _ _)⟩
  · exact ⟨(World.cell?_alloc_mark w8 _ _ _ 6).trans rfl, (World.cell?_alloc_mark w8 _ _ _ 7).trans rfl, HF6_8.out.below (ba _ _)⟩
  · exact ⟨(World.cell?_alloc_mark w8 _ _ _ 8).trans rfl, (World.cell?_alloc_mark w8 _ _ _ 9).trans rfl, HF1_8.out.below (ba _ _)⟩
  · exact ⟨(World.cell?_alloc_mark w8 _ _ _ 10).trans rfl, (World.cell?_alloc_mark w8 _ _ _ 11).trans rfl, HF7_8.out.below (ba _ _)⟩
  · exact ⟨(World.cell?_alloc_mark w8 _ _ _ 12).trans rfl, (World.cell?_alloc_mark w8 _ _ _ 13).trans rfl, HF2_8.out.below (ba _ _)⟩
  · exact ⟨(World.cell?_alloc_mark w8 _ _ _ 14).trans rfl, (World.cell?_alloc_mark w8 _ _ _ 15).trans rfl, HF8_8.out.below (ba _ _)⟩
end Go.Proofs.YtbmcpeccofadhaaDoor
