/- Layer 16: its laws. -/
import Derived.Test.YtafenpgafmdenaaGreatDoorAdd2
import Derived.Test.YtafenpgafmdenaaGreatDoorA16b
import Derived.RegionTactic
import Derived.Deep.RegionHeld3
namespace Go.Proofs.YtafenpgafmdenaaGreatDoor
open Go.ChangeShapes Go.WideShapes Go.ChangeAt Go.RowKit
set_option linter.unusedVariables false
set_option maxRecDepth 100000
theorem add_To (y n : Int) (l : Bool) (d a b c f m : Int) (w : World) (hy : I64 y) (hT : Tab w 8 kevCells) (hL : Tab w 6 lenCells) (ry rn : Int) (rl : Bool) (rd er : Int) (hres : Hid (A16.ToIs y n l d a b c f m ry rn rl rd er)) :
    Calls Tryz.prog 27 #[.agg #[.int .i64 (y), .int .i64 (n), .bool (l), .int .i64 (d)], .agg #[.int .i64 (a), .int .i64 (b), .int .i64 (c), .int .i64 (f)], .int .i64 m] w fun e w' => e = .returned (.tuple #[.agg #[.int .i64 (ry), .int .i64 (rn), .bool (rl), .int .i64 (rd)], .int .i64 (er)]) ∧ Below w.heap.size w w' := by
  by_cases hr : A16.right a b c f = true
  · by_cases hm : S15.mode m = true
    · rcases (show m = 0 ∨ m = 1 by simpa [S15.mode] using hm) with rfl | rfl
      · exact add_To_m0 y n l d a b c f w hy hT hL ry rn rl rd er hr hres
      · exact add_To_m1 y n l d a b c f w hy hT hL ry rn rl rd er hr hres
    · have hm' : S15.mode m = false := by simpa using hm
      obtain ⟨rfl, rfl, rfl, rfl, rfl⟩ := hres.out.err (E := 1) (by unfold A16.toE; rw [if_neg (by simp [hm'])]) (by omega)
      exact add_To_mode y n l d a b c f m w hy hT hL hr hm'
  · have hr' : A16.right a b c f = false := by simpa using hr
    obtain ⟨rfl, rfl, rfl, rfl, rfl⟩ := hres.out.err (E := 1) (by unfold A16.toE; rw [if_neg (by simp [hr'])]) (by omega)
    exact add_To_right y n l d a b c f m w hy hT hL hr'
theorem add_To_a (w : World) (hT : Tab w 8 kevCells) (hL : Tab w 6 lenCells) : Calls Tryz.prog 27 #[.agg #[.int .i64 (5784), .int .i64 (5), .bool (true), .int .i64 (30)], .agg #[.int .i64 (1), .int .i64 (0), .int .i64 (0), .int .i64 (0)], .int .i64 0] w fun e w' => e = .returned (.tuple #[.agg #[.int .i64 (5785), .int .i64 (6), .bool (false), .int .i64 (29)], .int .i64 (0)]) ∧ Below w.heap.size w w' :=
  add_To 5784 5 true 30 1 0 0 0 0 w ⟨by omega, by omega⟩ hT hL 5785 6 false 29 0 (Lib.hid (.inr ⟨by decide +kernel, rfl, 6, by refine ⟨by omega, by omega, by omega, ?_, by omega, ?_⟩ <;> decide +kernel, by decide +kernel, by decide +kernel, by decide +kernel⟩))
theorem add_To_b (w : World) (hT : Tab w 8 kevCells) (hL : Tab w 6 lenCells) : Calls Tryz.prog 27 #[.agg #[.int .i64 (5784), .int .i64 (5), .bool (true), .int .i64 (30)], .agg #[.int .i64 (1), .int .i64 (0), .int .i64 (0), .int .i64 (0)], .int .i64 1] w fun e w' => e = .returned (.tuple #[.agg #[.int .i64 (0), .int .i64 (0), .bool (false), .int .i64 (0)], .int .i64 (7)]) ∧ Below w.heap.size w w' :=
  add_To 5784 5 true 30 1 0 0 0 1 w ⟨by omega, by omega⟩ hT hL 0 0 false 0 7 (Lib.hid (.inl ⟨by decide +kernel, by decide +kernel, rfl, rfl, rfl, rfl⟩))
set_option maxHeartbeats 2000000 in
theorem awake16 (w : World) (hT : Tab w 8 kevCells) (hL : Tab w 6 lenCells) : Calls Tryz.prog 29 #[] w fun e w' => e = .returned (.bool true) ∧ Below w.heap.size w w' := by
  go_enter Tryz.func29, Tryz.ntmps29
  go_wp2_with fail
  refine (add_To_a _ (Tab.below hT (by repeat (first | (with_reducible exact Below.refl _ _) | (with_reducible assumption) | (with_reducible refine bdrew ?_) | (with_reducible refine baa ?_ _) | (with_reducible refine bs ?_ (by first | exact Nat.le_refl _ | omega | (simp; done) | (simp; omega)) _) | (with_reducible refine bt ?_ (by with_reducible assumption))))) (Tab.below hL (by repeat (first | (with_reducible exact Below.refl _ _) | (with_reducible assumption) | (with_reducible refine bdrew ?_) | (with_reducible refine baa ?_ _) | (with_reducible refine bs ?_ (by first | exact Nat.le_refl _ | omega | (simp; done) | (simp; omega)) _) | (with_reducible refine bt ?_ (by with_reducible assumption)))))).mono ?_
  rintro e w1 ⟨rfl, hb1⟩
  obtain ⟨hc1, hf1⟩ := bcell hb1
  have hz1 := hb1.size
  try simp at hz1
  have hs1x0 : w.heap.size < w1.heap.size := by omega
  have g1x0 : w1.cell? ⟨w.heap.size, 0, none⟩ = some (.int .i64 5784) := (hc1 _ _ (by first | omega | (simp; done) | (simp; omega))).trans (by first | (with_reducible assumption) | (simp [go_sem]; done) | (simp [go_sem, *]; done) | assumption)
  have g1x1 : w1.cell? ⟨w.heap.size, 1, none⟩ = some (.int .i64 5) := (hc1 _ _ (by first | omega | (simp; done) | (simp; omega))).trans (by first | (with_reducible assumption) | (simp [go_sem]; done) | (simp [go_sem, *]; done) | assumption)
  have g1x2 : w1.cell? ⟨w.heap.size, 2, none⟩ = some (.bool true) := (hc1 _ _ (by first | omega | (simp; done) | (simp; omega))).trans (by first | (with_reducible assumption) | (simp [go_sem]; done) | (simp [go_sem, *]; done) | assumption)
  have g1x3 : w1.cell? ⟨w.heap.size, 3, none⟩ = some (.int .i64 30) := (hc1 _ _ (by first | omega | (simp; done) | (simp; omega))).trans (by first | (with_reducible assumption) | (simp [go_sem]; done) | (simp [go_sem, *]; done) | assumption)
  go_wp2_with fail
  refine (add_To_b _ (Tab.below hT (by repeat (first | (with_reducible exact Below.refl _ _) | (with_reducible assumption) | (with_reducible refine bdrew ?_) | (with_reducible refine baa ?_ _) | (with_reducible refine bs ?_ (by first | exact Nat.le_refl _ | omega | (simp; done) | (simp; omega)) _) | (with_reducible refine bt ?_ (by with_reducible assumption))))) (Tab.below hL (by repeat (first | (with_reducible exact Below.refl _ _) | (with_reducible assumption) | (with_reducible refine bdrew ?_) | (with_reducible refine baa ?_ _) | (with_reducible refine bs ?_ (by first | exact Nat.le_refl _ | omega | (simp; done) | (simp; omega)) _) | (with_reducible refine bt ?_ (by with_reducible assumption)))))).mono ?_
  rintro e w2 ⟨rfl, hb2⟩
  obtain ⟨hc2, hf2⟩ := bcell hb2
  have hz2 := hb2.size
  try simp at hz2
  have hl2w1 : w1.heap.size < w2.heap.size := by omega
  have hm2w1 : w1.heap.size ≤ w2.heap.size := by omega
  have g2x0 : w2.cell? ⟨w1.heap.size, 0, none⟩ = some (.int .i64 5785) := (hc2 _ _ (by first | omega | (simp; done) | (simp; omega))).trans (by first | (with_reducible assumption) | (simp [go_sem]; done) | (simp [go_sem, *]; done) | assumption)
  have g2x1 : w2.cell? ⟨w1.heap.size, 1, none⟩ = some (.int .i64 6) := (hc2 _ _ (by first | omega | (simp; done) | (simp; omega))).trans (by first | (with_reducible assumption) | (simp [go_sem]; done) | (simp [go_sem, *]; done) | assumption)
  have g2x2 : w2.cell? ⟨w1.heap.size, 2, none⟩ = some (.bool false) := (hc2 _ _ (by first | omega | (simp; done) | (simp; omega))).trans (by first | (with_reducible assumption) | (simp [go_sem]; done) | (simp [go_sem, *]; done) | assumption)
  have g2x3 : w2.cell? ⟨w1.heap.size, 3, none⟩ = some (.int .i64 29) := (hc2 _ _ (by first | omega | (simp; done) | (simp; omega))).trans (by first | (with_reducible assumption) | (simp [go_sem]; done) | (simp [go_sem, *]; done) | assumption)
  go_wp2_with fail
  go_ret
  refine ⟨by first | rfl | (simp [*]; done), ?_⟩
  repeat (first | (with_reducible exact Below.refl _ _) | (with_reducible assumption) | (with_reducible refine bdrew ?_) | (with_reducible refine baa ?_ _) | (with_reducible refine bs ?_ (by first | exact Nat.le_refl _ | omega | (simp; done) | (simp; omega)) _) | (with_reducible refine bt ?_ (by with_reducible assumption)))
end Go.Proofs.YtafenpgafmdenaaGreatDoor
