/- Layer 11: the Gregorian date of a day. -/
import Derived.Test.YtncckpfenjokmaaDoorGreg2
import Derived.Test.YtncckpfenjokmaaDoorDates
import Derived.LoopTactic
namespace Go.Proofs.YtncckpfenjokmaaDoor
open Go.ChangeShapes Go.WideShapes Go.ChangeAt Go.RowKit
set_option linter.unusedVariables false
set_option maxRecDepth 100000
namespace Gr
def ml (y : Int) : List Int := [31, if leap y then 29 else 28, 31, 30, 31, 30, 31, 31, 30, 31, 30, 31]
theorem ml_len (y : Int) : (ml y).length = 12 := rfl
theorem ml_bd (y : Int) : ∀ x ∈ ml y, 28 ≤ x ∧ x ≤ 31 := by
  intro x hx
  cases h : leap y <;> simp [ml, h] at hx <;> omega
theorem ml_sum (y : Int) : (ml y).sum = long y := by cases h : leap y <;> simp [ml, long, h]
theorem ml_at (y : Int) (j : Nat) (hj : j < 12) : ∃ x, (ml y)[j]? = some x ∧ days y ((j : Int) + 1) = x ∧ 28 ≤ x ∧ x ≤ 31 := by
  match j, hj with
  | 0, _ | 1, _ | 2, _ | 3, _ | 4, _ | 5, _ | 6, _ | 7, _ | 8, _ | 9, _ | 10, _ | 11, _ =>
    cases h : leap y <;> simp [ml, days, h]
def gY (D : Int) : Int := yearV (D - 1)
def gF (D : Int) : Int × Int × Bool := findL (ml (gY D)) 1 (leftV (D - 1) + 1)
theorem drop_sum (xs : List Int) (j : Nat) (x : Int) (h : xs[j]? = some x) : (xs.drop j).sum = x + (xs.drop (j + 1)).sum := by
  obtain ⟨hj, e⟩ := List.getElem?_eq_some_iff.1 h
  rw [List.drop_eq_getElem_cons hj, List.sum_cons, e]
end Gr
def Res3 (w : World) (g : Nat) : Prop := w.cell? ⟨g, 0, none⟩ = some (.int .i64 0) ∧ w.cell? ⟨g, 1, none⟩ = some (.int .i64 0) ∧ w.cell? ⟨g, 2, none⟩ = some (.int .i64 0) ∧ (∀ i, w.frozen? ⟨g, i, none⟩ = false) ∧ g < w.heap.size
theorem Res3.below {w w' : World} {g : Nat} (h : Res3 w g) (hb : Below w.heap.size w w') : Res3 w' g := by
  obtain ⟨h0, h1, h2, hf, hs⟩ := h
  have c := fun i => hb.cell (p := ⟨g, i, none⟩) hs
  exact ⟨(c 0).trans h0, (c 1).trans h1, (c 2).trans h2, fun i => (hb.frozen (p := ⟨g, i, none⟩) hs).trans (hf i), Nat.lt_of_lt_of_le hs hb.size⟩
theorem res3_alloc (w : World) (t : TypeId) : Res3 (w.alloc (.cells #[.int .i64 0, .int .i64 0, .int .i64 0] t)) w.heap.size := ⟨by simp [go_sem], by simp [go_sem], by simp [go_sem], fun i => by simp [go_sem], by simp⟩
set_option maxHeartbeats 1000000 in
theorem greg_FromDay_no (D : Int) (w : World) (h : D < -1373427 ∨ 2278650 < D) :
    Calls Tryd.prog 21 #[.int .i64 D] w fun e w' => e = .returned (.tuple #[.agg #[.int .i64 0, .int .i64 0, .int .i64 0], .int .i64 2]) ∧ Below w.heap.size w w' := by
  go_enter Tryd.func21, Tryd.ntmps21
  go_wp2_with fail
  refine (closed_Year_no D _ h).mono ?_
  rintro e w1 ⟨rfl, hb1⟩
  have hR := Res3.below (res3_alloc w _) hb1
  have hB := bt (ba _ _) hb1
  clear hb1
  obtain ⟨r0, r1, r2, rf, rs⟩ := hR
  go_wp2_with fail
  refine bodyPost_ret (v := .tuple #[.agg #[.int .i64 0, .int .i64 0, .int .i64 0], .int .i64 2]) (by simp [results, Tryd.results21, go_sem, *]) rfl ⟨rfl, ?_⟩
  iterate 3 refine Below.setCell ?_ (Nat.le_refl w.heap.size) _
  exact hB
set_option maxHeartbeats 2000000 in
theorem greg_FromDay_at (D : Int) (w : World) (hG : Tab w 0 Gr.gregCells) (b1 : -1373427 ≤ D) (b2 : D ≤ 2278650) :
    Calls Tryd.prog 21 #[.int .i64 D] w fun e w' => e = .returned (.tuple #[.agg #[.int .i64 (Gr.gY D), .int .i64 (Gr.gF D).1, .int .i64 (Gr.gF D).2.1], .int .i64 0]) ∧ Below w.heap.size w w' := by
  obtain ⟨hy, y1, y2, f1, f2⟩ := year_of D b1 b2
  have HC := Lib.hid (fun w => closed_Year_at D hy w y1 y2 f1 f2 b1 b2)
  obtain ⟨e0, l0, l1⟩ := Gr.year_spec (D - 1)
  obtain ⟨z1, z2, z3, z4⟩ := Gr.year_bd (D - 1) (by omega) (by omega)
  have HY := Lib.hid (fun w => greg_year (D - 1) w (by omega) (by omega))
  have HD := Lib.hid (fun m w hG => greg_Days (Gr.yearV (D - 1)) m w hG ⟨by omega, by omega⟩)
  have hs := Gr.ml_sum (Gr.yearV (D - 1))
  have hat := Lib.hid (Gr.ml_at (Gr.yearV (D - 1)))
  have hlen := Gr.ml_len (Gr.yearV (D - 1))
  have hF : findL (Gr.ml (Gr.yearV (D - 1))) 1 (Gr.leftV (D - 1) + 1) = Gr.gF D := rfl
  have hY : Gr.gY D = Gr.yearV (D - 1) := rfl
  rw [hY]
  clear hY e0
  rw [← hs] at l1
  clear hs
  generalize Gr.gF D = R at *
  obtain ⟨R1, R2, R3⟩ := R
  generalize Gr.yearV (D - 1) = y at *
  generalize Gr.leftV (D - 1) = L at *
  have hS := Lib.hid l1
  have hF := Lib.hid hF
  clear f1 f2 y1 y2 l1
  rename_i hF0
  clear hF0
  go_enter Tryd.func21, Tryd.ntmps21
  go_wp2_with fail
  refine (HC.out _).mono ?_
  rintro e w1 ⟨rfl, hb1⟩
  have hR1 := Res3.below (res3_alloc w _) hb1
  have hB1 := bt (ba _ _) hb1
  clear hb1
  go_wp2_with fail
  refine (HY.out _).mono ?_
  rintro e w2 ⟨rfl, rfl⟩
  go_wp2_with fail
  go_loopw [7, 8] (fun v m wr => ∃ (j : Nat) (z : Int), j < 12 ∧ m = .int .i64 ((j : Int) + 1) ∧ v = .int .i64 z ∧ 0 ≤ z ∧ z ≤ 400 ∧ Hid (findL ((Gr.ml y).drop j) ((j : Int) + 1) (z + 1) = (R1, R2, R3)) ∧ Hid (z < ((Gr.ml y).drop j).sum) ∧ Res3 wr w.heap.size ∧ Below w.heap.size w wr) (fun _ m _ => 13 - (intOf m).toNat)
  case atStart => exact ⟨0, L, by omega, rfl, rfl, by omega, by omega, hF, hS, hR1, hB1⟩
  case round =>
    obtain ⟨j, z, hj, rfl, rfl, zz0, zz1, hf, hsum, hR, hB⟩ := hrel
    obtain ⟨x, x1, x2, x3, x4⟩ := hat.out j hj
    have HDj := Lib.hid (fun w hG => (x2 ▸ HD.out ((j : Int) + 1) w hG : Calls Tryd.prog 26 #[.int .i64 y, .int .i64 ((j : Int) + 1)] w fun e w' => e = .returned (.int .i64 x) ∧ Below w.heap.size w w'))
    clear x2
    by_cases c : z < x
    · have hfin := hf.out
      rw [findL_hit _ j x _ _ x1 (by omega)] at hfin
      simp only [Prod.mk.injEq] at hfin
      obtain ⟨rfl, rfl, rfl⟩ := hfin
      clear hf hF x1 hlen hS hat HD HC HY hsum hR1 hB1 z3 z4 l0
      have c2 : decide (x ≤ z) = false := by simp; omega
      go_wp2_with fail
      refine (HDj.out _ (Tab.below hG hB)).mono ?_
      rintro e w5 ⟨rfl, hb5⟩
      have hR5 := Res3.below hR hb5
      have hB5 := bt hB hb5
      obtain ⟨r0, r1, r2, rf, rs⟩ := hR5
      go_wp2_with fail
      refine bodyPost_ret (v := .tuple #[.agg #[.int .i64 y, .int .i64 ((j : Int) + 1), .int .i64 (z + 1)], .int .i64 0]) (by simp [results, Tryd.results21, go_sem, *]) rfl ⟨rfl, ?_⟩
      iterate 3 refine Below.setCell ?_ (Nat.le_refl w.heap.size) _
      exact hB5
    · have hj2 : j + 1 < 12 := by
        have h0 := hsum.out
        rw [Gr.drop_sum _ j x x1] at h0
        rcases Nat.lt_or_ge (j + 1) 12 with h | h
        · exact h
        · rw [List.drop_eq_nil_of_le (by omega)] at h0
          simp at h0
          omega
      have hsum2 := Lib.hid (show z - x < ((Gr.ml y).drop (j + 1)).sum by have h0 := hsum.out; rw [Gr.drop_sum _ j x x1] at h0; omega)
      have hf2 := Lib.hid (show findL ((Gr.ml y).drop (j + 1)) (((j + 1 : Nat) : Int) + 1) (z - x + 1) = (R1, R2, R3) by
        have h0 := hf.out
        rw [findL_step _ j x _ _ x1 (by omega), show z + 1 - x = z - x + 1 by omega] at h0
        simpa using h0)
      clear hsum hf x1 hlen hS hF hat HD HC HY hR1 hB1 z3 z4 l0
      have c2 : decide (x ≤ z) = true := by simp; omega
      go_wp2_with fail
      refine (HDj.out _ (Tab.below hG hB)).mono ?_
      rintro e w5 ⟨rfl, hb5⟩
      have hR5 := Res3.below hR hb5
      have hB5 := bt hB hb5
      go_wp2_with fail
      refine (HDj.out _ (Tab.below hG hB5)).mono ?_
      rintro e w6 ⟨rfl, hb6⟩
      have hR6 := Res3.below hR5 hb6
      have hB6 := bt hB5 hb6
      go_wp2_with fail
      go_roundw
      case rel => exact ⟨j + 1, z - x, hj2, by simp, rfl, by omega, by omega, hf2, hsum2, hR6, hB6⟩
      case measure => simp [intOf]; omega
end Go.Proofs.YtncckpfenjokmaaDoor
