/- Layer 16: AddDays at any input. -/
import Derived.Test.YtmiadhiomingmaaDoorW16c
import Derived.RegionTactic
import Derived.Deep.RegionHeld3
namespace Go.Proofs.YtmiadhiomingmaaDoor
open Go.ChangeShapes Go.WideShapes Go.ChangeAt Go.RowKit
set_option linter.unusedVariables false
set_option maxRecDepth 100000
theorem AddDays_walk (y n : Int) (l : Bool) (d N W M : Int) (hy : I64 y) (hn : I64 n) (hd : I64 d) (hN : -2147483648 ≤ N ∧ N ≤ 2147483647) (hW : -2147483648 ≤ W ∧ W ≤ 2147483647) (hM : 0 ≤ M ∧ M ≤ 255) (w : World) (hT : Tab w 8 kevCells) (hL : Tab w 5 lenCells) :
    Calls Tryd.prog 6 #[.agg #[.int .i64 y, .int .i64 n, .bool l, .int .i64 d, .int .i32 N, .int .i32 W, .int .u8 M]] w fun e w' => e = .returned (.bool true) ∧ Below w.heap.size w w' := by
  have hm : S15.mode (M % 2) = true := by
    rcases (show M % 2 = 0 ∨ M % 2 = 1 by omega) with h | h <;> rw [h] <;> rfl
  generalize hMm : M % 2 = m at hm
  by_cases h0 : D10.dateE y n l d = 0
  · have w1 : -500000 < W.tmod 500000 ∧ W.tmod 500000 < 500000 := ⟨Int.lt_tmod_of_pos W (by omega), Int.tmod_lt_of_pos W (by omega)⟩
    have n1 : -4000000 < N.tmod 4000000 ∧ N.tmod 4000000 < 4000000 := ⟨Int.lt_tmod_of_pos N (by omega), Int.tmod_lt_of_pos N (by omega)⟩
    generalize hw : W.tmod 500000 = wk at w1
    generalize hnn : N.tmod 4000000 = dn at n1
    have hr : A16.right 0 0 wk dn = true := A16.right_days (by omega) (by omega)
    have hr' : A16.right 0 0 (-wk) (-dn) = true := A16.right_days (by omega) (by omega)
    obtain ⟨eD, eE⟩ := A16.to_days h0 hr hm
    obtain ⟨ry, rn, rl, rd, er, h⟩ := A16.to_some y n l d 0 0 wk dn m
    have HA := fun w hT hL => add_To_0 y n l d m w hy hT hL h0 hm
    have HB := fun w hT hL => add_To y n l d 0 0 wk dn m w hy hT hL ry rn rl rd er (Lib.hid h)
    by_cases ho : A16.out (D10.dayV y n l d + (7 * wk + dn))
    · rw [if_pos ho] at eE
      obtain ⟨rfl, rfl, rfl, rfl, rfl⟩ := h.err eE (by omega)
      exact AddDays_out y n l d N W M hN hW hM m hMm wk dn hw hnn w hT hL (Lib.hid HA) (Lib.hid HB)
    · rw [if_neg ho] at eE
      obtain ⟨rfl, v, dv, y1, y2⟩ := h.date eE
      rw [eD] at dv
      obtain ⟨_, b1, b2⟩ := D10.dayV_ok y n l d h0
      obtain ⟨_, c1, c2⟩ := D10.dayV_ok ry rn rl rd v
      obtain ⟨fD, fE⟩ := A16.to_days v hr' hm
      have hback : D10.dayV ry rn rl rd + (7 * -wk + -dn) = D10.dayV y n l d := by omega
      rw [hback] at fD fE
      rw [if_neg (by unfold A16.out; omega)] at fE
      obtain ⟨sy, sn, sl, sd, es, h2⟩ := A16.to_some ry rn rl rd 0 0 (-wk) (-dn) m
      obtain ⟨rfl, v2, dv2, _⟩ := h2.date fE
      obtain ⟨rfl, rfl, rfl, rfl⟩ := D10.same_day v2 h0 (dv2.trans fD)
      have hry : I64 ry := ⟨by omega, by omega⟩
      have HD := fun w hT hL => add_To ry rn rl rd 0 0 (-wk) (-dn) m w hry hT hL _ _ _ _ _ (Lib.hid h2)
      have HY := fun w => ref10_ToDay ry rn rl rd w hry
      rw [v] at HY
      exact AddDays_in _ _ _ _ N W M hN hW hM m hMm wk dn hw hnn ry rn rl rd (D10.dayV sy sn sl sd) (D10.dayV ry rn rl rd) w hT hL (Lib.hid HA) (Lib.hid HB) (Lib.hid HD) (Lib.hid fun w => add_Minus wk dn w (by omega) (by omega)) (Lib.hid fun w => by have := ref10_ToDay sy sn sl sd w hy; rwa [h0] at this) (Lib.hid HY) ⟨by omega, by omega⟩ ⟨by omega, by omega⟩ (by rw [dv, beq_iff_eq]; omega)
  · have HA := fun w hT hL => add_To y n l d 0 0 0 0 m w hy hT hL 0 0 false 0 (D10.dateE y n l d) (Lib.hid (.inl ⟨by rw [A16.to_bad h0 rfl hm]; exact h0, (A16.to_bad h0 rfl hm).symm, rfl, rfl, rfl, rfl⟩))
    exact AddDays_bad y n l d N W M hN hW hM m hMm _ w hT hL (Lib.hid HA) (Lib.hid fun w => ref10_Check y n l d w hy) (by simpa using h0)
end Go.Proofs.YtmiadhiomingmaaDoor
