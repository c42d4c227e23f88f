/- Layer 8: days ahead of a month; the month of a day. -/
import Derived.Test.YtafenpgafmdenaaDoorMonth3
namespace Go.Proofs.YtafenpgafmdenaaDoor
open Go.ChangeShapes Go.WideShapes Go.ChangeAt Go.RowKit
set_option linter.unusedVariables false
set_option maxRecDepth 100000
set_option maxHeartbeats 1000000 in
theorem month_Ahead_at (b k : Int) (l : Bool) (j : Nat) (w : World) (hT : Tab w 4 kevCells) (hL : Tab w 3 lenCells) (hj : (j : Int) + 1 ≤ cnt b k l) :
    Calls Tryd.prog 61 #[.agg #[.int .i64 b, .int .i64 k, .bool l], .int .i64 ((j : Int) + 1)] w fun e w' => e = .returned (.int .i64 ((lens k l).take j).sum) ∧ Below w.heap.size w w' := by
  have hl := cnt_le b k l
  have hb0 := cnt_bd b k l
  have hbd := Lib.hid (lens_bd k l)
  have HC := Lib.hid (fun w h => month_Count b k l w h)
  have HDs := Lib.hid (fun w h => month_days b k l w h)
  generalize cnt b k l = C at *
  generalize lens k l = xs at *
  have h2 : (0 : Int) ≤ (j : Int) := by omega
  have hn : (j : Int) ≤ 13 := by omega
  have hjl : j < xs.length := by omega
  go_enter Tryd.func61, Tryd.ntmps61
  go_wp2_with fail
  refine (HC.out _ (Tab.below hT (ba _ _))).mono ?_
  rintro e w1 ⟨rfl, hb1⟩
  obtain ⟨hc1, hf1⟩ := bcell hb1
  have hz1 := hb1.size
  try simp at hz1
  have hl1w : w.heap.size < w1.heap.size := by omega
  have hm1w : w.heap.size ≤ w1.heap.size := by omega
  have g1x0 : w1.cell? ⟨w.heap.size, 0, none⟩ = some (.int .i64 b) := (hc1 _ _ (by first | omega | (simp; done) | (simp; omega))).trans (by first | assumption | simp [go_sem] | simp [go_sem, *])
  have g1x1 : w1.cell? ⟨w.heap.size, 1, none⟩ = some (.int .i64 k) := (hc1 _ _ (by first | omega | (simp; done) | (simp; omega))).trans (by first | assumption | simp [go_sem] | simp [go_sem, *])
  have g1x2 : w1.cell? ⟨w.heap.size, 2, none⟩ = some (.bool l) := (hc1 _ _ (by first | omega | (simp; done) | (simp; omega))).trans (by first | assumption | simp [go_sem] | simp [go_sem, *])
  go_wp2_with fail
  refine (HDs.out _ (Tab.below hL (bt (ba _ _) hb1))).mono ?_
  rintro e w2 ⟨v, rfl, ⟨g, cap, rfl, hcap, hBg, hg, hcell⟩, hb2⟩
  have HCl := Lib.hid hcell
  have h3 : (j : Int) ≤ (cap : Int) := by omega
  clear hcell
  go_wp2_with fail
  go_loop [5, 22] (fun s i => ∃ n : Nat, n ≤ j ∧ i = .int .i64 n ∧ s = .int .i64 (xs.take n).sum) (fun _ i => j - (intOf i).toNat)
  case atStart => exact ⟨0, by omega, rfl, rfl⟩
  case round =>
    obtain ⟨n, hn1, rfl, rfl⟩ := hrel
    obtain ⟨s1, s2⟩ := sum_bd xs hbd.out n
    by_cases hlt : n < j
    · obtain ⟨x, hx⟩ : ∃ x, xs[n]? = some x := ⟨_, List.getElem?_eq_getElem (by omega)⟩
      obtain ⟨x1, x2⟩ := hbd.out x (List.mem_of_getElem? hx)
      have hcx := HCl.out n x hx
      have hs := Lib.hid (sum_take xs n x hx)
      clear hx
      generalize (xs.take n).sum = S at *
      go_wp2_with fail
      go_round
      case rel => exact ⟨n + 1, by omega, by go_num, by rw [hs.out]⟩
      case measure => simp [intOf]; omega
    · obtain rfl : n = j := by omega
      go_wp2_with fail
      go_ret
      exact ⟨rfl, bt (bt (ba _ _) hb1) hb2⟩
set_option maxHeartbeats 1000000 in
theorem month_Ahead_no (b k : Int) (l : Bool) (m : Int) (w : World) (hT : Tab w 4 kevCells) (hL : Tab w 3 lenCells) (h : has b k l m = false) :
    Calls Tryd.prog 61 #[.agg #[.int .i64 b, .int .i64 k, .bool l], .int .i64 m] w fun e w' => e = .returned (.int .i64 0) ∧ Below w.heap.size w w' := by
  have HC := Lib.hid (fun w h => month_Count b k l w h)
  rcases (show m < 1 ∨ (1 ≤ m ∧ cnt b k l < m) by
    by_cases c : m < 1
    · exact .inl c
    · refine .inr ⟨by omega, ?_⟩
      unfold has at h
      simp only [Bool.and_eq_false_iff, decide_eq_false_iff_not] at h
      omega) with c | ⟨c1, c2⟩
  · clear h HC
    go_enter Tryd.func61, Tryd.ntmps61
    go_wp2_with fail
    go_ret
    exact ⟨rfl, ba _ _⟩
  · clear h
    generalize cnt b k l = C at *
    go_enter Tryd.func61, Tryd.ntmps61
    go_wp2_with fail
    refine (HC.out _ (Tab.below hT (ba _ _))).mono ?_
    rintro e w1 ⟨rfl, hb1⟩
    obtain ⟨hc1, hf1⟩ := bcell hb1
    have hz1 := hb1.size
    try simp at hz1
    have hl1w : w.heap.size < w1.heap.size := by omega
    have hm1w : w.heap.size ≤ w1.heap.size := by omega
    have g1x0 : w1.cell? ⟨w.heap.size, 0, none⟩ = some (.int .i64 b) := (hc1 _ _ (by first | omega | (simp; done) | (simp; omega))).trans (by first | assumption | simp [go_sem] | simp [go_sem, *])
    have g1x1 : w1.cell? ⟨w.heap.size, 1, none⟩ = some (.int .i64 k) := (hc1 _ _ (by first | omega | (simp; done) | (simp; omega))).trans (by first | assumption | simp [go_sem] | simp [go_sem, *])
    have g1x2 : w1.cell? ⟨w.heap.size, 2, none⟩ = some (.bool l) := (hc1 _ _ (by first | omega | (simp; done) | (simp; omega))).trans (by first | assumption | simp [go_sem] | simp [go_sem, *])
    go_wp2_with fail
    go_ret
    exact ⟨rfl, bt (ba _ _) hb1⟩
set_option maxHeartbeats 1000000 in
theorem month_Ahead (b k : Int) (l : Bool) (m : Int) (w : World) (hT : Tab w 4 kevCells) (hL : Tab w 3 lenCells) :
    Calls Tryd.prog 61 #[.agg #[.int .i64 b, .int .i64 k, .bool l], .int .i64 m] w fun e w' => e = .returned (.int .i64 (aheadV b k l m)) ∧ Below w.heap.size w w' := by
  cases h : has b k l m
  · rw [aheadV, h, if_neg Bool.false_ne_true]
    exact month_Ahead_no b k l m w hT hL h
  · rw [aheadV, h, if_pos rfl]
    unfold has at h
    simp only [Bool.and_eq_true, decide_eq_true_eq] at h
    have := month_Ahead_at b k l (m - 1).toNat w hT hL (by omega)
    rwa [show (((m - 1).toNat : Nat) : Int) + 1 = m by omega] at this
end Go.Proofs.YtafenpgafmdenaaDoor
