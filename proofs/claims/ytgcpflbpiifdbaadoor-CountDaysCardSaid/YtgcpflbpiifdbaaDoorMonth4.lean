/- Layer 8: days ahead of a month; the month of a day. -/
import Derived.Test.YtgcpflbpiifdbaaDoorMonth3
namespace Go.Proofs.YtgcpflbpiifdbaaDoor
open Go.ChangeShapes Go.WideShapes Go.ChangeAt Go.RowKit
set_option linter.unusedVariables false
set_option maxRecDepth 100000
theorem keep3 {a b : World} {g : Nat} {v0 v1 v2 : Value} (h : a.cell? ⟨g, 0, none⟩ = some v0 ∧ a.cell? ⟨g, 1, none⟩ = some v1 ∧ a.cell? ⟨g, 2, none⟩ = some v2 ∧ g < a.heap.size) (hb : Below a.heap.size a b) :
    b.cell? ⟨g, 0, none⟩ = some v0 ∧ b.cell? ⟨g, 1, none⟩ = some v1 ∧ b.cell? ⟨g, 2, none⟩ = some v2 ∧ g < b.heap.size :=
  ⟨(hb.cell (p := ⟨g, 0, none⟩) h.2.2.2).trans h.1, (hb.cell (p := ⟨g, 1, none⟩) h.2.2.2).trans h.2.1, (hb.cell (p := ⟨g, 2, none⟩) h.2.2.2).trans h.2.2.1, Nat.lt_of_lt_of_le h.2.2.2 hb.size⟩
theorem ret_iib {a b c d : Int} {x y : Bool} (h : (a, c, x) = (b, d, y)) : Ending.returned (.tuple #[.int .i64 a, .int .i64 c, .bool x]) = .returned (.tuple #[.int .i64 b, .int .i64 d, .bool y]) := by cases h; rfl
theorem has_at (b k : Int) (l : Bool) (j : Nat) (h : (j : Int) + 1 ≤ cnt b k l) : has b k l ((j : Int) + 1) = true := by unfold has; simp [h]; omega
set_option maxHeartbeats 1000000 in
theorem month_Ahead_at (b k : Int) (l : Bool) (j : Nat) (w : World) (hT : Tab w 1 kevCells) (hL : Tab w 0 lenCells) (hj : (j : Int) + 1 ≤ cnt b k l) :
    Calls Tryd.prog 62 #[.agg #[.int .i64 b, .int .i64 k, .bool l], .int .i64 ((j : Int) + 1)] w fun e w' => e = .returned (.int .i64 ((lens k l).take j).sum) ∧ Below w.heap.size w w' := by
  have hl := cnt_le b k l
  have hb0 := cnt_bd b k l
  have hbd := Lib.hid (lens_bd k l)
  have HC := Lib.hid (fun w h => month_Count b k l w h)
  have HDs := Lib.hid (fun w h => month_days b k l w h)
  generalize cnt b k l = C at *
  generalize lens k l = xs at *
  have h2 : (0 : Int) ≤ (j : Int) := by omega
  have hn : (j : Int) ≤ 13 := by omega
  have hjl : j < xs.length := by omega
  go_enter Tryd.func62, Tryd.ntmps62
  go_wp2_with fail
  refine (HC.out _ (Tab.below hT (ba _ _))).mono ?_
  rintro e w1 ⟨rfl, hb1⟩
  obtain ⟨hc1, hf1⟩ := bcell hb1
  have hz1 := hb1.size
  try simp at hz1
  have hl1w : w.heap.size < w1.heap.size := by omega
  have hm1w : w.heap.size ≤ w1.heap.size := by omega
  have g1x0 : w1.cell? ⟨w.heap.size, 0, none⟩ = some (.int .i64 b) := (hc1 _ _ (by first | omega | (simp; done) | (simp; omega))).trans (by first | assumption | simp [go_sem] | simp [go_sem, *])
  have g1x1 : w1.cell? ⟨w.heap.size, 1, none⟩ = some (.int .i64 k) := (hc1 _ _ (by first | omega | (simp; done) | (simp; omega))).trans (by first | assumption | simp [go_sem] | simp [go_sem, *])
  have g1x2 : w1.cell? ⟨w.heap.size, 2, none⟩ = some (.bool l) := (hc1 _ _ (by first | omega | (simp; done) | (simp; omega))).trans (by first | assumption | simp [go_sem] | simp [go_sem, *])
  go_wp2_with fail
  refine (HDs.out _ (Tab.below hL (bt (ba _ _) hb1))).mono ?_
  rintro e w2 ⟨v, rfl, ⟨g, cap, rfl, hcap, hBg, hg, hcell⟩, hb2⟩
  have HCl := Lib.hid hcell
  have h3 : (j : Int) ≤ (cap : Int) := by omega
  clear hcell
  go_wp2_with fail
  go_loop [5, 22] (fun s i => ∃ n : Nat, n ≤ j ∧ i = .int .i64 n ∧ s = .int .i64 (xs.take n).sum) (fun _ i => j - (intOf i).toNat)
  case atStart => exact ⟨0, by omega, rfl, rfl⟩
  case round =>
    obtain ⟨n, hn1, rfl, rfl⟩ := hrel
    obtain ⟨s1, s2⟩ := sum_bd xs hbd.out n
    by_cases hlt : n < j
    · obtain ⟨x, hx⟩ : ∃ x, xs[n]? = some x := ⟨_, List.getElem?_eq_getElem (by omega)⟩
      obtain ⟨x1, x2⟩ := hbd.out x (List.mem_of_getElem? hx)
      have hcx := HCl.out n x hx
      have hs := Lib.hid (sum_take xs n x hx)
      clear hx
      generalize (xs.take n).sum = S at *
      go_wp2_with fail
      go_round
      case rel => exact ⟨n + 1, by omega, by go_num, by rw [hs.out]⟩
      case measure => simp [intOf]; omega
    · obtain rfl : n = j := by omega
      go_wp2_with fail
      go_ret
      exact ⟨rfl, bt (bt (ba _ _) hb1) hb2⟩
set_option maxHeartbeats 1000000 in
theorem month_Ahead_no (b k : Int) (l : Bool) (m : Int) (w : World) (hT : Tab w 1 kevCells) (hL : Tab w 0 lenCells) (h : has b k l m = false) :
    Calls Tryd.prog 62 #[.agg #[.int .i64 b, .int .i64 k, .bool l], .int .i64 m] w fun e w' => e = .returned (.int .i64 0) ∧ Below w.heap.size w w' := by
  have HC := Lib.hid (fun w h => month_Count b k l w h)
  rcases (show m < 1 ∨ (1 ≤ m ∧ cnt b k l < m) by
    by_cases c : m < 1
    · exact .inl c
    · refine .inr ⟨by omega, ?_⟩
      unfold has at h
      simp only [Bool.and_eq_false_iff, decide_eq_false_iff_not] at h
      omega) with c | ⟨c1, c2⟩
  · clear h HC
    go_enter Tryd.func62, Tryd.ntmps62
    go_wp2_with fail
    go_ret
    exact ⟨rfl, ba _ _⟩
  · clear h
    generalize cnt b k l = C at *
    go_enter Tryd.func62, Tryd.ntmps62
    go_wp2_with fail
    refine (HC.out _ (Tab.below hT (ba _ _))).mono ?_
    rintro e w1 ⟨rfl, hb1⟩
    obtain ⟨hc1, hf1⟩ := bcell hb1
    have hz1 := hb1.size
    try simp at hz1
    have hl1w : w.heap.size < w1.heap.size := by omega
    have hm1w : w.heap.size ≤ w1.heap.size := by omega
    have g1x0 : w1.cell? ⟨w.heap.size, 0, none⟩ = some (.int .i64 b) := (hc1 _ _ (by first | omega | (simp; done) | (simp; omega))).trans (by first | assumption | simp [go_sem] | simp [go_sem, *])
    have g1x1 : w1.cell? ⟨w.heap.size, 1, none⟩ = some (.int .i64 k) := (hc1 _ _ (by first | omega | (simp; done) | (simp; omega))).trans (by first | assumption | simp [go_sem] | simp [go_sem, *])
    have g1x2 : w1.cell? ⟨w.heap.size, 2, none⟩ = some (.bool l) := (hc1 _ _ (by first | omega | (simp; done) | (simp; omega))).trans (by first | assumption | simp [go_sem] | simp [go_sem, *])
    go_wp2_with fail
    go_ret
    exact ⟨rfl, bt (ba _ _) hb1⟩
set_option maxHeartbeats 1000000 in
theorem month_Ahead (b k : Int) (l : Bool) (m : Int) (w : World) (hT : Tab w 1 kevCells) (hL : Tab w 0 lenCells) :
    Calls Tryd.prog 62 #[.agg #[.int .i64 b, .int .i64 k, .bool l], .int .i64 m] w fun e w' => e = .returned (.int .i64 (aheadV b k l m)) ∧ Below w.heap.size w w' := by
  cases h : has b k l m
  · rw [aheadV, h, if_neg Bool.false_ne_true]
    exact month_Ahead_no b k l m w hT hL h
  · rw [aheadV, h, if_pos rfl]
    unfold has at h
    simp only [Bool.and_eq_true, decide_eq_true_eq] at h
    have := month_Ahead_at b k l (m - 1).toNat w hT hL (by omega)
    rwa [show (((m - 1).toNat : Nat) : Int) + 1 = m by omega] at this
set_option maxHeartbeats 1000000 in
theorem ref8_Ahead_at (b k : Int) (l : Bool) (j : Nat) (w : World) (hj : (j : Int) + 1 ≤ cnt b k l) :
    Calls Tryd.prog 17 #[.agg #[.int .i64 b, .int .i64 k, .bool l], .int .i64 ((j : Int) + 1)] w fun e w' => e = .returned (.int .i64 ((lens k l).take j).sum) ∧ Below w.heap.size w w' := by
  have hl := cnt_le b k l
  have hb0 := cnt_bd b k l
  have hbd := Lib.hid (lens_bd k l)
  have hI := fun w => ref8_is b k l ((j : Int) + 1) w
  rw [has_at b k l j hj] at hI
  have HI := Lib.hid hI
  have HDs := Lib.hid (fun w => ref8_lengths b k l w)
  clear hI
  generalize cnt b k l = C at *
  generalize lens k l = xs at *
  have h2 : (0 : Int) ≤ (j : Int) := by omega
  have hn : (j : Int) ≤ 13 := by omega
  have hjl : j < xs.length := by omega
  go_enter Tryd.func17, Tryd.ntmps17
  go_wp2_with fail
  refine (HI.out _).mono ?_
  rintro e w1 ⟨rfl, hb1⟩
  obtain ⟨hc1, hf1⟩ := bcell hb1
  have hz1 := hb1.size
  try simp at hz1
  have hl1w : w.heap.size < w1.heap.size := by omega
  have hm1w : w.heap.size ≤ w1.heap.size := by omega
  have g1x0 : w1.cell? ⟨w.heap.size, 0, none⟩ = some (.int .i64 b) := (hc1 _ _ (by first | omega | (simp; done) | (simp; omega))).trans (by first | assumption | simp [go_sem] | simp [go_sem, *])
  have g1x1 : w1.cell? ⟨w.heap.size, 1, none⟩ = some (.int .i64 k) := (hc1 _ _ (by first | omega | (simp; done) | (simp; omega))).trans (by first | assumption | simp [go_sem] | simp [go_sem, *])
  have g1x2 : w1.cell? ⟨w.heap.size, 2, none⟩ = some (.bool l) := (hc1 _ _ (by first | omega | (simp; done) | (simp; omega))).trans (by first | assumption | simp [go_sem] | simp [go_sem, *])
  go_wp2_with fail
  go_loopw [5, 6] (fun s i wr => ∃ n : Nat, n ≤ j ∧ i = .int .i64 ((n : Int) + 1) ∧ s = .int .i64 (xs.take n).sum ∧ wr.cell? ⟨w.heap.size, 0, none⟩ = some (.int .i64 b) ∧ wr.cell? ⟨w.heap.size, 1, none⟩ = some (.int .i64 k) ∧ wr.cell? ⟨w.heap.size, 2, none⟩ = some (.bool l) ∧ w.heap.size < wr.heap.size ∧ Below w.heap.size w wr) (fun _ i _ => j + 1 - (intOf i).toNat)
  case atStart => exact ⟨0, by omega, rfl, rfl, g1x0, g1x1, g1x2, hl1w, bt (ba _ _) hb1⟩
  case round =>
    obtain ⟨n, hn1, rfl, rfl, c0, c1, c2, hsz, hB⟩ := hrel
    obtain ⟨s1, s2⟩ := sum_bd xs hbd.out n
    by_cases hlt : n < j
    · obtain ⟨x, hx⟩ : ∃ x, xs[n]? = some x := ⟨_, List.getElem?_eq_getElem (by omega)⟩
      obtain ⟨x1, x2⟩ := hbd.out x (List.mem_of_getElem? hx)
      have hs := Lib.hid (sum_take xs n x hx)
      have HX := Lib.hid hx
      have h4 : (n : Int) < (xs.length : Int) := by omega
      have h5 : (0 : Int) ≤ (n : Int) := by omega
      clear hx
      generalize (xs.take n).sum = S at *
      go_wp2_with fail
      refine (HDs.out _).mono ?_
      rintro e w2 ⟨v, rfl, ⟨g, cap, rfl, hcap, hBg, hg, hcell⟩, hb2⟩
      have hcx := hcell n x HX.out
      clear hcell
      obtain ⟨d0, d1, d2, d3⟩ := keep3 ⟨c0, c1, c2, hsz⟩ hb2
      go_wp2_with fail
      go_roundw
      case rel => exact ⟨n + 1, by omega, by go_num, by rw [hs.out], d0, d1, d2, d3, bt hB hb2⟩
      case measure => simp [intOf]; omega
    · obtain rfl : n = j := by omega
      go_wp2_with fail
      go_ret
      exact ⟨rfl, hB⟩
set_option maxHeartbeats 1000000 in
theorem ref8_Ahead_no (b k : Int) (l : Bool) (m : Int) (w : World) (h : has b k l m = false) :
    Calls Tryd.prog 17 #[.agg #[.int .i64 b, .int .i64 k, .bool l], .int .i64 m] w fun e w' => e = .returned (.int .i64 0) ∧ Below w.heap.size w w' := by
  have hI := fun w => ref8_is b k l m w
  rw [h] at hI
  have HI := Lib.hid hI
  clear hI h
  go_enter Tryd.func17, Tryd.ntmps17
  go_wp2_with fail
  refine (HI.out _).mono ?_
  rintro e w1 ⟨rfl, hb1⟩
  obtain ⟨hc1, hf1⟩ := bcell hb1
  have hz1 := hb1.size
  try simp at hz1
  have hl1w : w.heap.size < w1.heap.size := by omega
  have hm1w : w.heap.size ≤ w1.heap.size := by omega
  have g1x0 : w1.cell? ⟨w.heap.size, 0, none⟩ = some (.int .i64 b) := (hc1 _ _ (by first | omega | (simp; done) | (simp; omega))).trans (by first | assumption | simp [go_sem] | simp [go_sem, *])
  have g1x1 : w1.cell? ⟨w.heap.size, 1, none⟩ = some (.int .i64 k) := (hc1 _ _ (by first | omega | (simp; done) | (simp; omega))).trans (by first | assumption | simp [go_sem] | simp [go_sem, *])
  have g1x2 : w1.cell? ⟨w.heap.size, 2, none⟩ = some (.bool l) := (hc1 _ _ (by first | omega | (simp; done) | (simp; omega))).trans (by first | assumption | simp [go_sem] | simp [go_sem, *])
  go_wp2_with fail
  go_ret
  exact ⟨rfl, bt (ba _ _) hb1⟩
set_option maxHeartbeats 1000000 in
theorem ref8_Ahead (b k : Int) (l : Bool) (m : Int) (w : World) :
    Calls Tryd.prog 17 #[.agg #[.int .i64 b, .int .i64 k, .bool l], .int .i64 m] w fun e w' => e = .returned (.int .i64 (aheadV b k l m)) ∧ Below w.heap.size w w' := by
  cases h : has b k l m
  · rw [aheadV, h, if_neg Bool.false_ne_true]
    exact ref8_Ahead_no b k l m w h
  · rw [aheadV, h, if_pos rfl]
    unfold has at h
    simp only [Bool.and_eq_true, decide_eq_true_eq] at h
    have := ref8_Ahead_at b k l (m - 1).toNat w (by omega)
    rwa [show (((m - 1).toNat : Nat) : Int) + 1 = m by omega] at this
set_option maxHeartbeats 1000000 in
theorem ref8_Find_yes (b k : Int) (l : Bool) (n : Int) (w : World) (h1 : 1 ≤ n) (h64 : n ≤ 9223372036854775807) :
    Calls Tryd.prog 19 #[.agg #[.int .i64 b, .int .i64 k, .bool l], .int .i64 n] w fun e w' => e = .returned (.tuple #[.int .i64 (findL ((lens k l).take (cnt b k l).toNat) 1 n).1, .int .i64 (findL ((lens k l).take (cnt b k l).toNat) 1 n).2.1, .bool (findL ((lens k l).take (cnt b k l).toNat) 1 n).2.2]) ∧ Below w.heap.size w w' := by
  have hl := cnt_le b k l
  have hb0 := cnt_bd b k l
  have hbd := Lib.hid (lens_bd k l)
  obtain ⟨N, hN⟩ : ∃ N : Nat, cnt b k l = N := ⟨(cnt b k l).toNat, by omega⟩
  have hC := fun w => ref8_Count b k l w
  have HD := Lib.hid (fun (j : Nat) (x : Int) (w : World) h hx => ref8_Days_at b k l j x w h hx)
  rw [hN] at hC hl hb0 HD ⊢
  have HC := Lib.hid hC
  clear hC hN
  simp only [Int.toNat_natCast]
  generalize lens k l = xs at *
  have hlN : (xs.take N).length = N := by rw [List.length_take]; omega
  have hat : ∀ i, i < N → (xs.take N)[i]? = xs[i]? := fun i hi => List.getElem?_take_of_lt hi
  generalize hF : findL (xs.take N) 1 n = F at *
  have HF := Lib.hid hF
  have HL := Lib.hid hlN
  have HA := Lib.hid hat
  clear hF hlN hat
  go_enter Tryd.func19, Tryd.ntmps19
  go_wp2_with fail
  go_loopw [7, 1] (fun i m wr => ∃ (n' : Nat) (z : Int), n' ≤ N ∧ i = .int .i64 ((n' : Int) + 1) ∧ m = .int .i64 z ∧ 1 ≤ z ∧ z ≤ 9223372036854775807 ∧ Hid (findL ((xs.take N).drop n') ((n' : Int) + 1) z = F) ∧ wr.cell? ⟨w.heap.size, 0, none⟩ = some (.int .i64 b) ∧ wr.cell? ⟨w.heap.size, 1, none⟩ = some (.int .i64 k) ∧ wr.cell? ⟨w.heap.size, 2, none⟩ = some (.bool l) ∧ w.heap.size < wr.heap.size ∧ Below w.heap.size w wr) (fun i _ _ => N + 1 - (intOf i).toNat)
  case atStart => exact ⟨0, n, by omega, rfl, rfl, by omega, by omega, HF, by simp [go_sem], by simp [go_sem], by simp [go_sem], by simp, ba _ _⟩
  case round =>
    obtain ⟨i, z, hi1, rfl, rfl, z1, z2, hI, c0, c1, c2, hsz, hB⟩ := hrel
    by_cases hlt : i < N
    · obtain ⟨x, hx⟩ : ∃ x, xs[i]? = some x := ⟨_, List.getElem?_eq_getElem (by omega)⟩
      obtain ⟨x1, x2⟩ := hbd.out x (List.mem_of_getElem? hx)
      have hy := (HA.out i hlt).trans hx
      have HX := Lib.hid (fun w => HD.out i x w (by omega) hx)
      clear hx
      by_cases hzx : z ≤ x
      · have hR := Lib.hid ((findL_hit _ i x _ z hy hzx).symm.trans hI.out)
        clear hy hI
        go_wp2_with fail
        refine (HC.out _).mono ?_
        rintro e w2 ⟨rfl, hb2⟩
        obtain ⟨d0, d1, d2, d3⟩ := keep3 ⟨c0, c1, c2, hsz⟩ hb2
        go_wp2_with fail
        refine (HX.out _).mono ?_
        rintro e w3 ⟨rfl, hb3⟩
        go_wp2_with fail
        go_ret3
        exact ⟨ret_iib hR.out, bt (bt hB hb2) hb3⟩
      · have hR := Lib.hid ((findL_step _ i x _ z hy hzx).symm.trans hI.out)
        clear hy hI
        go_wp2_with fail
        refine (HC.out _).mono ?_
        rintro e w2 ⟨rfl, hb2⟩
        obtain ⟨d0, d1, d2, d3⟩ := keep3 ⟨c0, c1, c2, hsz⟩ hb2
        go_wp2_with fail
        refine (HX.out _).mono ?_
        rintro e w3 ⟨rfl, hb3⟩
        obtain ⟨e0, e1, e2, e3⟩ := keep3 ⟨d0, d1, d2, d3⟩ hb3
        go_wp2_with fail
        refine (HX.out _).mono ?_
        rintro e w4 ⟨rfl, hb4⟩
        obtain ⟨f0, f1, f2, f3⟩ := keep3 ⟨e0, e1, e2, e3⟩ hb4
        go_wp2_with fail
        go_roundw
        case rel => exact ⟨i + 1, z - x, by omega, by go_num, rfl, by omega, by omega, hR, f0, f1, f2, f3, bt (bt (bt hB hb2) hb3) hb4⟩
        case measure => simp [intOf]; omega
    · have hR := Lib.hid ((findL_end _ i _ z (by rw [HL.out]; omega)).symm.trans hI.out)
      clear hI
      go_wp2_with fail
      refine (HC.out _).mono ?_
      rintro e w2 ⟨rfl, hb2⟩
      go_wp2_with fail
      go_ret3
      exact ⟨ret_iib hR.out, bt hB hb2⟩
set_option maxHeartbeats 1000000 in
theorem ref8_Find_no (b k : Int) (l : Bool) (n : Int) (w : World) (h : n < 1) :
    Calls Tryd.prog 19 #[.agg #[.int .i64 b, .int .i64 k, .bool l], .int .i64 n] w fun e w' => e = .returned (.tuple #[.int .i64 0, .int .i64 0, .bool false]) ∧ Below w.heap.size w w' := by
  go_enter Tryd.func19, Tryd.ntmps19
  go_wp2_with fail
  go_ret3
  exact ⟨rfl, ba _ _⟩
set_option maxHeartbeats 1000000 in
theorem ref8_Find (b k : Int) (l : Bool) (n : Int) (w : World) (h64 : n ≤ 9223372036854775807) :
    Calls Tryd.prog 19 #[.agg #[.int .i64 b, .int .i64 k, .bool l], .int .i64 n] w fun e w' => e = .returned (.tuple #[.int .i64 (findV b k l n).1, .int .i64 (findV b k l n).2.1, .bool (findV b k l n).2.2]) ∧ Below w.heap.size w w' := by
  by_cases h : n < 1
  · rw [findV, if_pos h]
    exact ref8_Find_no b k l n w h
  · rw [findV, if_neg h]
    exact ref8_Find_yes b k l n w (by omega) h64
end Go.Proofs.YtgcpflbpiifdbaaDoor
