/- Merged: Count, Count2. -/
import Derived.Test.YtaaaalbgjpjgoaaGreatDoorVHR
import Derived.RegionTactic
import Derived.Deep.RegionHeld3
import Derived.Test.YtaaaalbgjpjgoaaGreatDoorVSH
section
/- Layer 27: a day on, a day back. -/
namespace Go.Proofs.YtaaaalbgjpjgoaaGreatDoor
open Go.ChangeShapes Go.WideShapes Go.ChangeAt Go.RowKit
set_option linter.unusedVariables false
set_option maxRecDepth 100000
set_option maxHeartbeats 2000000 in
theorem count_check_err (y n : Int) (l : Bool) (d : Int) (er : Int) (w : World) (hT : Tab w 2 kevCells) (hL : Tab w 3 lenCells) (HC : Hid (∀ w : World, Tab w 2 kevCells → Tab w 3 lenCells → Calls Tryo.prog 43 #[.agg #[.int .i64 (y), .int .i64 (n), .bool (l), .int .i64 (d)]] w fun e w' => e = .returned (.int .i64 (er)) ∧ Below w.heap.size w w')) (h : (er != 0) = true) :
    Calls Tryo.prog 87 #[.agg #[.int .i64 (y), .int .i64 (n), .bool (l), .int .i64 (d)]] w fun e w' => e = .returned (.tuple #[.int .i64 0, .int .i64 (er)]) ∧ Below w.heap.size w w' := by
  go_enter Tryo.func87, Tryz.ntmps87
  go_wp2_with fail
  refine (HC.out _ (Tab.below hT bel) (Tab.below hL bel)).mono ?_
  rintro e w1 ⟨rfl, hb1⟩
  obtain ⟨hc1, hf1⟩ := bcell hb1
  have hz1 := hb1.size
  try simp at hz1
  have hs1x0 : w.heap.size < w1.heap.size := by omega
  have g1x0 : w1.cell? ⟨w.heap.size, 0, none⟩ = some (.int .i64 (y)) := cel hc1
  have g1x1 : w1.cell? ⟨w.heap.size, 1, none⟩ = some (.int .i64 (n)) := cel hc1
  have g1x2 : w1.cell? ⟨w.heap.size, 2, none⟩ = some (.bool (l)) := cel hc1
  have g1x3 : w1.cell? ⟨w.heap.size, 3, none⟩ = some (.int .i64 (d)) := cel hc1
  go_wp2_with fail
  go_ret2
  refine ⟨by first | rfl | (simp [*]; done), ?_⟩
  exact bel
set_option maxHeartbeats 2000000 in
theorem count_check_ok (y n : Int) (l : Bool) (d : Int) (v : Int) (w : World) (hT : Tab w 2 kevCells) (hL : Tab w 3 lenCells) (HC : Hid (∀ w : World, Tab w 2 kevCells → Tab w 3 lenCells → Calls Tryo.prog 43 #[.agg #[.int .i64 (y), .int .i64 (n), .bool (l), .int .i64 (d)]] w fun e w' => e = .returned (.int .i64 0) ∧ Below w.heap.size w w')) (HL : Hid (∀ w : World, Tab w 2 kevCells → Tab w 3 lenCells → Calls Tryo.prog 151 #[.int .i64 y, .agg #[.int .i64 (n), .bool (l)]] w fun e w' => e = .returned (.tuple #[.int .i64 (v), .int .i64 0]) ∧ Below w.heap.size w w'))  :
    Calls Tryo.prog 87 #[.agg #[.int .i64 (y), .int .i64 (n), .bool (l), .int .i64 (d)]] w fun e w' => e = .returned (.tuple #[.int .i64 (v), .int .i64 0]) ∧ Below w.heap.size w w' := by
  go_enter Tryo.func87, Tryz.ntmps87
  go_wp2_with fail
  refine (HC.out _ (Tab.below hT bel) (Tab.below hL bel)).mono ?_
  rintro e w1 ⟨rfl, hb1⟩
  obtain ⟨hc1, hf1⟩ := bcell hb1
  have hz1 := hb1.size
  try simp at hz1
  have hs1x0 : w.heap.size < w1.heap.size := by omega
  have g1x0 : w1.cell? ⟨w.heap.size, 0, none⟩ = some (.int .i64 (y)) := cel hc1
  have g1x1 : w1.cell? ⟨w.heap.size, 1, none⟩ = some (.int .i64 (n)) := cel hc1
  have g1x2 : w1.cell? ⟨w.heap.size, 2, none⟩ = some (.bool (l)) := cel hc1
  have g1x3 : w1.cell? ⟨w.heap.size, 3, none⟩ = some (.int .i64 (d)) := cel hc1
  go_wp2_with fail
  refine (HL.out _ (Tab.below hT bel) (Tab.below hL bel)).mono ?_
  rintro e w2 ⟨rfl, hb2⟩
  obtain ⟨hc2, hf2⟩ := bcell hb2
  have hz2 := hb2.size
  try simp at hz2
  go_wp2_with fail
  go_ret2
  refine ⟨by first | rfl | (simp [*]; done), ?_⟩
  exact bel
theorem count_check (y n : Int) (l : Bool) (d : Int) (w : World) (hy : I64 y) (hT : Tab w 2 kevCells) (hL : Tab w 3 lenCells) :
    Calls Tryo.prog 87 #[.agg #[.int .i64 (y), .int .i64 (n), .bool (l), .int .i64 (d)]] w fun e w' => e = .returned (.tuple #[.int .i64 (if D10.dateE y n l d = 0 then D10.lastV y n l else 0), .int .i64 (D10.dateE y n l d)]) ∧ Below w.heap.size w w' := by
  have HC := Lib.hid (fun w hT hL => heb_Check y n l d w hy hT hL)
  by_cases c : D10.dateE y n l d = 0
  · obtain ⟨⟨y1, y2, _⟩, hp⟩ := D10.date_valid c
    have HL := Lib.hid (fun w hT hL => heb_Last y n l w hy hT hL)
    rw [show D10.lastE y n l = 0 by simp [D10.lastE, Cal.yearIn_yes y y1 y2, hp]] at HL
    rw [c] at HC
    rw [c, if_pos rfl]
    exact count_check_ok y n l d _ w hT hL HC HL
  · rw [if_neg c]
    exact count_check_err y n l d _ w hT hL HC (by simpa using c)
set_option maxHeartbeats 2000000 in
theorem count_beside_go (y n : Int) (l : Bool) (d : Int) (by' kb kk : Int) (lp : Bool) (pl : Int) (po : Bool) (on : Int) (ol oo : Bool) (w : World) (HK : Hid (∀ w : World, Calls Tryo.prog 30 #[.int .i64 (y)] w fun e w' => e = .returned (.tuple #[.agg #[.int .i64 (kb), .int .i64 (kk), .bool (lp)], .int .i64 (0)]) ∧ Below w.heap.size w w')) (HP : Hid (∀ w : World, Calls Tryo.prog 152 #[.bool lp, .agg #[.int .i64 (n), .bool (l)]] w fun e w' => e = .returned (.tuple #[.int .i64 (pl), .bool (po)]) ∧ Below w.heap.size w w')) (HO : Hid (∀ w : World, Calls Tryo.prog 82 #[.bool lp, .int .i64 (pl + by')] w fun e w' => e = .returned (.tuple #[.agg #[.int .i64 (on), .bool (ol)], .bool (oo)]) ∧ Below w.heap.size w w')) (p1 : 1 ≤ pl ∧ pl ≤ 13) (b1 : -1 ≤ by' ∧ by' ≤ 1) :
    Calls Tryo.prog 88 #[.agg #[.int .i64 (y), .int .i64 (n), .bool (l), .int .i64 (d)], .int .i64 by'] w fun e w' => e = .returned (.tuple #[.agg #[.int .i64 (on), .bool (ol)], .bool (oo)]) ∧ Below w.heap.size w w' := by
  obtain ⟨p1, p2⟩ := p1
  obtain ⟨b1, b2⟩ := b1
  go_enter Tryo.func88, Tryz.ntmps88
  go_wp2_with fail
  refine (HK.out _).mono ?_
  rintro e w1 ⟨rfl, hb1⟩
  obtain ⟨hc1, hf1⟩ := bcell hb1
  have hz1 := hb1.size
  try simp at hz1
  have hs1x0 : w.heap.size < w1.heap.size := by omega
  have hs1x1 : (w.heap.size + 1) < w1.heap.size := by omega
  have g1x0 : w1.cell? ⟨w.heap.size, 0, none⟩ = some (.int .i64 (y)) := cel hc1
  have g1x1 : w1.cell? ⟨w.heap.size, 1, none⟩ = some (.int .i64 (n)) := cel hc1
  have g1x2 : w1.cell? ⟨w.heap.size, 2, none⟩ = some (.bool (l)) := cel hc1
  have g1x3 : w1.cell? ⟨w.heap.size, 3, none⟩ = some (.int .i64 (d)) := cel hc1
  have g1x4 : w1.cell? ⟨(w.heap.size + 1), 0, none⟩ = some (.int .i64 0) := cel hc1
  have g1x5 : w1.cell? ⟨(w.heap.size + 1), 1, none⟩ = some (.bool false) := cel hc1
  go_wp2_with fail
  refine (HP.out _).mono ?_
  rintro e w2 ⟨rfl, hb2⟩
  obtain ⟨hc2, hf2⟩ := bcell hb2
  have hz2 := hb2.size
  try simp at hz2
  have hl2w1 : w1.heap.size < w2.heap.size := by omega
  have hm2w1 : w1.heap.size ≤ w2.heap.size := by omega
  have hs2x0 : w.heap.size < w2.heap.size := by omega
  have hs2x1 : (w.heap.size + 1) < w2.heap.size := by omega
  have g2x0 : w2.cell? ⟨w.heap.size, 0, none⟩ = some (.int .i64 (y)) := cel hc2
  have g2x1 : w2.cell? ⟨w.heap.size, 1, none⟩ = some (.int .i64 (n)) := cel hc2
  have g2x2 : w2.cell? ⟨w.heap.size, 2, none⟩ = some (.bool (l)) := cel hc2
  have g2x3 : w2.cell? ⟨w.heap.size, 3, none⟩ = some (.int .i64 (d)) := cel hc2
  have g2x4 : w2.cell? ⟨(w.heap.size + 1), 0, none⟩ = some (.int .i64 0) := cel hc2
  have g2x5 : w2.cell? ⟨(w.heap.size + 1), 1, none⟩ = some (.bool false) := cel hc2
  have g2x6 : w2.cell? ⟨w1.heap.size, 0, none⟩ = some (.int .i64 (kb)) := cel hc2
  have g2x7 : w2.cell? ⟨w1.heap.size, 1, none⟩ = some (.int .i64 (kk)) := cel hc2
  have g2x8 : w2.cell? ⟨w1.heap.size, 2, none⟩ = some (.bool (lp)) := cel hc2
  go_wp2_with fail
  refine (HO.out _).mono ?_
  rintro e w3 ⟨rfl, hb3⟩
  obtain ⟨hc3, hf3⟩ := bcell hb3
  have hz3 := hb3.size
  try simp at hz3
  have hs3x0 : (w.heap.size + 1) < w3.heap.size := by omega
  have g3x0 : w3.cell? ⟨(w.heap.size + 1), 0, none⟩ = some (.int .i64 0) := cel hc3
  have g3x1 : w3.cell? ⟨(w.heap.size + 1), 1, none⟩ = some (.bool false) := cel hc3
  go_wp2_with fail
  refine bodyPost_ret (v := .tuple #[.agg #[.int .i64 (on), .bool (ol)], .bool (oo)]) (by simp [results, Tryz.results88, go_sem, *]) rfl ⟨rfl, ?_⟩
  exact bel
theorem count_beside (y n : Int) (l : Bool) (d : Int) (by' : Int) (w : World) (hd : D10.dateE y n l d = 0) (b1 : -1 ≤ by' ∧ by' ≤ 1) (d' : Int) :
    Calls Tryo.prog 88 #[.agg #[.int .i64 (y), .int .i64 (n), .bool (l), .int .i64 (d')], .int .i64 by'] w fun e w' => e = .returned (.tuple #[.agg #[.int .i64 (Cal.ofN (Cal.leap y) (Cal.plV (Cal.leap y) n l + by')), .bool (Cal.ofL (Cal.leap y) (Cal.plV (Cal.leap y) n l + by'))], .bool (Cal.ofOk (Cal.leap y) (Cal.plV (Cal.leap y) n l + by'))]) ∧ Below w.heap.size w w' := by
  obtain ⟨⟨y1, y2, m1, m2, _⟩, hp⟩ := D10.date_valid hd
  have hm : Cal.most (Cal.leap y) ≤ 13 := by unfold Cal.most; split <;> omega
  exact count_beside_go y n l d' by' _ _ _ _ _ _ _ _ w (Lib.hid fun w => keviah_Of_ok y w y1 y2) (Lib.hid fun w => code_Place_any (Cal.leap y) n l w) (Lib.hid fun w => code_Of_any (Cal.leap y) _ w (by omega)) ⟨m1, by omega⟩ b1
end Go.Proofs.YtaaaalbgjpjgoaaGreatDoor
end
section
/- Layer 27: the next day, and the one ahead. -/
namespace Go.Proofs.YtaaaalbgjpjgoaaGreatDoor
open Go.ChangeShapes Go.WideShapes Go.ChangeAt Go.RowKit
set_option linter.unusedVariables false
set_option maxRecDepth 100000
namespace D27
def NextIs (y n : Int) (l : Bool) (d ry rn : Int) (rl : Bool) (rd er : Int) : Prop :=
  (¬ D10.dateE y n l d = 0 ∧ er = D10.dateE y n l d ∧ ry = 0 ∧ rn = 0 ∧ rl = false ∧ rd = 0) ∨
  (D10.dateE y n l d = 0 ∧ D10.dayV y n l d = 2278650 ∧ er = 2 ∧ ry = 0 ∧ rn = 0 ∧ rl = false ∧ rd = 0) ∨
  (D10.dateE y n l d = 0 ∧ er = 0 ∧ D10.dateE ry rn rl rd = 0 ∧ D10.dayV ry rn rl rd = D10.dayV y n l d + 1)
theorem date_of_day {D : Int} (h1 : -1373427 ≤ D) (h2 : D ≤ 2278650) : ∃ (ry rn : Int) (rl : Bool) (rd : Int), D10.dateE ry rn rl rd = 0 ∧ D10.dayV ry rn rl rd = D := by
  obtain ⟨ry, rm, rd, hv, e⟩ := D10.day_there D h1 h2
  obtain ⟨a, b⟩ := D10.valid_date hv
  exact ⟨ry, _, _, rd, a, b.trans e.symm⟩
theorem next_some (y n : Int) (l : Bool) (d : Int) : ∃ (ry rn : Int) (rl : Bool) (rd er : Int), NextIs y n l d ry rn rl rd er := by
  by_cases h : D10.dateE y n l d = 0
  · obtain ⟨_, b1, b2⟩ := D10.dayV_ok y n l d h
    by_cases c : D10.dayV y n l d = 2278650
    · exact ⟨0, 0, false, 0, 2, .inr (.inl ⟨h, c, rfl, rfl, rfl, rfl, rfl⟩)⟩
    · obtain ⟨ry, rn, rl, rd, a, b⟩ := date_of_day (D := D10.dayV y n l d + 1) (by omega) (by omega)
      exact ⟨ry, rn, rl, rd, 0, .inr (.inr ⟨h, rfl, a, b⟩)⟩
  · exact ⟨0, 0, false, 0, _, .inl ⟨h, rfl, rfl, rfl, rfl, rfl⟩⟩
/-- A date of a month of the year, by its code. -/
theorem date_at {y n m d : Int} {l : Bool} (hv : D10.Valid y m d) (hn : Cal.ofN (Cal.leap y) m = n) (hl : Cal.ofL (Cal.leap y) m = l) : D10.dateE y n l d = 0 ∧ D10.dayV y n l d = D10.dayOf y m d := by
  subst hn; subst hl
  exact D10.valid_date hv
theorem of_ok (lp : Bool) (m : Int) : Cal.ofOk lp m = (decide (1 ≤ m) && decide (m ≤ Cal.most lp)) := rfl
theorem dayOf_next {y m : Int} (h1 : 1 ≤ y) (h2 : y ≤ 9999) (m1 : 1 ≤ m) (m2 : m + 1 ≤ Cal.most (Cal.leap y)) : D10.dayOf y (m + 1) 1 = D10.dayOf y m (D10.dLen y m) + 1 := by
  have := D10.ahead_next y m h1 h2 m1 m2
  unfold D10.dayOf; omega
theorem dayOf_year {y : Int} (h1 : 1 ≤ y) (h2 : y + 1 ≤ 9999) : D10.dayOf (y + 1) 1 1 = D10.dayOf y (Cal.most (Cal.leap y)) (D10.dLen y (Cal.most (Cal.leap y))) + 1 := by
  have a := D10.ahead_most y h1 (by omega)
  have b := D10.ahead_one (y + 1) (by omega) h2
  have hl : Cal.long y = Cal.first (y + 1) - Cal.first y := rfl
  unfold D10.dayOf; omega
theorem dayOf_last : D10.dayOf 9999 (Cal.most (Cal.leap 9999)) (D10.dLen 9999 (Cal.most (Cal.leap 9999))) = 2278650 := by
  have a := D10.ahead_most 9999 (by omega) (by omega)
  have hl : Cal.long 9999 = Cal.first 10000 - Cal.first 9999 := rfl
  have f := first_last
  unfold D10.dayOf; omega
end D27
set_option maxHeartbeats 2000000 in
theorem count_Next_err (y n : Int) (l : Bool) (d : Int) (v er : Int) (w : World) (hT : Tab w 2 kevCells) (hL : Tab w 3 lenCells) (HC : Hid (∀ w : World, Tab w 2 kevCells → Tab w 3 lenCells → Calls Tryo.prog 87 #[.agg #[.int .i64 (y), .int .i64 (n), .bool (l), .int .i64 (d)]] w fun e w' => e = .returned (.tuple #[.int .i64 (v), .int .i64 (er)]) ∧ Below w.heap.size w w')) (h : (er != 0) = true) :
    Calls Tryo.prog 42 #[.agg #[.int .i64 (y), .int .i64 (n), .bool (l), .int .i64 (d)]] w fun e w' => e = .returned (.tuple #[.agg #[.int .i64 (0), .int .i64 (0), .bool (false), .int .i64 (0)], .int .i64 (er)]) ∧ Below w.heap.size w w' := by
  go_enter Tryo.func42, Tryz.ntmps42
  go_wp2_with fail
  refine (HC.out _ (Tab.below hT bel) (Tab.below hL bel)).mono ?_
  rintro e w1 ⟨rfl, hb1⟩
  obtain ⟨hc1, hf1⟩ := bcell hb1
  have hz1 := hb1.size
  try simp at hz1
  have hs1x0 : w.heap.size < w1.heap.size := by omega
  have hs1x1 : (w.heap.size + 1) < w1.heap.size := by omega
  have g1x0 : w1.cell? ⟨w.heap.size, 0, none⟩ = some (.int .i64 (y)) := cel hc1
  have g1x1 : w1.cell? ⟨w.heap.size, 1, none⟩ = some (.int .i64 (n)) := cel hc1
  have g1x2 : w1.cell? ⟨w.heap.size, 2, none⟩ = some (.bool (l)) := cel hc1
  have g1x3 : w1.cell? ⟨w.heap.size, 3, none⟩ = some (.int .i64 (d)) := cel hc1
  have g1x4 : w1.cell? ⟨(w.heap.size + 1), 0, none⟩ = some (.int .i64 (0)) := cel hc1
  have g1x5 : w1.cell? ⟨(w.heap.size + 1), 1, none⟩ = some (.int .i64 (0)) := cel hc1
  have g1x6 : w1.cell? ⟨(w.heap.size + 1), 2, none⟩ = some (.bool (false)) := cel hc1
  have g1x7 : w1.cell? ⟨(w.heap.size + 1), 3, none⟩ = some (.int .i64 (0)) := cel hc1
  have z1x0 : w1.frozen? ⟨w.heap.size, 0, none⟩ = false := (hf1 _ _ (by first | omega | (simp; done) | (simp; omega))).trans (by first | (with_reducible assumption) | (simp [go_sem]; done) | (simp [go_sem, *]; done))
  have z1x1 : w1.frozen? ⟨w.heap.size, 1, none⟩ = false := (hf1 _ _ (by first | omega | (simp; done) | (simp; omega))).trans (by first | (with_reducible assumption) | (simp [go_sem]; done) | (simp [go_sem, *]; done))
  have z1x2 : w1.frozen? ⟨w.heap.size, 2, none⟩ = false := (hf1 _ _ (by first | omega | (simp; done) | (simp; omega))).trans (by first | (with_reducible assumption) | (simp [go_sem]; done) | (simp [go_sem, *]; done))
  have z1x3 : w1.frozen? ⟨w.heap.size, 3, none⟩ = false := (hf1 _ _ (by first | omega | (simp; done) | (simp; omega))).trans (by first | (with_reducible assumption) | (simp [go_sem]; done) | (simp [go_sem, *]; done))
  have z1x4 : w1.frozen? ⟨(w.heap.size + 1), 0, none⟩ = false := (hf1 _ _ (by first | omega | (simp; done) | (simp; omega))).trans (by first | (with_reducible assumption) | (simp [go_sem]; done) | (simp [go_sem, *]; done))
  have z1x5 : w1.frozen? ⟨(w.heap.size + 1), 1, none⟩ = false := (hf1 _ _ (by first | omega | (simp; done) | (simp; omega))).trans (by first | (with_reducible assumption) | (simp [go_sem]; done) | (simp [go_sem, *]; done))
  have z1x6 : w1.frozen? ⟨(w.heap.size + 1), 2, none⟩ = false := (hf1 _ _ (by first | omega | (simp; done) | (simp; omega))).trans (by first | (with_reducible assumption) | (simp [go_sem]; done) | (simp [go_sem, *]; done))
  have z1x7 : w1.frozen? ⟨(w.heap.size + 1), 3, none⟩ = false := (hf1 _ _ (by first | omega | (simp; done) | (simp; omega))).trans (by first | (with_reducible assumption) | (simp [go_sem]; done) | (simp [go_sem, *]; done))
  go_wp2_with fail
  refine bodyPost_ret (v := .tuple #[.agg #[.int .i64 (0), .int .i64 (0), .bool (false), .int .i64 (0)], .int .i64 (er)]) (by simp [results, Tryz.results42, go_sem, *]) rfl ⟨rfl, ?_⟩
  exact bel
set_option maxHeartbeats 2000000 in
theorem count_Next_day (y n : Int) (l : Bool) (d : Int) (v : Int) (w : World) (hT : Tab w 2 kevCells) (hL : Tab w 3 lenCells) (HC : Hid (∀ w : World, Tab w 2 kevCells → Tab w 3 lenCells → Calls Tryo.prog 87 #[.agg #[.int .i64 (y), .int .i64 (n), .bool (l), .int .i64 (d)]] w fun e w' => e = .returned (.tuple #[.int .i64 (v), .int .i64 (0)]) ∧ Below w.heap.size w w')) (hd : 1 ≤ d ∧ d ≤ 30) (h : d < v) :
    Calls Tryo.prog 42 #[.agg #[.int .i64 (y), .int .i64 (n), .bool (l), .int .i64 (d)]] w fun e w' => e = .returned (.tuple #[.agg #[.int .i64 (y), .int .i64 (n), .bool (l), .int .i64 (d + 1)], .int .i64 (0)]) ∧ Below w.heap.size w w' := by
  obtain ⟨d1, d2⟩ := hd
  go_enter Tryo.func42, Tryz.ntmps42
  go_wp2_with fail
  refine (HC.out _ (Tab.below hT bel) (Tab.below hL bel)).mono ?_
  rintro e w1 ⟨rfl, hb1⟩
  obtain ⟨hc1, hf1⟩ := bcell hb1
  have hz1 := hb1.size
  try simp at hz1
  have hs1x0 : w.heap.size < w1.heap.size := by omega
  have hs1x1 : (w.heap.size + 1) < w1.heap.size := by omega
  have g1x0 : w1.cell? ⟨w.heap.size, 0, none⟩ = some (.int .i64 (y)) := cel hc1
  have g1x1 : w1.cell? ⟨w.heap.size, 1, none⟩ = some (.int .i64 (n)) := cel hc1
  have g1x2 : w1.cell? ⟨w.heap.size, 2, none⟩ = some (.bool (l)) := cel hc1
  have g1x3 : w1.cell? ⟨w.heap.size, 3, none⟩ = some (.int .i64 (d)) := cel hc1
  have g1x4 : w1.cell? ⟨(w.heap.size + 1), 0, none⟩ = some (.int .i64 (0)) := cel hc1
  have g1x5 : w1.cell? ⟨(w.heap.size + 1), 1, none⟩ = some (.int .i64 (0)) := cel hc1
  have g1x6 : w1.cell? ⟨(w.heap.size + 1), 2, none⟩ = some (.bool (false)) := cel hc1
  have g1x7 : w1.cell? ⟨(w.heap.size + 1), 3, none⟩ = some (.int .i64 (0)) := cel hc1
  have z1x0 : w1.frozen? ⟨w.heap.size, 0, none⟩ = false := (hf1 _ _ (by first | omega | (simp; done) | (simp; omega))).trans (by first | (with_reducible assumption) | (simp [go_sem]; done) | (simp [go_sem, *]; done))
  have z1x1 : w1.frozen? ⟨w.heap.size, 1, none⟩ = false := (hf1 _ _ (by first | omega | (simp; done) | (simp; omega))).trans (by first | (with_reducible assumption) | (simp [go_sem]; done) | (simp [go_sem, *]; done))
  have z1x2 : w1.frozen? ⟨w.heap.size, 2, none⟩ = false := (hf1 _ _ (by first | omega | (simp; done) | (simp; omega))).trans (by first | (with_reducible assumption) | (simp [go_sem]; done) | (simp [go_sem, *]; done))
  have z1x3 : w1.frozen? ⟨w.heap.size, 3, none⟩ = false := (hf1 _ _ (by first | omega | (simp; done) | (simp; omega))).trans (by first | (with_reducible assumption) | (simp [go_sem]; done) | (simp [go_sem, *]; done))
  have z1x4 : w1.frozen? ⟨(w.heap.size + 1), 0, none⟩ = false := (hf1 _ _ (by first | omega | (simp; done) | (simp; omega))).trans (by first | (with_reducible assumption) | (simp [go_sem]; done) | (simp [go_sem, *]; done))
  have z1x5 : w1.frozen? ⟨(w.heap.size + 1), 1, none⟩ = false := (hf1 _ _ (by first | omega | (simp; done) | (simp; omega))).trans (by first | (with_reducible assumption) | (simp [go_sem]; done) | (simp [go_sem, *]; done))
  have z1x6 : w1.frozen? ⟨(w.heap.size + 1), 2, none⟩ = false := (hf1 _ _ (by first | omega | (simp; done) | (simp; omega))).trans (by first | (with_reducible assumption) | (simp [go_sem]; done) | (simp [go_sem, *]; done))
  have z1x7 : w1.frozen? ⟨(w.heap.size + 1), 3, none⟩ = false := (hf1 _ _ (by first | omega | (simp; done) | (simp; omega))).trans (by first | (with_reducible assumption) | (simp [go_sem]; done) | (simp [go_sem, *]; done))
  go_wp2_with fail
  refine bodyPost_ret (v := .tuple #[.agg #[.int .i64 (y), .int .i64 (n), .bool (l), .int .i64 (d + 1)], .int .i64 (0)]) (by simp [results, Tryz.results42, go_sem, *]) rfl ⟨rfl, ?_⟩
  exact bel
set_option maxHeartbeats 2000000 in
theorem count_Next_month (y n : Int) (l : Bool) (d : Int) (v on : Int) (ol : Bool) (w : World) (hT : Tab w 2 kevCells) (hL : Tab w 3 lenCells) (HC : Hid (∀ w : World, Tab w 2 kevCells → Tab w 3 lenCells → Calls Tryo.prog 87 #[.agg #[.int .i64 (y), .int .i64 (n), .bool (l), .int .i64 (d)]] w fun e w' => e = .returned (.tuple #[.int .i64 (v), .int .i64 (0)]) ∧ Below w.heap.size w w')) (HB : Hid (∀ w : World, Calls Tryo.prog 88 #[.agg #[.int .i64 (y), .int .i64 (n), .bool (l), .int .i64 (1)], .int .i64 (1)] w fun e w' => e = .returned (.tuple #[.agg #[.int .i64 (on), .bool (ol)], .bool true]) ∧ Below w.heap.size w w')) (h : v ≤ d) :
    Calls Tryo.prog 42 #[.agg #[.int .i64 (y), .int .i64 (n), .bool (l), .int .i64 (d)]] w fun e w' => e = .returned (.tuple #[.agg #[.int .i64 (y), .int .i64 (on), .bool (ol), .int .i64 (1)], .int .i64 (0)]) ∧ Below w.heap.size w w' := by
  go_enter Tryo.func42, Tryz.ntmps42
  go_wp2_with fail
  refine (HC.out _ (Tab.below hT bel) (Tab.below hL bel)).mono ?_
  rintro e w1 ⟨rfl, hb1⟩
  obtain ⟨hc1, hf1⟩ := bcell hb1
  have hz1 := hb1.size
  try simp at hz1
  have hs1x0 : w.heap.size < w1.heap.size := by omega
  have hs1x1 : (w.heap.size + 1) < w1.heap.size := by omega
  have g1x0 : w1.cell? ⟨w.heap.size, 0, none⟩ = some (.int .i64 (y)) := cel hc1
  have g1x1 : w1.cell? ⟨w.heap.size, 1, none⟩ = some (.int .i64 (n)) := cel hc1
  have g1x2 : w1.cell? ⟨w.heap.size, 2, none⟩ = some (.bool (l)) := cel hc1
  have g1x3 : w1.cell? ⟨w.heap.size, 3, none⟩ = some (.int .i64 (d)) := cel hc1
  have g1x4 : w1.cell? ⟨(w.heap.size + 1), 0, none⟩ = some (.int .i64 (0)) := cel hc1
  have g1x5 : w1.cell? ⟨(w.heap.size + 1), 1, none⟩ = some (.int .i64 (0)) := cel hc1
  have g1x6 : w1.cell? ⟨(w.heap.size + 1), 2, none⟩ = some (.bool (false)) := cel hc1
  have g1x7 : w1.cell? ⟨(w.heap.size + 1), 3, none⟩ = some (.int .i64 (0)) := cel hc1
  have z1x0 : w1.frozen? ⟨w.heap.size, 0, none⟩ = false := (hf1 _ _ (by first | omega | (simp; done) | (simp; omega))).trans (by first | (with_reducible assumption) | (simp [go_sem]; done) | (simp [go_sem, *]; done))
  have z1x1 : w1.frozen? ⟨w.heap.size, 1, none⟩ = false := (hf1 _ _ (by first | omega | (simp; done) | (simp; omega))).trans (by first | (with_reducible assumption) | (simp [go_sem]; done) | (simp [go_sem, *]; done))
  have z1x2 : w1.frozen? ⟨w.heap.size, 2, none⟩ = false := (hf1 _ _ (by first | omega | (simp; done) | (simp; omega))).trans (by first | (with_reducible assumption) | (simp [go_sem]; done) | (simp [go_sem, *]; done))
  have z1x3 : w1.frozen? ⟨w.heap.size, 3, none⟩ = false := (hf1 _ _ (by first | omega | (simp; done) | (simp; omega))).trans (by first | (with_reducible assumption) | (simp [go_sem]; done) | (simp [go_sem, *]; done))
  have z1x4 : w1.frozen? ⟨(w.heap.size + 1), 0, none⟩ = false := (hf1 _ _ (by first | omega | (simp; done) | (simp; omega))).trans (by first | (with_reducible assumption) | (simp [go_sem]; done) | (simp [go_sem, *]; done))
  have z1x5 : w1.frozen? ⟨(w.heap.size + 1), 1, none⟩ = false := (hf1 _ _ (by first | omega | (simp; done) | (simp; omega))).trans (by first | (with_reducible assumption) | (simp [go_sem]; done) | (simp [go_sem, *]; done))
  have z1x6 : w1.frozen? ⟨(w.heap.size + 1), 2, none⟩ = false := (hf1 _ _ (by first | omega | (simp; done) | (simp; omega))).trans (by first | (with_reducible assumption) | (simp [go_sem]; done) | (simp [go_sem, *]; done))
  have z1x7 : w1.frozen? ⟨(w.heap.size + 1), 3, none⟩ = false := (hf1 _ _ (by first | omega | (simp; done) | (simp; omega))).trans (by first | (with_reducible assumption) | (simp [go_sem]; done) | (simp [go_sem, *]; done))
  go_wp2_with fail
  refine (HB.out _).mono ?_
  rintro e w2 ⟨rfl, hb2⟩
  obtain ⟨hc2, hf2⟩ := bcell hb2
  have hz2 := hb2.size
  try simp at hz2
  have hs2x0 : w.heap.size < w2.heap.size := by omega
  have hs2x1 : (w.heap.size + 1) < w2.heap.size := by omega
  have g2x0 : w2.cell? ⟨w.heap.size, 0, none⟩ = some (.int .i64 (y)) := cel hc2
  have g2x1 : w2.cell? ⟨w.heap.size, 1, none⟩ = some (.int .i64 (n)) := cel hc2
  have g2x2 : w2.cell? ⟨w.heap.size, 2, none⟩ = some (.bool (l)) := cel hc2
  have g2x3 : w2.cell? ⟨w.heap.size, 3, none⟩ = some (.int .i64 (1)) := cel hc2
  have g2x4 : w2.cell? ⟨(w.heap.size + 1), 0, none⟩ = some (.int .i64 (0)) := cel hc2
  have g2x5 : w2.cell? ⟨(w.heap.size + 1), 1, none⟩ = some (.int .i64 (0)) := cel hc2
  have g2x6 : w2.cell? ⟨(w.heap.size + 1), 2, none⟩ = some (.bool (false)) := cel hc2
  have g2x7 : w2.cell? ⟨(w.heap.size + 1), 3, none⟩ = some (.int .i64 (0)) := cel hc2
  have z2x0 : w2.frozen? ⟨w.heap.size, 0, none⟩ = false := (hf2 _ _ (by first | omega | (simp; done) | (simp; omega))).trans (by first | (with_reducible assumption) | (simp [go_sem]; done) | (simp [go_sem, *]; done))
  have z2x1 : w2.frozen? ⟨w.heap.size, 1, none⟩ = false := (hf2 _ _ (by first | omega | (simp; done) | (simp; omega))).trans (by first | (with_reducible assumption) | (simp [go_sem]; done) | (simp [go_sem, *]; done))
  have z2x2 : w2.frozen? ⟨w.heap.size, 2, none⟩ = false := (hf2 _ _ (by first | omega | (simp; done) | (simp; omega))).trans (by first | (with_reducible assumption) | (simp [go_sem]; done) | (simp [go_sem, *]; done))
  have z2x3 : w2.frozen? ⟨w.heap.size, 3, none⟩ = false := (hf2 _ _ (by first | omega | (simp; done) | (simp; omega))).trans (by first | (with_reducible assumption) | (simp [go_sem]; done) | (simp [go_sem, *]; done))
  have z2x4 : w2.frozen? ⟨(w.heap.size + 1), 0, none⟩ = false := (hf2 _ _ (by first | omega | (simp; done) | (simp; omega))).trans (by first | (with_reducible assumption) | (simp [go_sem]; done) | (simp [go_sem, *]; done))
  have z2x5 : w2.frozen? ⟨(w.heap.size + 1), 1, none⟩ = false := (hf2 _ _ (by first | omega | (simp; done) | (simp; omega))).trans (by first | (with_reducible assumption) | (simp [go_sem]; done) | (simp [go_sem, *]; done))
  have z2x6 : w2.frozen? ⟨(w.heap.size + 1), 2, none⟩ = false := (hf2 _ _ (by first | omega | (simp; done) | (simp; omega))).trans (by first | (with_reducible assumption) | (simp [go_sem]; done) | (simp [go_sem, *]; done))
  have z2x7 : w2.frozen? ⟨(w.heap.size + 1), 3, none⟩ = false := (hf2 _ _ (by first | omega | (simp; done) | (simp; omega))).trans (by first | (with_reducible assumption) | (simp [go_sem]; done) | (simp [go_sem, *]; done))
  go_wp2_with fail
  refine bodyPost_ret (v := .tuple #[.agg #[.int .i64 (y), .int .i64 (on), .bool (ol), .int .i64 (1)], .int .i64 (0)]) (by simp [results, Tryz.results42, go_sem, *]) rfl ⟨rfl, ?_⟩
  exact bel
set_option maxHeartbeats 2000000 in
theorem count_Next_last (n : Int) (l : Bool) (d : Int) (v on : Int) (ol : Bool) (w : World) (hT : Tab w 2 kevCells) (hL : Tab w 3 lenCells) (HC : Hid (∀ w : World, Tab w 2 kevCells → Tab w 3 lenCells → Calls Tryo.prog 87 #[.agg #[.int .i64 9999, .int .i64 (n), .bool (l), .int .i64 (d)]] w fun e w' => e = .returned (.tuple #[.int .i64 (v), .int .i64 (0)]) ∧ Below w.heap.size w w')) (HB : Hid (∀ w : World, Calls Tryo.prog 88 #[.agg #[.int .i64 9999, .int .i64 (n), .bool (l), .int .i64 (1)], .int .i64 (1)] w fun e w' => e = .returned (.tuple #[.agg #[.int .i64 (on), .bool (ol)], .bool false]) ∧ Below w.heap.size w w')) (h : v ≤ d) :
    Calls Tryo.prog 42 #[.agg #[.int .i64 (9999), .int .i64 (n), .bool (l), .int .i64 (d)]] w fun e w' => e = .returned (.tuple #[.agg #[.int .i64 (0), .int .i64 (0), .bool (false), .int .i64 (0)], .int .i64 (2)]) ∧ Below w.heap.size w w' := by
  go_enter Tryo.func42, Tryz.ntmps42
  go_wp2_with fail
  refine (HC.out _ (Tab.below hT bel) (Tab.below hL bel)).mono ?_
  rintro e w1 ⟨rfl, hb1⟩
  obtain ⟨hc1, hf1⟩ := bcell hb1
  have hz1 := hb1.size
  try simp at hz1
  have hs1x0 : w.heap.size < w1.heap.size := by omega
  have hs1x1 : (w.heap.size + 1) < w1.heap.size := by omega
  have g1x0 : w1.cell? ⟨w.heap.size, 0, none⟩ = some (.int .i64 9999) := cel hc1
  have g1x1 : w1.cell? ⟨w.heap.size, 1, none⟩ = some (.int .i64 (n)) := cel hc1
  have g1x2 : w1.cell? ⟨w.heap.size, 2, none⟩ = some (.bool (l)) := cel hc1
  have g1x3 : w1.cell? ⟨w.heap.size, 3, none⟩ = some (.int .i64 (d)) := cel hc1
  have g1x4 : w1.cell? ⟨(w.heap.size + 1), 0, none⟩ = some (.int .i64 (0)) := cel hc1
  have g1x5 : w1.cell? ⟨(w.heap.size + 1), 1, none⟩ = some (.int .i64 (0)) := cel hc1
  have g1x6 : w1.cell? ⟨(w.heap.size + 1), 2, none⟩ = some (.bool (false)) := cel hc1
  have g1x7 : w1.cell? ⟨(w.heap.size + 1), 3, none⟩ = some (.int .i64 (0)) := cel hc1
  have z1x0 : w1.frozen? ⟨w.heap.size, 0, none⟩ = false := (hf1 _ _ (by first | omega | (simp; done) | (simp; omega))).trans (by first | (with_reducible assumption) | (simp [go_sem]; done) | (simp [go_sem, *]; done))
  have z1x1 : w1.frozen? ⟨w.heap.size, 1, none⟩ = false := (hf1 _ _ (by first | omega | (simp; done) | (simp; omega))).trans (by first | (with_reducible assumption) | (simp [go_sem]; done) | (simp [go_sem, *]; done))
  have z1x2 : w1.frozen? ⟨w.heap.size, 2, none⟩ = false := (hf1 _ _ (by first | omega | (simp; done) | (simp; omega))).trans (by first | (with_reducible assumption) | (simp [go_sem]; done) | (simp [go_sem, *]; done))
  have z1x3 : w1.frozen? ⟨w.heap.size, 3, none⟩ = false := (hf1 _ _ (by first | omega | (simp; done) | (simp; omega))).trans (by first | (with_reducible assumption) | (simp [go_sem]; done) | (simp [go_sem, *]; done))
  have z1x4 : w1.frozen? ⟨(w.heap.size + 1), 0, none⟩ = false := (hf1 _ _ (by first | omega | (simp; done) | (simp; omega))).trans (by first | (with_reducible assumption) | (simp [go_sem]; done) | (simp [go_sem, *]; done))
  have z1x5 : w1.frozen? ⟨(w.heap.size + 1), 1, none⟩ = false := (hf1 _ _ (by first | omega | (simp; done) | (simp; omega))).trans (by first | (with_reducible assumption) | (simp [go_sem]; done) | (simp [go_sem, *]; done))
  have z1x6 : w1.frozen? ⟨(w.heap.size + 1), 2, none⟩ = false := (hf1 _ _ (by first | omega | (simp; done) | (simp; omega))).trans (by first | (with_reducible assumption) | (simp [go_sem]; done) | (simp [go_sem, *]; done))
  have z1x7 : w1.frozen? ⟨(w.heap.size + 1), 3, none⟩ = false := (hf1 _ _ (by first | omega | (simp; done) | (simp; omega))).trans (by first | (with_reducible assumption) | (simp [go_sem]; done) | (simp [go_sem, *]; done))
  go_wp2_with fail
  refine (HB.out _).mono ?_
  rintro e w2 ⟨rfl, hb2⟩
  obtain ⟨hc2, hf2⟩ := bcell hb2
  have hz2 := hb2.size
  try simp at hz2
  have hs2x0 : w.heap.size < w2.heap.size := by omega
  have hs2x1 : (w.heap.size + 1) < w2.heap.size := by omega
  have g2x0 : w2.cell? ⟨w.heap.size, 0, none⟩ = some (.int .i64 9999) := cel hc2
  have g2x1 : w2.cell? ⟨w.heap.size, 1, none⟩ = some (.int .i64 (n)) := cel hc2
  have g2x2 : w2.cell? ⟨w.heap.size, 2, none⟩ = some (.bool (l)) := cel hc2
  have g2x3 : w2.cell? ⟨w.heap.size, 3, none⟩ = some (.int .i64 (1)) := cel hc2
  have g2x4 : w2.cell? ⟨(w.heap.size + 1), 0, none⟩ = some (.int .i64 (0)) := cel hc2
  have g2x5 : w2.cell? ⟨(w.heap.size + 1), 1, none⟩ = some (.int .i64 (0)) := cel hc2
  have g2x6 : w2.cell? ⟨(w.heap.size + 1), 2, none⟩ = some (.bool (false)) := cel hc2
  have g2x7 : w2.cell? ⟨(w.heap.size + 1), 3, none⟩ = some (.int .i64 (0)) := cel hc2
  have z2x0 : w2.frozen? ⟨w.heap.size, 0, none⟩ = false := (hf2 _ _ (by first | omega | (simp; done) | (simp; omega))).trans (by first | (with_reducible assumption) | (simp [go_sem]; done) | (simp [go_sem, *]; done))
  have z2x1 : w2.frozen? ⟨w.heap.size, 1, none⟩ = false := (hf2 _ _ (by first | omega | (simp; done) | (simp; omega))).trans (by first | (with_reducible assumption) | (simp [go_sem]; done) | (simp [go_sem, *]; done))
  have z2x2 : w2.frozen? ⟨w.heap.size, 2, none⟩ = false := (hf2 _ _ (by first | omega | (simp; done) | (simp; omega))).trans (by first | (with_reducible assumption) | (simp [go_sem]; done) | (simp [go_sem, *]; done))
  have z2x3 : w2.frozen? ⟨w.heap.size, 3, none⟩ = false := (hf2 _ _ (by first | omega | (simp; done) | (simp; omega))).trans (by first | (with_reducible assumption) | (simp [go_sem]; done) | (simp [go_sem, *]; done))
  have z2x4 : w2.frozen? ⟨(w.heap.size + 1), 0, none⟩ = false := (hf2 _ _ (by first | omega | (simp; done) | (simp; omega))).trans (by first | (with_reducible assumption) | (simp [go_sem]; done) | (simp [go_sem, *]; done))
  have z2x5 : w2.frozen? ⟨(w.heap.size + 1), 1, none⟩ = false := (hf2 _ _ (by first | omega | (simp; done) | (simp; omega))).trans (by first | (with_reducible assumption) | (simp [go_sem]; done) | (simp [go_sem, *]; done))
  have z2x6 : w2.frozen? ⟨(w.heap.size + 1), 2, none⟩ = false := (hf2 _ _ (by first | omega | (simp; done) | (simp; omega))).trans (by first | (with_reducible assumption) | (simp [go_sem]; done) | (simp [go_sem, *]; done))
  have z2x7 : w2.frozen? ⟨(w.heap.size + 1), 3, none⟩ = false := (hf2 _ _ (by first | omega | (simp; done) | (simp; omega))).trans (by first | (with_reducible assumption) | (simp [go_sem]; done) | (simp [go_sem, *]; done))
  go_wp2_with fail
  refine bodyPost_ret (v := .tuple #[.agg #[.int .i64 (0), .int .i64 (0), .bool (false), .int .i64 (0)], .int .i64 (2)]) (by simp [results, Tryz.results42, go_sem, *]) rfl ⟨rfl, ?_⟩
  exact bel
set_option maxHeartbeats 2000000 in
theorem count_Next_year (y n : Int) (l : Bool) (d : Int) (v on : Int) (ol : Bool) (w : World) (hT : Tab w 2 kevCells) (hL : Tab w 3 lenCells) (HC : Hid (∀ w : World, Tab w 2 kevCells → Tab w 3 lenCells → Calls Tryo.prog 87 #[.agg #[.int .i64 (y), .int .i64 (n), .bool (l), .int .i64 (d)]] w fun e w' => e = .returned (.tuple #[.int .i64 (v), .int .i64 (0)]) ∧ Below w.heap.size w w')) (HB : Hid (∀ w : World, Calls Tryo.prog 88 #[.agg #[.int .i64 (y), .int .i64 (n), .bool (l), .int .i64 (1)], .int .i64 (1)] w fun e w' => e = .returned (.tuple #[.agg #[.int .i64 (on), .bool (ol)], .bool false]) ∧ Below w.heap.size w w')) (h : v ≤ d) (y1 : 1 ≤ y) (y2 : y < 9999) :
    Calls Tryo.prog 42 #[.agg #[.int .i64 (y), .int .i64 (n), .bool (l), .int .i64 (d)]] w fun e w' => e = .returned (.tuple #[.agg #[.int .i64 (y + 1), .int .i64 (1), .bool (false), .int .i64 (1)], .int .i64 (0)]) ∧ Below w.heap.size w w' := by
  go_enter Tryo.func42, Tryz.ntmps42
  go_wp2_with fail
  refine (HC.out _ (Tab.below hT bel) (Tab.below hL bel)).mono ?_
  rintro e w1 ⟨rfl, hb1⟩
  obtain ⟨hc1, hf1⟩ := bcell hb1
  have hz1 := hb1.size
  try simp at hz1
  have hs1x0 : w.heap.size < w1.heap.size := by omega
  have hs1x1 : (w.heap.size + 1) < w1.heap.size := by omega
  have g1x0 : w1.cell? ⟨w.heap.size, 0, none⟩ = some (.int .i64 (y)) := cel hc1
  have g1x1 : w1.cell? ⟨w.heap.size, 1, none⟩ = some (.int .i64 (n)) := cel hc1
  have g1x2 : w1.cell? ⟨w.heap.size, 2, none⟩ = some (.bool (l)) := cel hc1
  have g1x3 : w1.cell? ⟨w.heap.size, 3, none⟩ = some (.int .i64 (d)) := cel hc1
  have g1x4 : w1.cell? ⟨(w.heap.size + 1), 0, none⟩ = some (.int .i64 (0)) := cel hc1
  have g1x5 : w1.cell? ⟨(w.heap.size + 1), 1, none⟩ = some (.int .i64 (0)) := cel hc1
  have g1x6 : w1.cell? ⟨(w.heap.size + 1), 2, none⟩ = some (.bool (false)) := cel hc1
  have g1x7 : w1.cell? ⟨(w.heap.size + 1), 3, none⟩ = some (.int .i64 (0)) := cel hc1
  have z1x0 : w1.frozen? ⟨w.heap.size, 0, none⟩ = false := (hf1 _ _ (by first | omega | (simp; done) | (simp; omega))).trans (by first | (with_reducible assumption) | (simp [go_sem]; done) | (simp [go_sem, *]; done))
  have z1x1 : w1.frozen? ⟨w.heap.size, 1, none⟩ = false := (hf1 _ _ (by first | omega | (simp; done) | (simp; omega))).trans (by first | (with_reducible assumption) | (simp [go_sem]; done) | (simp [go_sem, *]; done))
  have z1x2 : w1.frozen? ⟨w.heap.size, 2, none⟩ = false := (hf1 _ _ (by first | omega | (simp; done) | (simp; omega))).trans (by first | (with_reducible assumption) | (simp [go_sem]; done) | (simp [go_sem, *]; done))
  have z1x3 : w1.frozen? ⟨w.heap.size, 3, none⟩ = false := (hf1 _ _ (by first | omega | (simp; done) | (simp; omega))).trans (by first | (with_reducible assumption) | (simp [go_sem]; done) | (simp [go_sem, *]; done))
  have z1x4 : w1.frozen? ⟨(w.heap.size + 1), 0, none⟩ = false := (hf1 _ _ (by first | omega | (simp; done) | (simp; omega))).trans (by first | (with_reducible assumption) | (simp [go_sem]; done) | (simp [go_sem, *]; done))
  have z1x5 : w1.frozen? ⟨(w.heap.size + 1), 1, none⟩ = false := (hf1 _ _ (by first | omega | (simp; done) | (simp; omega))).trans (by first | (with_reducible assumption) | (simp [go_sem]; done) | (simp [go_sem, *]; done))
  have z1x6 : w1.frozen? ⟨(w.heap.size + 1), 2, none⟩ = false := (hf1 _ _ (by first | omega | (simp; done) | (simp; omega))).trans (by first | (with_reducible assumption) | (simp [go_sem]; done) | (simp [go_sem, *]; done))
  have z1x7 : w1.frozen? ⟨(w.heap.size + 1), 3, none⟩ = false := (hf1 _ _ (by first | omega | (simp; done) | (simp; omega))).trans (by first | (with_reducible assumption) | (simp [go_sem]; done) | (simp [go_sem, *]; done))
  go_wp2_with fail
  refine (HB.out _).mono ?_
  rintro e w2 ⟨rfl, hb2⟩
  obtain ⟨hc2, hf2⟩ := bcell hb2
  have hz2 := hb2.size
  try simp at hz2
  have hs2x0 : w.heap.size < w2.heap.size := by omega
  have hs2x1 : (w.heap.size + 1) < w2.heap.size := by omega
  have g2x0 : w2.cell? ⟨w.heap.size, 0, none⟩ = some (.int .i64 (y)) := cel hc2
  have g2x1 : w2.cell? ⟨w.heap.size, 1, none⟩ = some (.int .i64 (n)) := cel hc2
  have g2x2 : w2.cell? ⟨w.heap.size, 2, none⟩ = some (.bool (l)) := cel hc2
  have g2x3 : w2.cell? ⟨w.heap.size, 3, none⟩ = some (.int .i64 (1)) := cel hc2
  have g2x4 : w2.cell? ⟨(w.heap.size + 1), 0, none⟩ = some (.int .i64 (0)) := cel hc2
  have g2x5 : w2.cell? ⟨(w.heap.size + 1), 1, none⟩ = some (.int .i64 (0)) := cel hc2
  have g2x6 : w2.cell? ⟨(w.heap.size + 1), 2, none⟩ = some (.bool (false)) := cel hc2
  have g2x7 : w2.cell? ⟨(w.heap.size + 1), 3, none⟩ = some (.int .i64 (0)) := cel hc2
  have z2x0 : w2.frozen? ⟨w.heap.size, 0, none⟩ = false := (hf2 _ _ (by first | omega | (simp; done) | (simp; omega))).trans (by first | (with_reducible assumption) | (simp [go_sem]; done) | (simp [go_sem, *]; done))
  have z2x1 : w2.frozen? ⟨w.heap.size, 1, none⟩ = false := (hf2 _ _ (by first | omega | (simp; done) | (simp; omega))).trans (by first | (with_reducible assumption) | (simp [go_sem]; done) | (simp [go_sem, *]; done))
  have z2x2 : w2.frozen? ⟨w.heap.size, 2, none⟩ = false := (hf2 _ _ (by first | omega | (simp; done) | (simp; omega))).trans (by first | (with_reducible assumption) | (simp [go_sem]; done) | (simp [go_sem, *]; done))
  have z2x3 : w2.frozen? ⟨w.heap.size, 3, none⟩ = false := (hf2 _ _ (by first | omega | (simp; done) | (simp; omega))).trans (by first | (with_reducible assumption) | (simp [go_sem]; done) | (simp [go_sem, *]; done))
  have z2x4 : w2.frozen? ⟨(w.heap.size + 1), 0, none⟩ = false := (hf2 _ _ (by first | omega | (simp; done) | (simp; omega))).trans (by first | (with_reducible assumption) | (simp [go_sem]; done) | (simp [go_sem, *]; done))
  have z2x5 : w2.frozen? ⟨(w.heap.size + 1), 1, none⟩ = false := (hf2 _ _ (by first | omega | (simp; done) | (simp; omega))).trans (by first | (with_reducible assumption) | (simp [go_sem]; done) | (simp [go_sem, *]; done))
  have z2x6 : w2.frozen? ⟨(w.heap.size + 1), 2, none⟩ = false := (hf2 _ _ (by first | omega | (simp; done) | (simp; omega))).trans (by first | (with_reducible assumption) | (simp [go_sem]; done) | (simp [go_sem, *]; done))
  have z2x7 : w2.frozen? ⟨(w.heap.size + 1), 3, none⟩ = false := (hf2 _ _ (by first | omega | (simp; done) | (simp; omega))).trans (by first | (with_reducible assumption) | (simp [go_sem]; done) | (simp [go_sem, *]; done))
  go_wp2_with fail
  refine bodyPost_ret (v := .tuple #[.agg #[.int .i64 (y + 1), .int .i64 (1), .bool (false), .int .i64 (1)], .int .i64 (0)]) (by simp [results, Tryz.results42, go_sem, *]) rfl ⟨rfl, ?_⟩
  exact bel
theorem count_Next (y n : Int) (l : Bool) (d : Int) (w : World) (hy : I64 y) (hT : Tab w 2 kevCells) (hL : Tab w 3 lenCells) (ry rn : Int) (rl : Bool) (rd er : Int) (hI : D27.NextIs y n l d ry rn rl rd er) :
    Calls Tryo.prog 42 #[.agg #[.int .i64 (y), .int .i64 (n), .bool (l), .int .i64 (d)]] w fun e w' => e = .returned (.tuple #[.agg #[.int .i64 (ry), .int .i64 (rn), .bool (rl), .int .i64 (rd)], .int .i64 (er)]) ∧ Below w.heap.size w w' := by
  have HC := Lib.hid (fun w hT hL => count_check y n l d w hy hT hL)
  by_cases c : D10.dateE y n l d = 0
  · obtain ⟨⟨y1, y2, m1, m2, d1, d2⟩, hp⟩ := D10.date_valid c
    obtain ⟨hv, hday, hn, hl⟩ := D10.date_back c
    have hlb := D10.len_bd y _ y1 y2 m1 m2
    have hlv : D10.lastV y n l = D10.dLen y (Cal.plV (Cal.leap y) n l) := by simp [D10.lastV, Cal.yearIn_yes y y1 y2, hp]
    rw [c, if_pos rfl, hlv] at HC
    have HBs := fun w => count_beside y n l d 1 w c ⟨by omega, by omega⟩ 1
    have key : ∀ {y' n' : Int} {l' : Bool} {d' : Int}, D10.dateE y' n' l' d' = 0 → D10.dayV y' n' l' d' = D10.dayV y n l d + 1 → y' = ry ∧ n' = rn ∧ l' = rl ∧ d' = rd ∧ er = 0 := by
      intro y' n' l' d' a b
      rcases hI with ⟨h, _⟩ | ⟨_, h, _⟩ | ⟨_, h0, h1, h2⟩
      · exact absurd c h
      · obtain ⟨_, _, b2⟩ := D10.dayV_ok _ _ _ _ a
        omega
      · obtain ⟨e1, e2, e3, e4⟩ := D10.same_day a h1 (b.trans h2.symm)
        exact ⟨e1, e2, e3, e4, h0⟩
    by_cases c1 : d < D10.dLen y (Cal.plV (Cal.leap y) n l)
    · obtain ⟨a, b⟩ := D27.date_at (d := d + 1) ⟨y1, y2, m1, m2, by omega, by omega⟩ hn hl
      obtain ⟨rfl, rfl, rfl, rfl, rfl⟩ := key a (by rw [b, hday]; unfold D10.dayOf; omega)
      exact count_Next_day _ _ _ _ _ w hT hL HC ⟨by omega, by omega⟩ c1
    · have hdl : d = D10.dLen y (Cal.plV (Cal.leap y) n l) := by omega
      by_cases c2 : Cal.plV (Cal.leap y) n l + 1 ≤ Cal.most (Cal.leap y)
      · have ho : Cal.ofOk (Cal.leap y) (Cal.plV (Cal.leap y) n l + 1) = true := by rw [D27.of_ok]; simp; omega
        rw [ho] at HBs
        have hlb2 := D10.len_bd y (Cal.plV (Cal.leap y) n l + 1) y1 y2 (by omega) c2
        obtain ⟨a, b⟩ := D27.date_at (y := y) (m := Cal.plV (Cal.leap y) n l + 1) (d := 1) ⟨y1, y2, by omega, c2, by omega, by omega⟩ rfl rfl
        obtain ⟨e1, e2, e3, e4, rfl⟩ := key a (by rw [b, hday, D27.dayOf_next y1 y2 m1 c2, ← hdl])
        rw [← e1, ← e2, ← e3, ← e4]
        exact count_Next_month y n l d _ _ _ w hT hL HC (Lib.hid HBs) (by omega)
      · have hmm : Cal.plV (Cal.leap y) n l = Cal.most (Cal.leap y) := by omega
        have ho : Cal.ofOk (Cal.leap y) (Cal.plV (Cal.leap y) n l + 1) = false := by rw [D27.of_ok, decide_eq_false c2]; simp
        rw [ho] at HBs
        by_cases c3 : y = 9999
        · subst c3
          have hd9 : D10.dayV 9999 n l d = 2278650 := by rw [hday, hdl, hmm]; exact D27.dayOf_last
          rcases hI with ⟨h, _⟩ | ⟨_, _, rfl, rfl, rfl, rfl, rfl⟩ | ⟨_, _, h1, h2⟩
          · exact absurd c h
          · exact count_Next_last n l d _ _ _ w hT hL HC (Lib.hid HBs) (by omega)
          · obtain ⟨_, _, b2⟩ := D10.dayV_ok _ _ _ _ h1
            omega
        · have hlb2 := D10.len_bd (y + 1) 1 (by omega) (by omega) (by omega) (D10.most_one _)
          obtain ⟨a, b⟩ := D27.date_at (y := y + 1) (m := 1) (d := 1) ⟨by omega, by omega, by omega, D10.most_one _, by omega, by omega⟩ (S15.codes_ends _).1 (S15.codes_ends _).2
          obtain ⟨e1, e2, e3, e4, rfl⟩ := key a (by rw [b, hday, D27.dayOf_year y1 (by omega), hdl, hmm])
          rw [← e1, ← e2, ← e3, ← e4]
          exact count_Next_year y n l d _ _ _ w hT hL HC (Lib.hid HBs) (by omega) y1 (by omega)
  · rw [if_neg c] at HC
    rcases hI with ⟨_, rfl, rfl, rfl, rfl, rfl⟩ | ⟨h, _⟩ | ⟨h, _⟩
    · exact count_Next_err y n l d _ _ w hT hL HC (by simpa using c)
    · exact absurd h c
    · exact absurd h c
end Go.Proofs.YtaaaalbgjpjgoaaGreatDoor
end
