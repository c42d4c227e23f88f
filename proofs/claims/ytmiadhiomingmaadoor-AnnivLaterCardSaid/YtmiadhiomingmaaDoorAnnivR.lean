/- Layer 18: the document's anniversaries. -/
import Derived.Test.YtmiadhiomingmaaDoorAnnivD
namespace Go.Proofs.YtmiadhiomingmaaDoor
open Go.ChangeShapes Go.WideShapes Go.ChangeAt Go.RowKit
set_option linter.unusedVariables false
set_option maxRecDepth 100000
set_option maxHeartbeats 2000000 in
theorem ref18_check_err (y n : Int) (l : Bool) (d Y : Int) (hy : I64 y) (hY : I64 Y) (w : World) (h0 : ¬ D10.dateE y n l d = 0) :
    Calls Tryd.prog 57 #[.agg #[.int .i64 (y), .int .i64 (n), .bool (l), .int .i64 (d)], .int .i64 Y] w fun e w' => e = .returned (.int .i64 (D10.dateE y n l d)) ∧ Below w.heap.size w w' := by
  have HC := Lib.hid (fun w => ref10_Check y n l d w hy)
  have h1 : (D10.dateE y n l d != 0) = true := by simpa using h0
  clear h0
  generalize D10.dateE y n l d = de at *
  go_enter Tryd.func57, Tryd.ntmps57
  go_wp2_with fail
  refine (HC.out _).mono ?_
  rintro e w1 ⟨rfl, hb1⟩
  obtain ⟨hc1, hf1⟩ := bcell hb1
  have hz1 := hb1.size
  try simp at hz1
  have hs1x0 : w.heap.size < w1.heap.size := by omega
  have g1x0 : w1.cell? ⟨w.heap.size, 0, none⟩ = some (.int .i64 y) := (hc1 _ _ (by first | omega | (simp; done) | (simp; omega))).trans (by first | (with_reducible assumption) | (simp [go_sem]; done) | (simp [go_sem, *]; done) | assumption)
  have g1x1 : w1.cell? ⟨w.heap.size, 1, none⟩ = some (.int .i64 n) := (hc1 _ _ (by first | omega | (simp; done) | (simp; omega))).trans (by first | (with_reducible assumption) | (simp [go_sem]; done) | (simp [go_sem, *]; done) | assumption)
  have g1x2 : w1.cell? ⟨w.heap.size, 2, none⟩ = some (.bool l) := (hc1 _ _ (by first | omega | (simp; done) | (simp; omega))).trans (by first | (with_reducible assumption) | (simp [go_sem]; done) | (simp [go_sem, *]; done) | assumption)
  have g1x3 : w1.cell? ⟨w.heap.size, 3, none⟩ = some (.int .i64 d) := (hc1 _ _ (by first | omega | (simp; done) | (simp; omega))).trans (by first | (with_reducible assumption) | (simp [go_sem]; done) | (simp [go_sem, *]; done) | assumption)
  go_wp2_with fail
  go_ret
  refine ⟨by first | rfl | (simp [*]; done), ?_⟩
  repeat (first | (with_reducible exact Below.refl _ _) | (with_reducible assumption) | (with_reducible refine bdrew ?_) | (with_reducible refine baa ?_ _) | (with_reducible refine bs ?_ (by first | exact Nat.le_refl _ | omega | (simp; done) | (simp; omega)) _) | (with_reducible refine bt ?_ (by with_reducible assumption)))
set_option maxHeartbeats 2000000 in
theorem ref18_check_low (y n : Int) (l : Bool) (d Y : Int) (hy : I64 y) (hY : I64 Y) (w : World) (h0 : D10.dateE y n l d = 0) (h : Y < 1) :
    Calls Tryd.prog 57 #[.agg #[.int .i64 (y), .int .i64 (n), .bool (l), .int .i64 (d)], .int .i64 Y] w fun e w' => e = .returned (.int .i64 (2)) ∧ Below w.heap.size w w' := by
  have HC := Lib.hid (fun w => ref10_Check y n l d w hy)
  rw [h0] at HC
  obtain ⟨y1, y2⟩ := hy
  obtain ⟨Y1, Y2⟩ := hY
  clear h0
  go_enter Tryd.func57, Tryd.ntmps57
  go_wp2_with fail
  refine (HC.out _).mono ?_
  rintro e w1 ⟨rfl, hb1⟩
  obtain ⟨hc1, hf1⟩ := bcell hb1
  have hz1 := hb1.size
  try simp at hz1
  have hs1x0 : w.heap.size < w1.heap.size := by omega
  have g1x0 : w1.cell? ⟨w.heap.size, 0, none⟩ = some (.int .i64 y) := (hc1 _ _ (by first | omega | (simp; done) | (simp; omega))).trans (by first | (with_reducible assumption) | (simp [go_sem]; done) | (simp [go_sem, *]; done) | assumption)
  have g1x1 : w1.cell? ⟨w.heap.size, 1, none⟩ = some (.int .i64 n) := (hc1 _ _ (by first | omega | (simp; done) | (simp; omega))).trans (by first | (with_reducible assumption) | (simp [go_sem]; done) | (simp [go_sem, *]; done) | assumption)
  have g1x2 : w1.cell? ⟨w.heap.size, 2, none⟩ = some (.bool l) := (hc1 _ _ (by first | omega | (simp; done) | (simp; omega))).trans (by first | (with_reducible assumption) | (simp [go_sem]; done) | (simp [go_sem, *]; done) | assumption)
  have g1x3 : w1.cell? ⟨w.heap.size, 3, none⟩ = some (.int .i64 d) := (hc1 _ _ (by first | omega | (simp; done) | (simp; omega))).trans (by first | (with_reducible assumption) | (simp [go_sem]; done) | (simp [go_sem, *]; done) | assumption)
  go_wp2_with fail
  go_ret
  refine ⟨by first | rfl | (simp [*]; done), ?_⟩
  repeat (first | (with_reducible exact Below.refl _ _) | (with_reducible assumption) | (with_reducible refine bdrew ?_) | (with_reducible refine baa ?_ _) | (with_reducible refine bs ?_ (by first | exact Nat.le_refl _ | omega | (simp; done) | (simp; omega)) _) | (with_reducible refine bt ?_ (by with_reducible assumption)))
set_option maxHeartbeats 2000000 in
theorem ref18_check_high (y n : Int) (l : Bool) (d Y : Int) (hy : I64 y) (hY : I64 Y) (w : World) (h0 : D10.dateE y n l d = 0) (h1 : 1 ≤ Y) (h : 9999 < Y) :
    Calls Tryd.prog 57 #[.agg #[.int .i64 (y), .int .i64 (n), .bool (l), .int .i64 (d)], .int .i64 Y] w fun e w' => e = .returned (.int .i64 (2)) ∧ Below w.heap.size w w' := by
  have HC := Lib.hid (fun w => ref10_Check y n l d w hy)
  rw [h0] at HC
  obtain ⟨y1, y2⟩ := hy
  obtain ⟨Y1, Y2⟩ := hY
  clear h0
  go_enter Tryd.func57, Tryd.ntmps57
  go_wp2_with fail
  refine (HC.out _).mono ?_
  rintro e w1 ⟨rfl, hb1⟩
  obtain ⟨hc1, hf1⟩ := bcell hb1
  have hz1 := hb1.size
  try simp at hz1
  have hs1x0 : w.heap.size < w1.heap.size := by omega
  have g1x0 : w1.cell? ⟨w.heap.size, 0, none⟩ = some (.int .i64 y) := (hc1 _ _ (by first | omega | (simp; done) | (simp; omega))).trans (by first | (with_reducible assumption) | (simp [go_sem]; done) | (simp [go_sem, *]; done) | assumption)
  have g1x1 : w1.cell? ⟨w.heap.size, 1, none⟩ = some (.int .i64 n) := (hc1 _ _ (by first | omega | (simp; done) | (simp; omega))).trans (by first | (with_reducible assumption) | (simp [go_sem]; done) | (simp [go_sem, *]; done) | assumption)
  have g1x2 : w1.cell? ⟨w.heap.size, 2, none⟩ = some (.bool l) := (hc1 _ _ (by first | omega | (simp; done) | (simp; omega))).trans (by first | (with_reducible assumption) | (simp [go_sem]; done) | (simp [go_sem, *]; done) | assumption)
  have g1x3 : w1.cell? ⟨w.heap.size, 3, none⟩ = some (.int .i64 d) := (hc1 _ _ (by first | omega | (simp; done) | (simp; omega))).trans (by first | (with_reducible assumption) | (simp [go_sem]; done) | (simp [go_sem, *]; done) | assumption)
  go_wp2_with fail
  go_ret
  refine ⟨by first | rfl | (simp [*]; done), ?_⟩
  repeat (first | (with_reducible exact Below.refl _ _) | (with_reducible assumption) | (with_reducible refine bdrew ?_) | (with_reducible refine baa ?_ _) | (with_reducible refine bs ?_ (by first | exact Nat.le_refl _ | omega | (simp; done) | (simp; omega)) _) | (with_reducible refine bt ?_ (by with_reducible assumption)))
set_option maxHeartbeats 2000000 in
theorem ref18_check_arg (y n : Int) (l : Bool) (d Y : Int) (hy : I64 y) (hY : I64 Y) (w : World) (h0 : D10.dateE y n l d = 0) (h1 : 1 ≤ Y) (h2 : Y ≤ 9999) (h : Y ≤ y) :
    Calls Tryd.prog 57 #[.agg #[.int .i64 (y), .int .i64 (n), .bool (l), .int .i64 (d)], .int .i64 Y] w fun e w' => e = .returned (.int .i64 (1)) ∧ Below w.heap.size w w' := by
  have HC := Lib.hid (fun w => ref10_Check y n l d w hy)
  rw [h0] at HC
  obtain ⟨y1, y2⟩ := hy
  obtain ⟨Y1, Y2⟩ := hY
  clear h0
  go_enter Tryd.func57, Tryd.ntmps57
  go_wp2_with fail
  refine (HC.out _).mono ?_
  rintro e w1 ⟨rfl, hb1⟩
  obtain ⟨hc1, hf1⟩ := bcell hb1
  have hz1 := hb1.size
  try simp at hz1
  have hs1x0 : w.heap.size < w1.heap.size := by omega
  have g1x0 : w1.cell? ⟨w.heap.size, 0, none⟩ = some (.int .i64 y) := (hc1 _ _ (by first | omega | (simp; done) | (simp; omega))).trans (by first | (with_reducible assumption) | (simp [go_sem]; done) | (simp [go_sem, *]; done) | assumption)
  have g1x1 : w1.cell? ⟨w.heap.size, 1, none⟩ = some (.int .i64 n) := (hc1 _ _ (by first | omega | (simp; done) | (simp; omega))).trans (by first | (with_reducible assumption) | (simp [go_sem]; done) | (simp [go_sem, *]; done) | assumption)
  have g1x2 : w1.cell? ⟨w.heap.size, 2, none⟩ = some (.bool l) := (hc1 _ _ (by first | omega | (simp; done) | (simp; omega))).trans (by first | (with_reducible assumption) | (simp [go_sem]; done) | (simp [go_sem, *]; done) | assumption)
  have g1x3 : w1.cell? ⟨w.heap.size, 3, none⟩ = some (.int .i64 d) := (hc1 _ _ (by first | omega | (simp; done) | (simp; omega))).trans (by first | (with_reducible assumption) | (simp [go_sem]; done) | (simp [go_sem, *]; done) | assumption)
  go_wp2_with fail
  go_ret
  refine ⟨by first | rfl | (simp [*]; done), ?_⟩
  repeat (first | (with_reducible exact Below.refl _ _) | (with_reducible assumption) | (with_reducible refine bdrew ?_) | (with_reducible refine baa ?_ _) | (with_reducible refine bs ?_ (by first | exact Nat.le_refl _ | omega | (simp; done) | (simp; omega)) _) | (with_reducible refine bt ?_ (by with_reducible assumption)))
set_option maxHeartbeats 2000000 in
theorem ref18_check_ok (y n : Int) (l : Bool) (d Y : Int) (hy : I64 y) (hY : I64 Y) (w : World) (h0 : D10.dateE y n l d = 0) (h1 : 1 ≤ Y) (h2 : Y ≤ 9999) (h : y < Y) :
    Calls Tryd.prog 57 #[.agg #[.int .i64 (y), .int .i64 (n), .bool (l), .int .i64 (d)], .int .i64 Y] w fun e w' => e = .returned (.int .i64 (0)) ∧ Below w.heap.size w w' := by
  have HC := Lib.hid (fun w => ref10_Check y n l d w hy)
  rw [h0] at HC
  obtain ⟨y1, y2⟩ := hy
  obtain ⟨Y1, Y2⟩ := hY
  clear h0
  go_enter Tryd.func57, Tryd.ntmps57
  go_wp2_with fail
  refine (HC.out _).mono ?_
  rintro e w1 ⟨rfl, hb1⟩
  obtain ⟨hc1, hf1⟩ := bcell hb1
  have hz1 := hb1.size
  try simp at hz1
  have hs1x0 : w.heap.size < w1.heap.size := by omega
  have g1x0 : w1.cell? ⟨w.heap.size, 0, none⟩ = some (.int .i64 y) := (hc1 _ _ (by first | omega | (simp; done) | (simp; omega))).trans (by first | (with_reducible assumption) | (simp [go_sem]; done) | (simp [go_sem, *]; done) | assumption)
  have g1x1 : w1.cell? ⟨w.heap.size, 1, none⟩ = some (.int .i64 n) := (hc1 _ _ (by first | omega | (simp; done) | (simp; omega))).trans (by first | (with_reducible assumption) | (simp [go_sem]; done) | (simp [go_sem, *]; done) | assumption)
  have g1x2 : w1.cell? ⟨w.heap.size, 2, none⟩ = some (.bool l) := (hc1 _ _ (by first | omega | (simp; done) | (simp; omega))).trans (by first | (with_reducible assumption) | (simp [go_sem]; done) | (simp [go_sem, *]; done) | assumption)
  have g1x3 : w1.cell? ⟨w.heap.size, 3, none⟩ = some (.int .i64 d) := (hc1 _ _ (by first | omega | (simp; done) | (simp; omega))).trans (by first | (with_reducible assumption) | (simp [go_sem]; done) | (simp [go_sem, *]; done) | assumption)
  go_wp2_with fail
  go_ret
  refine ⟨by first | rfl | (simp [*]; done), ?_⟩
  repeat (first | (with_reducible exact Below.refl _ _) | (with_reducible assumption) | (with_reducible refine bdrew ?_) | (with_reducible refine baa ?_ _) | (with_reducible refine bs ?_ (by first | exact Nat.le_refl _ | omega | (simp; done) | (simp; omega)) _) | (with_reducible refine bt ?_ (by with_reducible assumption)))
theorem ref18_check (y n : Int) (l : Bool) (d Y : Int) (hy : I64 y) (hY : I64 Y) (w : World) :
    Calls Tryd.prog 57 #[.agg #[.int .i64 (y), .int .i64 (n), .bool (l), .int .i64 (d)], .int .i64 Y] w fun e w' => e = .returned (.int .i64 (A18.chkE y n l d Y)) ∧ Below w.heap.size w w' := by
  unfold A18.chkE
  by_cases h0 : D10.dateE y n l d = 0
  · rw [if_pos h0]
    by_cases h1 : Y < 1 ∨ 9999 < Y
    · rw [if_pos h1]
      by_cases c : Y < 1
      · exact ref18_check_low y n l d Y hy hY w h0 c
      · exact ref18_check_high y n l d Y hy hY w h0 (by omega) (by omega)
    · rw [if_neg h1]
      by_cases h2 : Y ≤ y
      · rw [if_pos h2]; exact ref18_check_arg y n l d Y hy hY w h0 (by omega) (by omega) h2
      · rw [if_neg h2]; exact ref18_check_ok y n l d Y hy hY w h0 (by omega) (by omega) (by omega)
  · rw [if_neg h0]; exact ref18_check_err y n l d Y hy hY w h0
set_option maxHeartbeats 2000000 in
theorem ref18_on (y n : Int) (l : Bool) (e cm cd : Int) (hy : I64 y) (w : World) (h0 : D10.dateE y n l 1 = 0) (he : 1 ≤ e ∧ e ≤ 30) (hv : D10.Valid y cm cd) (hD : D10.dayV y n l 1 + e - 1 = D10.dayOf y cm cd)  :
    Calls Tryd.prog 59 #[.int .i64 y, .agg #[.int .i64 (n), .bool (l)], .int .i64 e] w fun e w' => e = .returned (.agg #[.int .i64 (y), .int .i64 (Cal.ofN (Cal.leap y) cm), .bool (Cal.ofL (Cal.leap y) cm), .int .i64 (cd)]) ∧ Below w.heap.size w w' := by
  obtain ⟨e1, e2⟩ := he
  have DD := (D10.dayV_ok y n l 1 h0).2
  obtain ⟨D1, D2⟩ := DD
  have HT := Lib.hid (fun w => ref10_ToDay y n l 1 w hy)
  have HF := Lib.hid (fun w => ref10_FromDay_at y cm cd w hv)
  rw [← hD] at HF
  rw [h0] at HT
  clear h0 hD hv
  generalize D10.dayV y n l 1 = D at *
  generalize Cal.ofN (Cal.leap y) cm = rn at *
  generalize Cal.ofL (Cal.leap y) cm = rl at *
  go_enter Tryd.func59, Tryd.ntmps59
  go_wp2_with fail
  refine (HT.out _).mono ?_
  rintro e w1 ⟨rfl, hb1⟩
  obtain ⟨hc1, hf1⟩ := bcell hb1
  have hz1 := hb1.size
  try simp at hz1
  have hs1x0 : w.heap.size < w1.heap.size := by omega
  have hs1x1 : (w.heap.size + 1) < w1.heap.size := by omega
  have g1x0 : w1.cell? ⟨w.heap.size, 0, none⟩ = some (.int .i64 n) := (hc1 _ _ (by first | omega | (simp; done) | (simp; omega))).trans (by first | (with_reducible assumption) | (simp [go_sem]; done) | (simp [go_sem, *]; done) | assumption)
  have g1x1 : w1.cell? ⟨w.heap.size, 1, none⟩ = some (.bool l) := (hc1 _ _ (by first | omega | (simp; done) | (simp; omega))).trans (by first | (with_reducible assumption) | (simp [go_sem]; done) | (simp [go_sem, *]; done) | assumption)
  have g1x2 : w1.cell? ⟨(w.heap.size + 1), 0, none⟩ = some (.int .i64 0) := (hc1 _ _ (by first | omega | (simp; done) | (simp; omega))).trans (by first | (with_reducible assumption) | (simp [go_sem]; done) | (simp [go_sem, *]; done) | assumption)
  have g1x3 : w1.cell? ⟨(w.heap.size + 1), 1, none⟩ = some (.int .i64 0) := (hc1 _ _ (by first | omega | (simp; done) | (simp; omega))).trans (by first | (with_reducible assumption) | (simp [go_sem]; done) | (simp [go_sem, *]; done) | assumption)
  have g1x4 : w1.cell? ⟨(w.heap.size + 1), 2, none⟩ = some (.bool false) := (hc1 _ _ (by first | omega | (simp; done) | (simp; omega))).trans (by first | (with_reducible assumption) | (simp [go_sem]; done) | (simp [go_sem, *]; done) | assumption)
  have g1x5 : w1.cell? ⟨(w.heap.size + 1), 3, none⟩ = some (.int .i64 0) := (hc1 _ _ (by first | omega | (simp; done) | (simp; omega))).trans (by first | (with_reducible assumption) | (simp [go_sem]; done) | (simp [go_sem, *]; done) | assumption)
  go_wp2_with fail
  refine (HF.out _).mono ?_
  rintro e w2 ⟨rfl, hb2⟩
  obtain ⟨hc2, hf2⟩ := bcell hb2
  have hz2 := hb2.size
  try simp at hz2
  have hs2x0 : (w.heap.size + 1) < w2.heap.size := by omega
  have g2x0 : w2.cell? ⟨(w.heap.size + 1), 0, none⟩ = some (.int .i64 0) := (hc2 _ _ (by first | omega | (simp; done) | (simp; omega))).trans (by first | (with_reducible assumption) | (simp [go_sem]; done) | (simp [go_sem, *]; done) | assumption)
  have g2x1 : w2.cell? ⟨(w.heap.size + 1), 1, none⟩ = some (.int .i64 0) := (hc2 _ _ (by first | omega | (simp; done) | (simp; omega))).trans (by first | (with_reducible assumption) | (simp [go_sem]; done) | (simp [go_sem, *]; done) | assumption)
  have g2x2 : w2.cell? ⟨(w.heap.size + 1), 2, none⟩ = some (.bool false) := (hc2 _ _ (by first | omega | (simp; done) | (simp; omega))).trans (by first | (with_reducible assumption) | (simp [go_sem]; done) | (simp [go_sem, *]; done) | assumption)
  have g2x3 : w2.cell? ⟨(w.heap.size + 1), 3, none⟩ = some (.int .i64 0) := (hc2 _ _ (by first | omega | (simp; done) | (simp; omega))).trans (by first | (with_reducible assumption) | (simp [go_sem]; done) | (simp [go_sem, *]; done) | assumption)
  go_wp2_with fail
  refine bodyPost_ret (v := .agg #[.int .i64 (y), .int .i64 (rn), .bool (rl), .int .i64 (cd)]) (by simp [results, Tryd.results59, go_sem, *]) rfl ⟨rfl, ?_⟩
  repeat (first | (with_reducible exact Below.refl _ _) | (with_reducible assumption) | (with_reducible refine bdrew ?_) | (with_reducible refine baa ?_ _) | (with_reducible refine bs ?_ (by first | exact Nat.le_refl _ | omega | (simp; done) | (simp; omega)) _) | (with_reducible refine bt ?_ (by with_reducible assumption)))
set_option maxHeartbeats 2000000 in
theorem ref18_Birth_err (y n : Int) (l : Bool) (d Y : Int) (hy : I64 y) (hd : I64 d) (hY : I64 Y) (w : World) (h0 : ¬ A18.chkE y n l d Y = 0) :
    Calls Tryd.prog 26 #[.agg #[.int .i64 (y), .int .i64 (n), .bool (l), .int .i64 (d)], .int .i64 Y] w fun e w' => e = .returned (.tuple #[.agg #[.int .i64 (0), .int .i64 (0), .bool (false), .int .i64 (0)], .int .i64 (A18.chkE y n l d Y)]) ∧ Below w.heap.size w w' := by
  have HC := Lib.hid (fun w => ref18_check y n l d Y hy hY w)
  have h1 : (A18.chkE y n l d Y != 0) = true := by simpa using h0
  clear h0
  generalize A18.chkE y n l d Y = ce at *
  go_enter Tryd.func26, Tryd.ntmps26
  go_wp2_with fail
  refine (HC.out _).mono ?_
  rintro e w1 ⟨rfl, hb1⟩
  obtain ⟨hc1, hf1⟩ := bcell hb1
  have hz1 := hb1.size
  try simp at hz1
  have hs1x0 : w.heap.size < w1.heap.size := by omega
  have hs1x1 : (w.heap.size + 1) < w1.heap.size := by omega
  have g1x0 : w1.cell? ⟨w.heap.size, 0, none⟩ = some (.int .i64 y) := (hc1 _ _ (by first | omega | (simp; done) | (simp; omega))).trans (by first | (with_reducible assumption) | (simp [go_sem]; done) | (simp [go_sem, *]; done) | assumption)
  have g1x1 : w1.cell? ⟨w.heap.size, 1, none⟩ = some (.int .i64 n) := (hc1 _ _ (by first | omega | (simp; done) | (simp; omega))).trans (by first | (with_reducible assumption) | (simp [go_sem]; done) | (simp [go_sem, *]; done) | assumption)
  have g1x2 : w1.cell? ⟨w.heap.size, 2, none⟩ = some (.bool l) := (hc1 _ _ (by first | omega | (simp; done) | (simp; omega))).trans (by first | (with_reducible assumption) | (simp [go_sem]; done) | (simp [go_sem, *]; done) | assumption)
  have g1x3 : w1.cell? ⟨w.heap.size, 3, none⟩ = some (.int .i64 d) := (hc1 _ _ (by first | omega | (simp; done) | (simp; omega))).trans (by first | (with_reducible assumption) | (simp [go_sem]; done) | (simp [go_sem, *]; done) | assumption)
  have g1x4 : w1.cell? ⟨(w.heap.size + 1), 0, none⟩ = some (.int .i64 0) := (hc1 _ _ (by first | omega | (simp; done) | (simp; omega))).trans (by first | (with_reducible assumption) | (simp [go_sem]; done) | (simp [go_sem, *]; done) | assumption)
  have g1x5 : w1.cell? ⟨(w.heap.size + 1), 1, none⟩ = some (.int .i64 0) := (hc1 _ _ (by first | omega | (simp; done) | (simp; omega))).trans (by first | (with_reducible assumption) | (simp [go_sem]; done) | (simp [go_sem, *]; done) | assumption)
  have g1x6 : w1.cell? ⟨(w.heap.size + 1), 2, none⟩ = some (.bool false) := (hc1 _ _ (by first | omega | (simp; done) | (simp; omega))).trans (by first | (with_reducible assumption) | (simp [go_sem]; done) | (simp [go_sem, *]; done) | assumption)
  have g1x7 : w1.cell? ⟨(w.heap.size + 1), 3, none⟩ = some (.int .i64 0) := (hc1 _ _ (by first | omega | (simp; done) | (simp; omega))).trans (by first | (with_reducible assumption) | (simp [go_sem]; done) | (simp [go_sem, *]; done) | assumption)
  go_wp2_with fail
  refine bodyPost_ret (v := .tuple #[.agg #[.int .i64 (0), .int .i64 (0), .bool (false), .int .i64 (0)], .int .i64 (ce)]) (by simp [results, Tryd.results26, go_sem, *]) rfl ⟨rfl, ?_⟩
  repeat (first | (with_reducible exact Below.refl _ _) | (with_reducible assumption) | (with_reducible refine bdrew ?_) | (with_reducible refine baa ?_ _) | (with_reducible refine bs ?_ (by first | exact Nat.le_refl _ | omega | (simp; done) | (simp; omega)) _) | (with_reducible refine bt ?_ (by with_reducible assumption)))
set_option maxHeartbeats 2000000 in
theorem ref18_Birth_ok (y n : Int) (l : Bool) (d Y : Int) (hy : I64 y) (hd : I64 d) (hY : I64 Y) (w : World) (h0 : A18.chkE y n l d Y = 0) :
    Calls Tryd.prog 26 #[.agg #[.int .i64 (y), .int .i64 (n), .bool (l), .int .i64 (d)], .int .i64 Y] w fun e w' => e = .returned (.tuple #[.agg #[.int .i64 (Y), .int .i64 (Cal.ofN (Cal.leap Y) (A18.cM Y (A18.m0 Y n l) d)), .bool (Cal.ofL (Cal.leap Y) (A18.cM Y (A18.m0 Y n l) d)), .int .i64 (A18.cD Y (A18.m0 Y n l) d)], .int .i64 (0)]) ∧ Below w.heap.size w w' := by
  have HC := Lib.hid (fun w => ref18_check y n l d Y hy hY w)
  obtain ⟨hde, h1, h2, hlt⟩ := A18.chk_0 h0
  obtain ⟨hvd, hp⟩ := D10.date_valid hde
  have hr := A18.right_of hp
  have HI := Lib.hid (fun w => ref15_Into Y n l 0 w hY)
  obtain ⟨hi, hq, _⟩ := A18.into_0 h1 h2 hr
  obtain ⟨_, _, d1, d2, _⟩ := A18.bir_ok h0
  obtain ⟨hv, hD⟩ := A18.bir_there h0
  have hm := D10.place_in _ _ _ hq
  have hb := D10.len_bd Y (A18.m0 Y n l) h1 h2 hm.1 hm.2.1
  have v1 : D10.Valid Y (A18.m0 Y n l) 1 := ⟨h1, h2, hm.1, hm.2.1, by omega, by omega⟩
  obtain ⟨q0, qD⟩ := D10.valid_date v1
  rw [show Cal.ofN (Cal.leap Y) (A18.m0 Y n l) = S15.intoN Y n l 0 from hm.2.2.1, show Cal.ofL (Cal.leap Y) (A18.m0 Y n l) = S15.intoL Y n l 0 from hm.2.2.2] at q0 qD
  rw [← qD] at hD
  have HN := Lib.hid (fun w => ref18_on Y (S15.intoN Y n l 0) (S15.intoL Y n l 0) d (A18.cM Y (A18.m0 Y n l) d) (A18.cD Y (A18.m0 Y n l) d) hY w q0 ⟨d1, d2⟩ hv hD.symm)
  rw [h0] at HC
  rw [hi] at HI
  clear hi hq hv hD hm hb v1 q0 qD hvd hp hr hde h0
  generalize S15.intoN Y n l 0 = n1 at *
  generalize S15.intoL Y n l 0 = l1 at *
  generalize Cal.ofN (Cal.leap Y) (A18.cM Y (A18.m0 Y n l) d) = rn at *
  generalize Cal.ofL (Cal.leap Y) (A18.cM Y (A18.m0 Y n l) d) = rl at *
  generalize A18.cD Y (A18.m0 Y n l) d = rd at *
  go_enter Tryd.func26, Tryd.ntmps26
  go_wp2_with fail
  refine (HC.out _).mono ?_
  rintro e w1 ⟨rfl, hb1⟩
  obtain ⟨hc1, hf1⟩ := bcell hb1
  have hz1 := hb1.size
  try simp at hz1
  have hs1x0 : w.heap.size < w1.heap.size := by omega
  have hs1x1 : (w.heap.size + 1) < w1.heap.size := by omega
  have g1x0 : w1.cell? ⟨w.heap.size, 0, none⟩ = some (.int .i64 y) := (hc1 _ _ (by first | omega | (simp; done) | (simp; omega))).trans (by first | (with_reducible assumption) | (simp [go_sem]; done) | (simp [go_sem, *]; done) | assumption)
  have g1x1 : w1.cell? ⟨w.heap.size, 1, none⟩ = some (.int .i64 n) := (hc1 _ _ (by first | omega | (simp; done) | (simp; omega))).trans (by first | (with_reducible assumption) | (simp [go_sem]; done) | (simp [go_sem, *]; done) | assumption)
  have g1x2 : w1.cell? ⟨w.heap.size, 2, none⟩ = some (.bool l) := (hc1 _ _ (by first | omega | (simp; done) | (simp; omega))).trans (by first | (with_reducible assumption) | (simp [go_sem]; done) | (simp [go_sem, *]; done) | assumption)
  have g1x3 : w1.cell? ⟨w.heap.size, 3, none⟩ = some (.int .i64 d) := (hc1 _ _ (by first | omega | (simp; done) | (simp; omega))).trans (by first | (with_reducible assumption) | (simp [go_sem]; done) | (simp [go_sem, *]; done) | assumption)
  have g1x4 : w1.cell? ⟨(w.heap.size + 1), 0, none⟩ = some (.int .i64 0) := (hc1 _ _ (by first | omega | (simp; done) | (simp; omega))).trans (by first | (with_reducible assumption) | (simp [go_sem]; done) | (simp [go_sem, *]; done) | assumption)
  have g1x5 : w1.cell? ⟨(w.heap.size + 1), 1, none⟩ = some (.int .i64 0) := (hc1 _ _ (by first | omega | (simp; done) | (simp; omega))).trans (by first | (with_reducible assumption) | (simp [go_sem]; done) | (simp [go_sem, *]; done) | assumption)
  have g1x6 : w1.cell? ⟨(w.heap.size + 1), 2, none⟩ = some (.bool false) := (hc1 _ _ (by first | omega | (simp; done) | (simp; omega))).trans (by first | (with_reducible assumption) | (simp [go_sem]; done) | (simp [go_sem, *]; done) | assumption)
  have g1x7 : w1.cell? ⟨(w.heap.size + 1), 3, none⟩ = some (.int .i64 0) := (hc1 _ _ (by first | omega | (simp; done) | (simp; omega))).trans (by first | (with_reducible assumption) | (simp [go_sem]; done) | (simp [go_sem, *]; done) | assumption)
  go_wp2_with fail
  refine (HI.out _).mono ?_
  rintro e w2 ⟨rfl, hb2⟩
  obtain ⟨hc2, hf2⟩ := bcell hb2
  have hz2 := hb2.size
  try simp at hz2
  have hs2x0 : w.heap.size < w2.heap.size := by omega
  have hs2x1 : (w.heap.size + 1) < w2.heap.size := by omega
  have g2x0 : w2.cell? ⟨w.heap.size, 0, none⟩ = some (.int .i64 y) := (hc2 _ _ (by first | omega | (simp; done) | (simp; omega))).trans (by first | (with_reducible assumption) | (simp [go_sem]; done) | (simp [go_sem, *]; done) | assumption)
  have g2x1 : w2.cell? ⟨w.heap.size, 1, none⟩ = some (.int .i64 n) := (hc2 _ _ (by first | omega | (simp; done) | (simp; omega))).trans (by first | (with_reducible assumption) | (simp [go_sem]; done) | (simp [go_sem, *]; done) | assumption)
  have g2x2 : w2.cell? ⟨w.heap.size, 2, none⟩ = some (.bool l) := (hc2 _ _ (by first | omega | (simp; done) | (simp; omega))).trans (by first | (with_reducible assumption) | (simp [go_sem]; done) | (simp [go_sem, *]; done) | assumption)
  have g2x3 : w2.cell? ⟨w.heap.size, 3, none⟩ = some (.int .i64 d) := (hc2 _ _ (by first | omega | (simp; done) | (simp; omega))).trans (by first | (with_reducible assumption) | (simp [go_sem]; done) | (simp [go_sem, *]; done) | assumption)
  have g2x4 : w2.cell? ⟨(w.heap.size + 1), 0, none⟩ = some (.int .i64 0) := (hc2 _ _ (by first | omega | (simp; done) | (simp; omega))).trans (by first | (with_reducible assumption) | (simp [go_sem]; done) | (simp [go_sem, *]; done) | assumption)
  have g2x5 : w2.cell? ⟨(w.heap.size + 1), 1, none⟩ = some (.int .i64 0) := (hc2 _ _ (by first | omega | (simp; done) | (simp; omega))).trans (by first | (with_reducible assumption) | (simp [go_sem]; done) | (simp [go_sem, *]; done) | assumption)
  have g2x6 : w2.cell? ⟨(w.heap.size + 1), 2, none⟩ = some (.bool false) := (hc2 _ _ (by first | omega | (simp; done) | (simp; omega))).trans (by first | (with_reducible assumption) | (simp [go_sem]; done) | (simp [go_sem, *]; done) | assumption)
  have g2x7 : w2.cell? ⟨(w.heap.size + 1), 3, none⟩ = some (.int .i64 0) := (hc2 _ _ (by first | omega | (simp; done) | (simp; omega))).trans (by first | (with_reducible assumption) | (simp [go_sem]; done) | (simp [go_sem, *]; done) | assumption)
  go_wp2_with fail
  refine (HN.out _).mono ?_
  rintro e w3 ⟨rfl, hb3⟩
  obtain ⟨hc3, hf3⟩ := bcell hb3
  have hz3 := hb3.size
  try simp at hz3
  have hs3x0 : (w.heap.size + 1) < w3.heap.size := by omega
  have g3x0 : w3.cell? ⟨(w.heap.size + 1), 0, none⟩ = some (.int .i64 0) := (hc3 _ _ (by first | omega | (simp; done) | (simp; omega))).trans (by first | (with_reducible assumption) | (simp [go_sem]; done) | (simp [go_sem, *]; done) | assumption)
  have g3x1 : w3.cell? ⟨(w.heap.size + 1), 1, none⟩ = some (.int .i64 0) := (hc3 _ _ (by first | omega | (simp; done) | (simp; omega))).trans (by first | (with_reducible assumption) | (simp [go_sem]; done) | (simp [go_sem, *]; done) | assumption)
  have g3x2 : w3.cell? ⟨(w.heap.size + 1), 2, none⟩ = some (.bool false) := (hc3 _ _ (by first | omega | (simp; done) | (simp; omega))).trans (by first | (with_reducible assumption) | (simp [go_sem]; done) | (simp [go_sem, *]; done) | assumption)
  have g3x3 : w3.cell? ⟨(w.heap.size + 1), 3, none⟩ = some (.int .i64 0) := (hc3 _ _ (by first | omega | (simp; done) | (simp; omega))).trans (by first | (with_reducible assumption) | (simp [go_sem]; done) | (simp [go_sem, *]; done) | assumption)
  go_wp2_with fail
  refine bodyPost_ret (v := .tuple #[.agg #[.int .i64 (Y), .int .i64 (rn), .bool (rl), .int .i64 (rd)], .int .i64 (0)]) (by simp [results, Tryd.results26, go_sem, *]) rfl ⟨rfl, ?_⟩
  repeat (first | (with_reducible exact Below.refl _ _) | (with_reducible assumption) | (with_reducible refine bdrew ?_) | (with_reducible refine baa ?_ _) | (with_reducible refine bs ?_ (by first | exact Nat.le_refl _ | omega | (simp; done) | (simp; omega)) _) | (with_reducible refine bt ?_ (by with_reducible assumption)))
theorem ref18_Birth (y n : Int) (l : Bool) (d Y : Int) (hy : I64 y) (hd : I64 d) (hY : I64 Y) (w : World) :
    Calls Tryd.prog 26 #[.agg #[.int .i64 (y), .int .i64 (n), .bool (l), .int .i64 (d)], .int .i64 Y] w fun e w' => e = .returned (.tuple #[.agg #[.int .i64 (A18.bY y n l d Y), .int .i64 (A18.bN y n l d Y), .bool (A18.bL y n l d Y), .int .i64 (A18.bD y n l d Y)], .int .i64 (A18.chkE y n l d Y)]) ∧ Below w.heap.size w w' := by
  unfold A18.bY A18.bN A18.bL A18.bD
  by_cases h0 : A18.chkE y n l d Y = 0
  · rw [if_pos h0, if_pos h0, if_pos h0, if_pos h0, h0]; exact ref18_Birth_ok y n l d Y hy hd hY w h0
  · rw [if_neg h0, if_neg h0, if_neg h0, if_neg h0]; exact ref18_Birth_err y n l d Y hy hd hY w h0
set_option maxHeartbeats 2000000 in
theorem ref18_short (y n : Int) (hy : I64 y) (w : World)  :
    Calls Tryd.prog 61 #[.int .i64 y, .int .i64 n] w fun e w' => e = .returned (.bool (D10.lastV y n false == 29)) ∧ Below w.heap.size w w' := by
  have HL := Lib.hid (fun w => ref10_Last y n false w hy)
  generalize D10.lastV y n false = lv at *
  generalize D10.lastE y n false = le at *
  go_enter Tryd.func61, Tryd.ntmps61
  go_wp2_with fail
  refine (HL.out _).mono ?_
  rintro e w1 ⟨rfl, hb1⟩
  obtain ⟨hc1, hf1⟩ := bcell hb1
  have hz1 := hb1.size
  try simp at hz1
  go_wp2_with fail
  go_ret
  refine ⟨by first | rfl | (simp [*]; done), ?_⟩
  repeat (first | (with_reducible exact Below.refl _ _) | (with_reducible assumption) | (with_reducible refine bdrew ?_) | (with_reducible refine baa ?_ _) | (with_reducible refine bs ?_ (by first | exact Nat.le_refl _ | omega | (simp; done) | (simp; omega)) _) | (with_reducible refine bt ?_ (by with_reducible assumption)))
/-- What the document's loop knows of the world. -/
def R18 (w W : World) (y n : Int) (l : Bool) (d : Int) : Prop :=
  W.cell? ⟨w.heap.size, 0, none⟩ = some (.int .i64 y) ∧ W.cell? ⟨w.heap.size, 1, none⟩ = some (.int .i64 n) ∧ W.cell? ⟨w.heap.size, 2, none⟩ = some (.bool l) ∧ W.cell? ⟨w.heap.size, 3, none⟩ = some (.int .i64 d) ∧
  W.cell? ⟨w.heap.size + 1, 0, none⟩ = some (.int .i64 0) ∧ W.cell? ⟨w.heap.size + 1, 1, none⟩ = some (.int .i64 0) ∧ W.cell? ⟨w.heap.size + 1, 2, none⟩ = some (.bool false) ∧ W.cell? ⟨w.heap.size + 1, 3, none⟩ = some (.int .i64 0) ∧
  W.frozen? ⟨w.heap.size + 1, 0, none⟩ = false ∧ W.frozen? ⟨w.heap.size + 1, 1, none⟩ = false ∧ W.frozen? ⟨w.heap.size + 1, 2, none⟩ = false ∧ W.frozen? ⟨w.heap.size + 1, 3, none⟩ = false ∧ w.heap.size + 1 < W.heap.size ∧ Below w.heap.size w W
theorem R18.below {w W W' : World} {y n : Int} {l : Bool} {d : Int} (h : R18 w W y n l d) (hb : Below W.heap.size W W') : R18 w W' y n l d := by
  obtain ⟨a0, a1, a2, a3, b0, b1, b2, b3, f0, f1, f2, f3, hs, hB⟩ := h
  have c := fun i => hb.cell (p := ⟨w.heap.size, i, none⟩) (show w.heap.size < W.heap.size by omega)
  have e := fun i => hb.cell (p := ⟨w.heap.size + 1, i, none⟩) hs
  have g := fun i => hb.frozen (p := ⟨w.heap.size + 1, i, none⟩) hs
  exact ⟨(c 0).trans a0, (c 1).trans a1, (c 2).trans a2, (c 3).trans a3, (e 0).trans b0, (e 1).trans b1, (e 2).trans b2, (e 3).trans b3, (g 0).trans f0, (g 1).trans f1, (g 2).trans f2, (g 3).trans f3, Nat.lt_of_lt_of_le hs hb.size, bt hB hb⟩
set_option maxHeartbeats 2000000 in
theorem ref18_Death_err (y n : Int) (l : Bool) (d Y : Int) (hy : I64 y) (hd : I64 d) (hY : I64 Y) (w : World) (h0 : ¬ A18.chkE y n l d Y = 0) :
    Calls Tryd.prog 28 #[.agg #[.int .i64 (y), .int .i64 (n), .bool (l), .int .i64 (d)], .int .i64 Y] w fun e w' => e = .returned (.tuple #[.agg #[.int .i64 (0), .int .i64 (0), .bool (false), .int .i64 (0)], .int .i64 (A18.chkE y n l d Y)]) ∧ Below w.heap.size w w' := by
  have HC := Lib.hid (fun w => ref18_check y n l d Y hy hY w)
  have h1 : (A18.chkE y n l d Y != 0) = true := by simpa using h0
  clear h0
  generalize A18.chkE y n l d Y = ce at *
  go_enter Tryd.func28, Tryd.ntmps28
  go_wp2_with fail
  refine (HC.out _).mono ?_
  rintro e w1 ⟨rfl, hb1⟩
  obtain ⟨hc1, hf1⟩ := bcell hb1
  have hz1 := hb1.size
  try simp at hz1
  have hs1x0 : w.heap.size < w1.heap.size := by omega
  have hs1x1 : (w.heap.size + 1) < w1.heap.size := by omega
  have g1x0 : w1.cell? ⟨w.heap.size, 0, none⟩ = some (.int .i64 y) := (hc1 _ _ (by first | omega | (simp; done) | (simp; omega))).trans (by first | (with_reducible assumption) | (simp [go_sem]; done) | (simp [go_sem, *]; done) | assumption)
  have g1x1 : w1.cell? ⟨w.heap.size, 1, none⟩ = some (.int .i64 n) := (hc1 _ _ (by first | omega | (simp; done) | (simp; omega))).trans (by first | (with_reducible assumption) | (simp [go_sem]; done) | (simp [go_sem, *]; done) | assumption)
  have g1x2 : w1.cell? ⟨w.heap.size, 2, none⟩ = some (.bool l) := (hc1 _ _ (by first | omega | (simp; done) | (simp; omega))).trans (by first | (with_reducible assumption) | (simp [go_sem]; done) | (simp [go_sem, *]; done) | assumption)
  have g1x3 : w1.cell? ⟨w.heap.size, 3, none⟩ = some (.int .i64 d) := (hc1 _ _ (by first | omega | (simp; done) | (simp; omega))).trans (by first | (with_reducible assumption) | (simp [go_sem]; done) | (simp [go_sem, *]; done) | assumption)
  have g1x4 : w1.cell? ⟨(w.heap.size + 1), 0, none⟩ = some (.int .i64 0) := (hc1 _ _ (by first | omega | (simp; done) | (simp; omega))).trans (by first | (with_reducible assumption) | (simp [go_sem]; done) | (simp [go_sem, *]; done) | assumption)
  have g1x5 : w1.cell? ⟨(w.heap.size + 1), 1, none⟩ = some (.int .i64 0) := (hc1 _ _ (by first | omega | (simp; done) | (simp; omega))).trans (by first | (with_reducible assumption) | (simp [go_sem]; done) | (simp [go_sem, *]; done) | assumption)
  have g1x6 : w1.cell? ⟨(w.heap.size + 1), 2, none⟩ = some (.bool false) := (hc1 _ _ (by first | omega | (simp; done) | (simp; omega))).trans (by first | (with_reducible assumption) | (simp [go_sem]; done) | (simp [go_sem, *]; done) | assumption)
  have g1x7 : w1.cell? ⟨(w.heap.size + 1), 3, none⟩ = some (.int .i64 0) := (hc1 _ _ (by first | omega | (simp; done) | (simp; omega))).trans (by first | (with_reducible assumption) | (simp [go_sem]; done) | (simp [go_sem, *]; done) | assumption)
  go_wp2_with fail
  refine bodyPost_ret (v := .tuple #[.agg #[.int .i64 (0), .int .i64 (0), .bool (false), .int .i64 (0)], .int .i64 (ce)]) (by simp [results, Tryd.results28, go_sem, *]) rfl ⟨rfl, ?_⟩
  repeat (first | (with_reducible exact Below.refl _ _) | (with_reducible assumption) | (with_reducible refine bdrew ?_) | (with_reducible refine baa ?_ _) | (with_reducible refine bs ?_ (by first | exact Nat.le_refl _ | omega | (simp; done) | (simp; omega)) _) | (with_reducible refine bt ?_ (by with_reducible assumption)))
set_option maxHeartbeats 4000000 in
theorem ref18_Death_a2 (y : Int) (Y : Int) (hy : I64 y) (hY : I64 Y) (w : World) (h0 : A18.chkE y 2 false 30 Y = 0) (hl : (D10.lastV (y + 1) 2 false == 29) = true)  :
    Calls Tryd.prog 28 #[.agg #[.int .i64 (y), .int .i64 (2), .bool (false), .int .i64 (30)], .int .i64 Y] w fun e w' => e = .returned (.tuple #[.agg #[.int .i64 (Y), .int .i64 (2), .bool (false), .int .i64 (D10.lastV Y 2 false)], .int .i64 (0)]) ∧ Below w.heap.size w w' := by
  have HC := Lib.hid (fun w => ref18_check y 2 false 30 Y hy hY w)
  have h0' := h0
  obtain ⟨hde, h1, h2, hlt⟩ := A18.chk_0 h0
  obtain ⟨hvd, hp⟩ := D10.date_valid hde
  have hr := A18.right_of hp
  obtain ⟨b1, b2⟩ := (⟨hvd.1, hvd.2.1⟩ : 1 ≤ y ∧ y ≤ 9999)
  rw [h0] at HC
  have HV := Lib.hid (fun w => ref3_Is Y w (by omega) (by omega))
  have HD := Lib.hid (fun w => ref18_short (y + 1) 2 ⟨by omega, by omega⟩ w)
  rw [hl] at HD
  have HE := Lib.hid (fun w => ref10_Last Y 2 false w hY)
  have y1 := hy.1
  clear hde hvd hp h0 h0' hr
  generalize D10.lastV Y 2 false = rd at *
  generalize D10.lastE Y 2 false = re at *
  clear hl
  try generalize Cal.leap y = wl at *
  try generalize Cal.leap Y = il at *
  go_enter Tryd.func28, Tryd.ntmps28
  go_wp2_with fail
  refine (HC.out _).mono ?_
  rintro e w1 ⟨rfl, hb1⟩
  obtain ⟨hc1, hf1⟩ := bcell hb1
  have hz1 := hb1.size
  try simp at hz1
  have hs1x0 : w.heap.size < w1.heap.size := by omega
  have hs1x1 : (w.heap.size + 1) < w1.heap.size := by omega
  have g1x0 : w1.cell? ⟨w.heap.size, 0, none⟩ = some (.int .i64 y) := (hc1 _ _ (by first | omega | (simp; done) | (simp; omega))).trans (by first | (with_reducible assumption) | (simp [go_sem]; done) | (simp [go_sem, *]; done) | assumption)
  have g1x1 : w1.cell? ⟨w.heap.size, 1, none⟩ = some (.int .i64 2) := (hc1 _ _ (by first | omega | (simp; done) | (simp; omega))).trans (by first | (with_reducible assumption) | (simp [go_sem]; done) | (simp [go_sem, *]; done) | assumption)
  have g1x2 : w1.cell? ⟨w.heap.size, 2, none⟩ = some (.bool false) := (hc1 _ _ (by first | omega | (simp; done) | (simp; omega))).trans (by first | (with_reducible assumption) | (simp [go_sem]; done) | (simp [go_sem, *]; done) | assumption)
  have g1x3 : w1.cell? ⟨w.heap.size, 3, none⟩ = some (.int .i64 30) := (hc1 _ _ (by first | omega | (simp; done) | (simp; omega))).trans (by first | (with_reducible assumption) | (simp [go_sem]; done) | (simp [go_sem, *]; done) | assumption)
  have g1x4 : w1.cell? ⟨(w.heap.size + 1), 0, none⟩ = some (.int .i64 0) := (hc1 _ _ (by first | omega | (simp; done) | (simp; omega))).trans (by first | (with_reducible assumption) | (simp [go_sem]; done) | (simp [go_sem, *]; done) | assumption)
  have g1x5 : w1.cell? ⟨(w.heap.size + 1), 1, none⟩ = some (.int .i64 0) := (hc1 _ _ (by first | omega | (simp; done) | (simp; omega))).trans (by first | (with_reducible assumption) | (simp [go_sem]; done) | (simp [go_sem, *]; done) | assumption)
  have g1x6 : w1.cell? ⟨(w.heap.size + 1), 2, none⟩ = some (.bool false) := (hc1 _ _ (by first | omega | (simp; done) | (simp; omega))).trans (by first | (with_reducible assumption) | (simp [go_sem]; done) | (simp [go_sem, *]; done) | assumption)
  have g1x7 : w1.cell? ⟨(w.heap.size + 1), 3, none⟩ = some (.int .i64 0) := (hc1 _ _ (by first | omega | (simp; done) | (simp; omega))).trans (by first | (with_reducible assumption) | (simp [go_sem]; done) | (simp [go_sem, *]; done) | assumption)
  go_wp2_with fail
  refine settle (fun W => R18 w W y 2 false 30) ⟨by with_reducible assumption, by with_reducible assumption, by with_reducible assumption, by with_reducible assumption, by with_reducible assumption, by with_reducible assumption, by with_reducible assumption, by with_reducible assumption, (hf1 _ _ (by first | omega | (simp; done) | (simp; omega))).trans (by simp [go_sem]), (hf1 _ _ (by first | omega | (simp; done) | (simp; omega))).trans (by simp [go_sem]), (hf1 _ _ (by first | omega | (simp; done) | (simp; omega))).trans (by simp [go_sem]), (hf1 _ _ (by first | omega | (simp; done) | (simp; omega))).trans (by simp [go_sem]), by first | omega | (simp; omega), ?_⟩ ?_
  · repeat (first | (with_reducible exact Below.refl _ _) | (with_reducible assumption) | (with_reducible refine bdrew ?_) | (with_reducible refine baa ?_ _) | (with_reducible refine bs ?_ (by first | exact Nat.le_refl _ | omega | (simp; done) | (simp; omega)) _) | (with_reducible refine bt ?_ (by with_reducible assumption)))
  rintro W2 hR2
  clear hb1 hc1 hf1 hz1 g1x0 g1x1 g1x2 g1x3 g1x4 g1x5 g1x6 g1x7 hs1x0 hs1x1
  have hq := hR2
  obtain ⟨a0, a1, a2, a3, b0, b1, b2, b3, f0, f1, f2, f3, hs, hBB⟩ := hq
  have hs0 := Nat.lt_of_succ_lt hs
  go_loopw [7] (fun i wr => ∃ k : Int, (k = 2) ∧ i = .int .i64 k ∧ R18 w wr y 2 false 30) (fun i _ => (4 - intOf i).toNat)
  case atStart => exact ⟨2, by omega, rfl, hR2⟩
  case round =>
    clear a0 a1 a2 a3 b0 b1 b2 b3 f0 f1 f2 f3 hs hs0 hBB
    obtain ⟨k, hk, rfl, hRR⟩ := hrel
    have hq := hRR
    obtain ⟨a0, a1, a2, a3, b0, b1, b2, b3, f0, f1, f2, f3, hs, hBB⟩ := hq
    have hs0 := Nat.lt_of_succ_lt hs
    subst hk
    go_wp2_with fail
    refine (HD.out _).mono ?_
    rintro e w5 ⟨rfl, hb5⟩
    have hR5 := R18.below hRR hb5
    clear hRR
    have hRR := hR5
    clear a0 a1 a2 a3 b0 b1 b2 b3 f0 f1 f2 f3 hs hs0 hBB
    have hq := hR5
    obtain ⟨a0, a1, a2, a3, b0, b1, b2, b3, f0, f1, f2, f3, hs, hBB⟩ := hq
    have hs0 := Nat.lt_of_succ_lt hs
    clear hb5
    go_wp2_with fail
    refine (HE.out _).mono ?_
    rintro e w6 ⟨rfl, hb6⟩
    have hR6 := R18.below hRR hb6
    clear hRR
    have hRR := hR6
    clear a0 a1 a2 a3 b0 b1 b2 b3 f0 f1 f2 f3 hs hs0 hBB
    have hq := hR6
    obtain ⟨a0, a1, a2, a3, b0, b1, b2, b3, f0, f1, f2, f3, hs, hBB⟩ := hq
    have hs0 := Nat.lt_of_succ_lt hs
    clear hb6
    go_wp2_with fail
    refine bodyPost_ret (v := .tuple #[.agg #[.int .i64 (Y), .int .i64 (2), .bool (false), .int .i64 (rd)], .int .i64 (0)]) (by simp [results, Tryd.results28, go_sem, *]) rfl ⟨rfl, ?_⟩
    repeat (first | (with_reducible exact Below.refl _ _) | (with_reducible assumption) | (with_reducible refine bdrew ?_) | (with_reducible refine baa ?_ _) | (with_reducible refine bs ?_ (by first | exact Nat.le_refl _ | omega | (simp; done) | (simp; omega)) _) | (with_reducible refine bt ?_ (by with_reducible assumption)))
set_option maxHeartbeats 4000000 in
theorem ref18_Death_a3 (y : Int) (Y : Int) (hy : I64 y) (hY : I64 Y) (w : World) (h0 : A18.chkE y 3 false 30 Y = 0) (hl : (D10.lastV (y + 1) 3 false == 29) = true)  :
    Calls Tryd.prog 28 #[.agg #[.int .i64 (y), .int .i64 (3), .bool (false), .int .i64 (30)], .int .i64 Y] w fun e w' => e = .returned (.tuple #[.agg #[.int .i64 (Y), .int .i64 (3), .bool (false), .int .i64 (D10.lastV Y 3 false)], .int .i64 (0)]) ∧ Below w.heap.size w w' := by
  have HC := Lib.hid (fun w => ref18_check y 3 false 30 Y hy hY w)
  have h0' := h0
  obtain ⟨hde, h1, h2, hlt⟩ := A18.chk_0 h0
  obtain ⟨hvd, hp⟩ := D10.date_valid hde
  have hr := A18.right_of hp
  obtain ⟨b1, b2⟩ := (⟨hvd.1, hvd.2.1⟩ : 1 ≤ y ∧ y ≤ 9999)
  rw [h0] at HC
  have HV := Lib.hid (fun w => ref3_Is Y w (by omega) (by omega))
  have HD := Lib.hid (fun w => ref18_short (y + 1) 3 ⟨by omega, by omega⟩ w)
  rw [hl] at HD
  have HE := Lib.hid (fun w => ref10_Last Y 3 false w hY)
  have y1 := hy.1
  clear hde hvd hp h0 h0' hr
  generalize D10.lastV Y 3 false = rd at *
  generalize D10.lastE Y 3 false = re at *
  clear hl
  try generalize Cal.leap y = wl at *
  try generalize Cal.leap Y = il at *
  go_enter Tryd.func28, Tryd.ntmps28
  go_wp2_with fail
  refine (HC.out _).mono ?_
  rintro e w1 ⟨rfl, hb1⟩
  obtain ⟨hc1, hf1⟩ := bcell hb1
  have hz1 := hb1.size
  try simp at hz1
  have hs1x0 : w.heap.size < w1.heap.size := by omega
  have hs1x1 : (w.heap.size + 1) < w1.heap.size := by omega
  have g1x0 : w1.cell? ⟨w.heap.size, 0, none⟩ = some (.int .i64 y) := (hc1 _ _ (by first | omega | (simp; done) | (simp; omega))).trans (by first | (with_reducible assumption) | (simp [go_sem]; done) | (simp [go_sem, *]; done) | assumption)
  have g1x1 : w1.cell? ⟨w.heap.size, 1, none⟩ = some (.int .i64 3) := (hc1 _ _ (by first | omega | (simp; done) | (simp; omega))).trans (by first | (with_reducible assumption) | (simp [go_sem]; done) | (simp [go_sem, *]; done) | assumption)
  have g1x2 : w1.cell? ⟨w.heap.size, 2, none⟩ = some (.bool false) := (hc1 _ _ (by first | omega | (simp; done) | (simp; omega))).trans (by first | (with_reducible assumption) | (simp [go_sem]; done) | (simp [go_sem, *]; done) | assumption)
  have g1x3 : w1.cell? ⟨w.heap.size, 3, none⟩ = some (.int .i64 30) := (hc1 _ _ (by first | omega | (simp; done) | (simp; omega))).trans (by first | (with_reducible assumption) | (simp [go_sem]; done) | (simp [go_sem, *]; done) | assumption)
  have g1x4 : w1.cell? ⟨(w.heap.size + 1), 0, none⟩ = some (.int .i64 0) := (hc1 _ _ (by first | omega | (simp; done) | (simp; omega))).trans (by first | (with_reducible assumption) | (simp [go_sem]; done) | (simp [go_sem, *]; done) | assumption)
  have g1x5 : w1.cell? ⟨(w.heap.size + 1), 1, none⟩ = some (.int .i64 0) := (hc1 _ _ (by first | omega | (simp; done) | (simp; omega))).trans (by first | (with_reducible assumption) | (simp [go_sem]; done) | (simp [go_sem, *]; done) | assumption)
  have g1x6 : w1.cell? ⟨(w.heap.size + 1), 2, none⟩ = some (.bool false) := (hc1 _ _ (by first | omega | (simp; done) | (simp; omega))).trans (by first | (with_reducible assumption) | (simp [go_sem]; done) | (simp [go_sem, *]; done) | assumption)
  have g1x7 : w1.cell? ⟨(w.heap.size + 1), 3, none⟩ = some (.int .i64 0) := (hc1 _ _ (by first | omega | (simp; done) | (simp; omega))).trans (by first | (with_reducible assumption) | (simp [go_sem]; done) | (simp [go_sem, *]; done) | assumption)
  go_wp2_with fail
  refine settle (fun W => R18 w W y 3 false 30) ⟨by with_reducible assumption, by with_reducible assumption, by with_reducible assumption, by with_reducible assumption, by with_reducible assumption, by with_reducible assumption, by with_reducible assumption, by with_reducible assumption, (hf1 _ _ (by first | omega | (simp; done) | (simp; omega))).trans (by simp [go_sem]), (hf1 _ _ (by first | omega | (simp; done) | (simp; omega))).trans (by simp [go_sem]), (hf1 _ _ (by first | omega | (simp; done) | (simp; omega))).trans (by simp [go_sem]), (hf1 _ _ (by first | omega | (simp; done) | (simp; omega))).trans (by simp [go_sem]), by first | omega | (simp; omega), ?_⟩ ?_
  · repeat (first | (with_reducible exact Below.refl _ _) | (with_reducible assumption) | (with_reducible refine bdrew ?_) | (with_reducible refine baa ?_ _) | (with_reducible refine bs ?_ (by first | exact Nat.le_refl _ | omega | (simp; done) | (simp; omega)) _) | (with_reducible refine bt ?_ (by with_reducible assumption)))
  rintro W2 hR2
  clear hb1 hc1 hf1 hz1 g1x0 g1x1 g1x2 g1x3 g1x4 g1x5 g1x6 g1x7 hs1x0 hs1x1
  have hq := hR2
  obtain ⟨a0, a1, a2, a3, b0, b1, b2, b3, f0, f1, f2, f3, hs, hBB⟩ := hq
  have hs0 := Nat.lt_of_succ_lt hs
  go_loopw [7] (fun i wr => ∃ k : Int, (k = 2 ∨ k = 3) ∧ i = .int .i64 k ∧ R18 w wr y 3 false 30) (fun i _ => (4 - intOf i).toNat)
  case atStart => exact ⟨2, by omega, rfl, hR2⟩
  case round =>
    clear a0 a1 a2 a3 b0 b1 b2 b3 f0 f1 f2 f3 hs hs0 hBB
    obtain ⟨k, hk, rfl, hRR⟩ := hrel
    have hq := hRR
    obtain ⟨a0, a1, a2, a3, b0, b1, b2, b3, f0, f1, f2, f3, hs, hBB⟩ := hq
    have hs0 := Nat.lt_of_succ_lt hs
    rcases hk with rfl | rfl
    · go_wp2_with fail
      go_roundw
      case rel => exact ⟨3, by omega, rfl, hRR⟩
      case measure => simp [intOf]
    · go_wp2_with fail
      refine (HD.out _).mono ?_
      rintro e w5 ⟨rfl, hb5⟩
      have hR5 := R18.below hRR hb5
      clear hRR
      have hRR := hR5
      clear a0 a1 a2 a3 b0 b1 b2 b3 f0 f1 f2 f3 hs hs0 hBB
      have hq := hR5
      obtain ⟨a0, a1, a2, a3, b0, b1, b2, b3, f0, f1, f2, f3, hs, hBB⟩ := hq
      have hs0 := Nat.lt_of_succ_lt hs
      clear hb5
      go_wp2_with fail
      refine (HE.out _).mono ?_
      rintro e w6 ⟨rfl, hb6⟩
      have hR6 := R18.below hRR hb6
      clear hRR
      have hRR := hR6
      clear a0 a1 a2 a3 b0 b1 b2 b3 f0 f1 f2 f3 hs hs0 hBB
      have hq := hR6
      obtain ⟨a0, a1, a2, a3, b0, b1, b2, b3, f0, f1, f2, f3, hs, hBB⟩ := hq
      have hs0 := Nat.lt_of_succ_lt hs
      clear hb6
      go_wp2_with fail
      refine bodyPost_ret (v := .tuple #[.agg #[.int .i64 (Y), .int .i64 (3), .bool (false), .int .i64 (rd)], .int .i64 (0)]) (by simp [results, Tryd.results28, go_sem, *]) rfl ⟨rfl, ?_⟩
      repeat (first | (with_reducible exact Below.refl _ _) | (with_reducible assumption) | (with_reducible refine bdrew ?_) | (with_reducible refine baa ?_ _) | (with_reducible refine bs ?_ (by first | exact Nat.le_refl _ | omega | (simp; done) | (simp; omega)) _) | (with_reducible refine bt ?_ (by with_reducible assumption)))
set_option maxHeartbeats 4000000 in
theorem ref18_Death_c2 (y : Int) (Y : Int) (hy : I64 y) (hY : I64 Y) (w : World) (h0 : A18.chkE y 2 false 30 Y = 0) (hl : (D10.lastV (y + 1) 2 false == 29) = false)  :
    Calls Tryd.prog 28 #[.agg #[.int .i64 (y), .int .i64 (2), .bool (false), .int .i64 (30)], .int .i64 Y] w fun e w' => e = .returned (.tuple #[.agg #[.int .i64 (A18.bY y 2 false 30 Y), .int .i64 (A18.bN y 2 false 30 Y), .bool (A18.bL y 2 false 30 Y), .int .i64 (A18.bD y 2 false 30 Y)], .int .i64 (0)]) ∧ Below w.heap.size w w' := by
  have HC := Lib.hid (fun w => ref18_check y 2 false 30 Y hy hY w)
  have h0' := h0
  obtain ⟨hde, h1, h2, hlt⟩ := A18.chk_0 h0
  obtain ⟨hvd, hp⟩ := D10.date_valid hde
  have hr := A18.right_of hp
  obtain ⟨b1, b2⟩ := (⟨hvd.1, hvd.2.1⟩ : 1 ≤ y ∧ y ≤ 9999)
  rw [h0] at HC
  have HV := Lib.hid (fun w => ref3_Is Y w (by omega) (by omega))
  have HD := Lib.hid (fun w => ref18_short (y + 1) 2 ⟨by omega, by omega⟩ w)
  rw [hl] at HD
  have HI := Lib.hid (fun w => ref15_Into Y 2 false 0 w hY)
  obtain ⟨hi0, hq, _⟩ := A18.into_0 h1 h2 hr
  rw [hi0] at HI
  obtain ⟨_, _, d1, d2, _⟩ := A18.bir_ok h0
  have hm := D10.place_in _ _ _ hq
  obtain ⟨hv, hD⟩ := A18.bir_there h0
  have hb := D10.len_bd Y (A18.m0 Y 2 false) h1 h2 hm.1 hm.2.1
  have v1 : D10.Valid Y (A18.m0 Y 2 false) 1 := ⟨h1, h2, hm.1, hm.2.1, by omega, by omega⟩
  obtain ⟨q0, qD⟩ := D10.valid_date v1
  rw [show Cal.ofN (Cal.leap Y) (A18.m0 Y 2 false) = S15.intoN Y 2 false 0 from hm.2.2.1, show Cal.ofL (Cal.leap Y) (A18.m0 Y 2 false) = S15.intoL Y 2 false 0 from hm.2.2.2] at q0 qD
  rw [← qD] at hD
  have HN := Lib.hid (fun w => ref18_on Y (S15.intoN Y 2 false 0) (S15.intoL Y 2 false 0) 30 (A18.cM Y (A18.m0 Y 2 false) 30) (A18.cD Y (A18.m0 Y 2 false) 30) hY w q0 ⟨d1, d2⟩ hv hD.symm)
  rw [← show A18.bN y 2 false 30 Y = Cal.ofN (Cal.leap Y) (A18.cM Y (A18.m0 Y 2 false) 30) by unfold A18.bN; rw [if_pos h0], ← show A18.bL y 2 false 30 Y = Cal.ofL (Cal.leap Y) (A18.cM Y (A18.m0 Y 2 false) 30) by unfold A18.bL; rw [if_pos h0], ← show A18.bD y 2 false 30 Y = A18.cD Y (A18.m0 Y 2 false) 30 by unfold A18.bD; rw [if_pos h0]] at HN
  have hyY : A18.bY y 2 false 30 Y = Y := by unfold A18.bY; rw [if_pos h0]
  rw [hyY]
  clear hv hD hm hb v1 q0 qD hyY
  clear hq hi0
  have y1 := hy.1
  clear hde hvd hp h0 h0' hr
  generalize A18.bN y 2 false 30 Y = rn at *
  generalize A18.bL y 2 false 30 Y = rl at *
  generalize A18.bD y 2 false 30 Y = rd at *
  generalize S15.intoN Y 2 false 0 = n1 at *
  generalize S15.intoL Y 2 false 0 = l1 at *
  clear hl
  try generalize Cal.leap y = wl at *
  try generalize Cal.leap Y = il at *
  go_enter Tryd.func28, Tryd.ntmps28
  go_wp2_with fail
  refine (HC.out _).mono ?_
  rintro e w1 ⟨rfl, hb1⟩
  obtain ⟨hc1, hf1⟩ := bcell hb1
  have hz1 := hb1.size
  try simp at hz1
  have hs1x0 : w.heap.size < w1.heap.size := by omega
  have hs1x1 : (w.heap.size + 1) < w1.heap.size := by omega
  have g1x0 : w1.cell? ⟨w.heap.size, 0, none⟩ = some (.int .i64 y) := (hc1 _ _ (by first | omega | (simp; done) | (simp; omega))).trans (by first | (with_reducible assumption) | (simp [go_sem]; done) | (simp [go_sem, *]; done) | assumption)
  have g1x1 : w1.cell? ⟨w.heap.size, 1, none⟩ = some (.int .i64 2) := (hc1 _ _ (by first | omega | (simp; done) | (simp; omega))).trans (by first | (with_reducible assumption) | (simp [go_sem]; done) | (simp [go_sem, *]; done) | assumption)
  have g1x2 : w1.cell? ⟨w.heap.size, 2, none⟩ = some (.bool false) := (hc1 _ _ (by first | omega | (simp; done) | (simp; omega))).trans (by first | (with_reducible assumption) | (simp [go_sem]; done) | (simp [go_sem, *]; done) | assumption)
  have g1x3 : w1.cell? ⟨w.heap.size, 3, none⟩ = some (.int .i64 30) := (hc1 _ _ (by first | omega | (simp; done) | (simp; omega))).trans (by first | (with_reducible assumption) | (simp [go_sem]; done) | (simp [go_sem, *]; done) | assumption)
  have g1x4 : w1.cell? ⟨(w.heap.size + 1), 0, none⟩ = some (.int .i64 0) := (hc1 _ _ (by first | omega | (simp; done) | (simp; omega))).trans (by first | (with_reducible assumption) | (simp [go_sem]; done) | (simp [go_sem, *]; done) | assumption)
  have g1x5 : w1.cell? ⟨(w.heap.size + 1), 1, none⟩ = some (.int .i64 0) := (hc1 _ _ (by first | omega | (simp; done) | (simp; omega))).trans (by first | (with_reducible assumption) | (simp [go_sem]; done) | (simp [go_sem, *]; done) | assumption)
  have g1x6 : w1.cell? ⟨(w.heap.size + 1), 2, none⟩ = some (.bool false) := (hc1 _ _ (by first | omega | (simp; done) | (simp; omega))).trans (by first | (with_reducible assumption) | (simp [go_sem]; done) | (simp [go_sem, *]; done) | assumption)
  have g1x7 : w1.cell? ⟨(w.heap.size + 1), 3, none⟩ = some (.int .i64 0) := (hc1 _ _ (by first | omega | (simp; done) | (simp; omega))).trans (by first | (with_reducible assumption) | (simp [go_sem]; done) | (simp [go_sem, *]; done) | assumption)
  go_wp2_with fail
  refine settle (fun W => R18 w W y 2 false 30) ⟨by with_reducible assumption, by with_reducible assumption, by with_reducible assumption, by with_reducible assumption, by with_reducible assumption, by with_reducible assumption, by with_reducible assumption, by with_reducible assumption, (hf1 _ _ (by first | omega | (simp; done) | (simp; omega))).trans (by simp [go_sem]), (hf1 _ _ (by first | omega | (simp; done) | (simp; omega))).trans (by simp [go_sem]), (hf1 _ _ (by first | omega | (simp; done) | (simp; omega))).trans (by simp [go_sem]), (hf1 _ _ (by first | omega | (simp; done) | (simp; omega))).trans (by simp [go_sem]), by first | omega | (simp; omega), ?_⟩ ?_
  · repeat (first | (with_reducible exact Below.refl _ _) | (with_reducible assumption) | (with_reducible refine bdrew ?_) | (with_reducible refine baa ?_ _) | (with_reducible refine bs ?_ (by first | exact Nat.le_refl _ | omega | (simp; done) | (simp; omega)) _) | (with_reducible refine bt ?_ (by with_reducible assumption)))
  rintro W2 hR2
  clear hb1 hc1 hf1 hz1 g1x0 g1x1 g1x2 g1x3 g1x4 g1x5 g1x6 g1x7 hs1x0 hs1x1
  have hq := hR2
  obtain ⟨a0, a1, a2, a3, b0, b1, b2, b3, f0, f1, f2, f3, hs, hBB⟩ := hq
  have hs0 := Nat.lt_of_succ_lt hs
  go_loopw [7] (fun i wr => ∃ k : Int, (k = 2 ∨ k = 3 ∨ k = 4) ∧ i = .int .i64 k ∧ R18 w wr y 2 false 30) (fun i _ => (4 - intOf i).toNat)
  case atStart => exact ⟨2, by omega, rfl, hR2⟩
  case round =>
    clear a0 a1 a2 a3 b0 b1 b2 b3 f0 f1 f2 f3 hs hs0 hBB
    obtain ⟨k, hk, rfl, hRR⟩ := hrel
    have hq := hRR
    obtain ⟨a0, a1, a2, a3, b0, b1, b2, b3, f0, f1, f2, f3, hs, hBB⟩ := hq
    have hs0 := Nat.lt_of_succ_lt hs
    rcases hk with rfl | rfl | rfl
    · go_wp2_with fail
      refine (HD.out _).mono ?_
      rintro e w5 ⟨rfl, hb5⟩
      have hR5 := R18.below hRR hb5
      clear hRR
      have hRR := hR5
      clear a0 a1 a2 a3 b0 b1 b2 b3 f0 f1 f2 f3 hs hs0 hBB
      have hq := hR5
      obtain ⟨a0, a1, a2, a3, b0, b1, b2, b3, f0, f1, f2, f3, hs, hBB⟩ := hq
      have hs0 := Nat.lt_of_succ_lt hs
      clear hb5
      go_wp2_with fail
      go_roundw
      case rel => exact ⟨3, by omega, rfl, hRR⟩
      case measure => simp [intOf]
    · go_wp2_with fail
      go_roundw
      case rel => exact ⟨4, by omega, rfl, hRR⟩
      case measure => simp [intOf]
    · go_wp2_with fail
      refine (HV.out _).mono ?_
      rintro e w' ⟨rfl, rfl⟩
      go_wp2_with fail
      refine (HI.out _).mono ?_
      rintro e w6 ⟨rfl, hb6⟩
      have hR6 := R18.below hRR hb6
      clear hRR
      have hRR := hR6
      clear a0 a1 a2 a3 b0 b1 b2 b3 f0 f1 f2 f3 hs hs0 hBB
      have hq := hR6
      obtain ⟨a0, a1, a2, a3, b0, b1, b2, b3, f0, f1, f2, f3, hs, hBB⟩ := hq
      have hs0 := Nat.lt_of_succ_lt hs
      go_wp2_with fail
      refine (HN.out _).mono ?_
      rintro e w7 ⟨rfl, hb7⟩
      obtain ⟨hc7, hf7⟩ := bcell hb7
      have hz7 := hb7.size
      try simp at hz7
      have g7x0 : w7.cell? ⟨w.heap.size + 1, 0, none⟩ = some (.int .i64 0) := (hc7 _ _ (by first | omega | (simp; done) | (simp; omega))).trans (by first | (with_reducible assumption) | (simp [go_sem, *]; done))
      have z7x0 : w7.frozen? ⟨w.heap.size + 1, 0, none⟩ = false := (hf7 _ _ (by first | omega | (simp; done) | (simp; omega))).trans (by first | (with_reducible assumption) | (simp [go_sem, *]; done))
      have g7x1 : w7.cell? ⟨w.heap.size + 1, 1, none⟩ = some (.int .i64 0) := (hc7 _ _ (by first | omega | (simp; done) | (simp; omega))).trans (by first | (with_reducible assumption) | (simp [go_sem, *]; done))
      have z7x1 : w7.frozen? ⟨w.heap.size + 1, 1, none⟩ = false := (hf7 _ _ (by first | omega | (simp; done) | (simp; omega))).trans (by first | (with_reducible assumption) | (simp [go_sem, *]; done))
      have g7x2 : w7.cell? ⟨w.heap.size + 1, 2, none⟩ = some (.bool false) := (hc7 _ _ (by first | omega | (simp; done) | (simp; omega))).trans (by first | (with_reducible assumption) | (simp [go_sem, *]; done))
      have z7x2 : w7.frozen? ⟨w.heap.size + 1, 2, none⟩ = false := (hf7 _ _ (by first | omega | (simp; done) | (simp; omega))).trans (by first | (with_reducible assumption) | (simp [go_sem, *]; done))
      have g7x3 : w7.cell? ⟨w.heap.size + 1, 3, none⟩ = some (.int .i64 0) := (hc7 _ _ (by first | omega | (simp; done) | (simp; omega))).trans (by first | (with_reducible assumption) | (simp [go_sem, *]; done))
      have z7x3 : w7.frozen? ⟨w.heap.size + 1, 3, none⟩ = false := (hf7 _ _ (by first | omega | (simp; done) | (simp; omega))).trans (by first | (with_reducible assumption) | (simp [go_sem, *]; done))
      go_wp2_with fail
      refine bodyPost_ret (v := .tuple #[.agg #[.int .i64 (Y), .int .i64 (rn), .bool (rl), .int .i64 (rd)], .int .i64 (0)]) (by simp [results, Tryd.results28, go_sem, *]) rfl ⟨rfl, ?_⟩
      repeat (first | (with_reducible exact Below.refl _ _) | (with_reducible assumption) | (with_reducible refine bdrew ?_) | (with_reducible refine baa ?_ _) | (with_reducible refine bs ?_ (by first | exact Nat.le_refl _ | omega | (simp; done) | (simp; omega)) _) | (with_reducible refine bt ?_ (by with_reducible assumption)))
set_option maxHeartbeats 4000000 in
theorem ref18_Death_c3 (y : Int) (Y : Int) (hy : I64 y) (hY : I64 Y) (w : World) (h0 : A18.chkE y 3 false 30 Y = 0) (hl : (D10.lastV (y + 1) 3 false == 29) = false)  :
    Calls Tryd.prog 28 #[.agg #[.int .i64 (y), .int .i64 (3), .bool (false), .int .i64 (30)], .int .i64 Y] w fun e w' => e = .returned (.tuple #[.agg #[.int .i64 (A18.bY y 3 false 30 Y), .int .i64 (A18.bN y 3 false 30 Y), .bool (A18.bL y 3 false 30 Y), .int .i64 (A18.bD y 3 false 30 Y)], .int .i64 (0)]) ∧ Below w.heap.size w w' := by
  have HC := Lib.hid (fun w => ref18_check y 3 false 30 Y hy hY w)
  have h0' := h0
  obtain ⟨hde, h1, h2, hlt⟩ := A18.chk_0 h0
  obtain ⟨hvd, hp⟩ := D10.date_valid hde
  have hr := A18.right_of hp
  obtain ⟨b1, b2⟩ := (⟨hvd.1, hvd.2.1⟩ : 1 ≤ y ∧ y ≤ 9999)
  rw [h0] at HC
  have HV := Lib.hid (fun w => ref3_Is Y w (by omega) (by omega))
  have HD := Lib.hid (fun w => ref18_short (y + 1) 3 ⟨by omega, by omega⟩ w)
  rw [hl] at HD
  have HI := Lib.hid (fun w => ref15_Into Y 3 false 0 w hY)
  obtain ⟨hi0, hq, _⟩ := A18.into_0 h1 h2 hr
  rw [hi0] at HI
  obtain ⟨_, _, d1, d2, _⟩ := A18.bir_ok h0
  have hm := D10.place_in _ _ _ hq
  obtain ⟨hv, hD⟩ := A18.bir_there h0
  have hb := D10.len_bd Y (A18.m0 Y 3 false) h1 h2 hm.1 hm.2.1
  have v1 : D10.Valid Y (A18.m0 Y 3 false) 1 := ⟨h1, h2, hm.1, hm.2.1, by omega, by omega⟩
  obtain ⟨q0, qD⟩ := D10.valid_date v1
  rw [show Cal.ofN (Cal.leap Y) (A18.m0 Y 3 false) = S15.intoN Y 3 false 0 from hm.2.2.1, show Cal.ofL (Cal.leap Y) (A18.m0 Y 3 false) = S15.intoL Y 3 false 0 from hm.2.2.2] at q0 qD
  rw [← qD] at hD
  have HN := Lib.hid (fun w => ref18_on Y (S15.intoN Y 3 false 0) (S15.intoL Y 3 false 0) 30 (A18.cM Y (A18.m0 Y 3 false) 30) (A18.cD Y (A18.m0 Y 3 false) 30) hY w q0 ⟨d1, d2⟩ hv hD.symm)
  rw [← show A18.bN y 3 false 30 Y = Cal.ofN (Cal.leap Y) (A18.cM Y (A18.m0 Y 3 false) 30) by unfold A18.bN; rw [if_pos h0], ← show A18.bL y 3 false 30 Y = Cal.ofL (Cal.leap Y) (A18.cM Y (A18.m0 Y 3 false) 30) by unfold A18.bL; rw [if_pos h0], ← show A18.bD y 3 false 30 Y = A18.cD Y (A18.m0 Y 3 false) 30 by unfold A18.bD; rw [if_pos h0]] at HN
  have hyY : A18.bY y 3 false 30 Y = Y := by unfold A18.bY; rw [if_pos h0]
  rw [hyY]
  clear hv hD hm hb v1 q0 qD hyY
  clear hq hi0
  have y1 := hy.1
  clear hde hvd hp h0 h0' hr
  generalize A18.bN y 3 false 30 Y = rn at *
  generalize A18.bL y 3 false 30 Y = rl at *
  generalize A18.bD y 3 false 30 Y = rd at *
  generalize S15.intoN Y 3 false 0 = n1 at *
  generalize S15.intoL Y 3 false 0 = l1 at *
  clear hl
  try generalize Cal.leap y = wl at *
  try generalize Cal.leap Y = il at *
  go_enter Tryd.func28, Tryd.ntmps28
  go_wp2_with fail
  refine (HC.out _).mono ?_
  rintro e w1 ⟨rfl, hb1⟩
  obtain ⟨hc1, hf1⟩ := bcell hb1
  have hz1 := hb1.size
  try simp at hz1
  have hs1x0 : w.heap.size < w1.heap.size := by omega
  have hs1x1 : (w.heap.size + 1) < w1.heap.size := by omega
  have g1x0 : w1.cell? ⟨w.heap.size, 0, none⟩ = some (.int .i64 y) := (hc1 _ _ (by first | omega | (simp; done) | (simp; omega))).trans (by first | (with_reducible assumption) | (simp [go_sem]; done) | (simp [go_sem, *]; done) | assumption)
  have g1x1 : w1.cell? ⟨w.heap.size, 1, none⟩ = some (.int .i64 3) := (hc1 _ _ (by first | omega | (simp; done) | (simp; omega))).trans (by first | (with_reducible assumption) | (simp [go_sem]; done) | (simp [go_sem, *]; done) | assumption)
  have g1x2 : w1.cell? ⟨w.heap.size, 2, none⟩ = some (.bool false) := (hc1 _ _ (by first | omega | (simp; done) | (simp; omega))).trans (by first | (with_reducible assumption) | (simp [go_sem]; done) | (simp [go_sem, *]; done) | assumption)
  have g1x3 : w1.cell? ⟨w.heap.size, 3, none⟩ = some (.int .i64 30) := (hc1 _ _ (by first | omega | (simp; done) | (simp; omega))).trans (by first | (with_reducible assumption) | (simp [go_sem]; done) | (simp [go_sem, *]; done) | assumption)
  have g1x4 : w1.cell? ⟨(w.heap.size + 1), 0, none⟩ = some (.int .i64 0) := (hc1 _ _ (by first | omega | (simp; done) | (simp; omega))).trans (by first | (with_reducible assumption) | (simp [go_sem]; done) | (simp [go_sem, *]; done) | assumption)
  have g1x5 : w1.cell? ⟨(w.heap.size + 1), 1, none⟩ = some (.int .i64 0) := (hc1 _ _ (by first | omega | (simp; done) | (simp; omega))).trans (by first | (with_reducible assumption) | (simp [go_sem]; done) | (simp [go_sem, *]; done) | assumption)
  have g1x6 : w1.cell? ⟨(w.heap.size + 1), 2, none⟩ = some (.bool false) := (hc1 _ _ (by first | omega | (simp; done) | (simp; omega))).trans (by first | (with_reducible assumption) | (simp [go_sem]; done) | (simp [go_sem, *]; done) | assumption)
  have g1x7 : w1.cell? ⟨(w.heap.size + 1), 3, none⟩ = some (.int .i64 0) := (hc1 _ _ (by first | omega | (simp; done) | (simp; omega))).trans (by first | (with_reducible assumption) | (simp [go_sem]; done) | (simp [go_sem, *]; done) | assumption)
  go_wp2_with fail
  refine settle (fun W => R18 w W y 3 false 30) ⟨by with_reducible assumption, by with_reducible assumption, by with_reducible assumption, by with_reducible assumption, by with_reducible assumption, by with_reducible assumption, by with_reducible assumption, by with_reducible assumption, (hf1 _ _ (by first | omega | (simp; done) | (simp; omega))).trans (by simp [go_sem]), (hf1 _ _ (by first | omega | (simp; done) | (simp; omega))).trans (by simp [go_sem]), (hf1 _ _ (by first | omega | (simp; done) | (simp; omega))).trans (by simp [go_sem]), (hf1 _ _ (by first | omega | (simp; done) | (simp; omega))).trans (by simp [go_sem]), by first | omega | (simp; omega), ?_⟩ ?_
  · repeat (first | (with_reducible exact Below.refl _ _) | (with_reducible assumption) | (with_reducible refine bdrew ?_) | (with_reducible refine baa ?_ _) | (with_reducible refine bs ?_ (by first | exact Nat.le_refl _ | omega | (simp; done) | (simp; omega)) _) | (with_reducible refine bt ?_ (by with_reducible assumption)))
  rintro W2 hR2
  clear hb1 hc1 hf1 hz1 g1x0 g1x1 g1x2 g1x3 g1x4 g1x5 g1x6 g1x7 hs1x0 hs1x1
  have hq := hR2
  obtain ⟨a0, a1, a2, a3, b0, b1, b2, b3, f0, f1, f2, f3, hs, hBB⟩ := hq
  have hs0 := Nat.lt_of_succ_lt hs
  go_loopw [7] (fun i wr => ∃ k : Int, (k = 2 ∨ k = 3 ∨ k = 4) ∧ i = .int .i64 k ∧ R18 w wr y 3 false 30) (fun i _ => (4 - intOf i).toNat)
  case atStart => exact ⟨2, by omega, rfl, hR2⟩
  case round =>
    clear a0 a1 a2 a3 b0 b1 b2 b3 f0 f1 f2 f3 hs hs0 hBB
    obtain ⟨k, hk, rfl, hRR⟩ := hrel
    have hq := hRR
    obtain ⟨a0, a1, a2, a3, b0, b1, b2, b3, f0, f1, f2, f3, hs, hBB⟩ := hq
    have hs0 := Nat.lt_of_succ_lt hs
    rcases hk with rfl | rfl | rfl
    · go_wp2_with fail
      go_roundw
      case rel => exact ⟨3, by omega, rfl, hRR⟩
      case measure => simp [intOf]
    · go_wp2_with fail
      refine (HD.out _).mono ?_
      rintro e w5 ⟨rfl, hb5⟩
      have hR5 := R18.below hRR hb5
      clear hRR
      have hRR := hR5
      clear a0 a1 a2 a3 b0 b1 b2 b3 f0 f1 f2 f3 hs hs0 hBB
      have hq := hR5
      obtain ⟨a0, a1, a2, a3, b0, b1, b2, b3, f0, f1, f2, f3, hs, hBB⟩ := hq
      have hs0 := Nat.lt_of_succ_lt hs
      clear hb5
      go_wp2_with fail
      go_roundw
      case rel => exact ⟨4, by omega, rfl, hRR⟩
      case measure => simp [intOf]
    · go_wp2_with fail
      refine (HV.out _).mono ?_
      rintro e w' ⟨rfl, rfl⟩
      go_wp2_with fail
      refine (HI.out _).mono ?_
      rintro e w6 ⟨rfl, hb6⟩
      have hR6 := R18.below hRR hb6
      clear hRR
      have hRR := hR6
      clear a0 a1 a2 a3 b0 b1 b2 b3 f0 f1 f2 f3 hs hs0 hBB
      have hq := hR6
      obtain ⟨a0, a1, a2, a3, b0, b1, b2, b3, f0, f1, f2, f3, hs, hBB⟩ := hq
      have hs0 := Nat.lt_of_succ_lt hs
      go_wp2_with fail
      refine (HN.out _).mono ?_
      rintro e w7 ⟨rfl, hb7⟩
      obtain ⟨hc7, hf7⟩ := bcell hb7
      have hz7 := hb7.size
      try simp at hz7
      have g7x0 : w7.cell? ⟨w.heap.size + 1, 0, none⟩ = some (.int .i64 0) := (hc7 _ _ (by first | omega | (simp; done) | (simp; omega))).trans (by first | (with_reducible assumption) | (simp [go_sem, *]; done))
      have z7x0 : w7.frozen? ⟨w.heap.size + 1, 0, none⟩ = false := (hf7 _ _ (by first | omega | (simp; done) | (simp; omega))).trans (by first | (with_reducible assumption) | (simp [go_sem, *]; done))
      have g7x1 : w7.cell? ⟨w.heap.size + 1, 1, none⟩ = some (.int .i64 0) := (hc7 _ _ (by first | omega | (simp; done) | (simp; omega))).trans (by first | (with_reducible assumption) | (simp [go_sem, *]; done))
      have z7x1 : w7.frozen? ⟨w.heap.size + 1, 1, none⟩ = false := (hf7 _ _ (by first | omega | (simp; done) | (simp; omega))).trans (by first | (with_reducible assumption) | (simp [go_sem, *]; done))
      have g7x2 : w7.cell? ⟨w.heap.size + 1, 2, none⟩ = some (.bool false) := (hc7 _ _ (by first | omega | (simp; done) | (simp; omega))).trans (by first | (with_reducible assumption) | (simp [go_sem, *]; done))
      have z7x2 : w7.frozen? ⟨w.heap.size + 1, 2, none⟩ = false := (hf7 _ _ (by first | omega | (simp; done) | (simp; omega))).trans (by first | (with_reducible assumption) | (simp [go_sem, *]; done))
      have g7x3 : w7.cell? ⟨w.heap.size + 1, 3, none⟩ = some (.int .i64 0) := (hc7 _ _ (by first | omega | (simp; done) | (simp; omega))).trans (by first | (with_reducible assumption) | (simp [go_sem, *]; done))
      have z7x3 : w7.frozen? ⟨w.heap.size + 1, 3, none⟩ = false := (hf7 _ _ (by first | omega | (simp; done) | (simp; omega))).trans (by first | (with_reducible assumption) | (simp [go_sem, *]; done))
      go_wp2_with fail
      refine bodyPost_ret (v := .tuple #[.agg #[.int .i64 (Y), .int .i64 (rn), .bool (rl), .int .i64 (rd)], .int .i64 (0)]) (by simp [results, Tryd.results28, go_sem, *]) rfl ⟨rfl, ?_⟩
      repeat (first | (with_reducible exact Below.refl _ _) | (with_reducible assumption) | (with_reducible refine bdrew ?_) | (with_reducible refine baa ?_ _) | (with_reducible refine bs ?_ (by first | exact Nat.le_refl _ | omega | (simp; done) | (simp; omega)) _) | (with_reducible refine bt ?_ (by with_reducible assumption)))
set_option maxHeartbeats 4000000 in
theorem ref18_Death_bl (y n : Int) (Y : Int) (hy : I64 y) (hY : I64 Y) (w : World) (h0 : A18.chkE y n true 30 Y = 0) (n2 : (n == 2) = false) (n3 : (n == 3) = false) (hi : Cal.leap Y = false) :
    Calls Tryd.prog 28 #[.agg #[.int .i64 (y), .int .i64 (n), .bool (true), .int .i64 (30)], .int .i64 Y] w fun e w' => e = .returned (.tuple #[.agg #[.int .i64 (Y), .int .i64 (5), .bool (false), .int .i64 (30)], .int .i64 (0)]) ∧ Below w.heap.size w w' := by
  have HC := Lib.hid (fun w => ref18_check y n true 30 Y hy hY w)
  have h0' := h0
  obtain ⟨hde, h1, h2, hlt⟩ := A18.chk_0 h0
  obtain ⟨hvd, hp⟩ := D10.date_valid hde
  have hr := A18.right_of hp
  obtain ⟨b1, b2⟩ := (⟨hvd.1, hvd.2.1⟩ : 1 ≤ y ∧ y ≤ 9999)
  rw [h0] at HC
  have HV := Lib.hid (fun w => ref3_Is Y w (by omega) (by omega))
  have y1 := hy.1
  clear hde hvd hp h0 h0' hr
  rw [hi] at HV
  clear hi
  try generalize Cal.leap y = wl at *
  try generalize Cal.leap Y = il at *
  go_enter Tryd.func28, Tryd.ntmps28
  go_wp2_with fail
  refine (HC.out _).mono ?_
  rintro e w1 ⟨rfl, hb1⟩
  obtain ⟨hc1, hf1⟩ := bcell hb1
  have hz1 := hb1.size
  try simp at hz1
  have hs1x0 : w.heap.size < w1.heap.size := by omega
  have hs1x1 : (w.heap.size + 1) < w1.heap.size := by omega
  have g1x0 : w1.cell? ⟨w.heap.size, 0, none⟩ = some (.int .i64 y) := (hc1 _ _ (by first | omega | (simp; done) | (simp; omega))).trans (by first | (with_reducible assumption) | (simp [go_sem]; done) | (simp [go_sem, *]; done) | assumption)
  have g1x1 : w1.cell? ⟨w.heap.size, 1, none⟩ = some (.int .i64 n) := (hc1 _ _ (by first | omega | (simp; done) | (simp; omega))).trans (by first | (with_reducible assumption) | (simp [go_sem]; done) | (simp [go_sem, *]; done) | assumption)
  have g1x2 : w1.cell? ⟨w.heap.size, 2, none⟩ = some (.bool true) := (hc1 _ _ (by first | omega | (simp; done) | (simp; omega))).trans (by first | (with_reducible assumption) | (simp [go_sem]; done) | (simp [go_sem, *]; done) | assumption)
  have g1x3 : w1.cell? ⟨w.heap.size, 3, none⟩ = some (.int .i64 30) := (hc1 _ _ (by first | omega | (simp; done) | (simp; omega))).trans (by first | (with_reducible assumption) | (simp [go_sem]; done) | (simp [go_sem, *]; done) | assumption)
  have g1x4 : w1.cell? ⟨(w.heap.size + 1), 0, none⟩ = some (.int .i64 0) := (hc1 _ _ (by first | omega | (simp; done) | (simp; omega))).trans (by first | (with_reducible assumption) | (simp [go_sem]; done) | (simp [go_sem, *]; done) | assumption)
  have g1x5 : w1.cell? ⟨(w.heap.size + 1), 1, none⟩ = some (.int .i64 0) := (hc1 _ _ (by first | omega | (simp; done) | (simp; omega))).trans (by first | (with_reducible assumption) | (simp [go_sem]; done) | (simp [go_sem, *]; done) | assumption)
  have g1x6 : w1.cell? ⟨(w.heap.size + 1), 2, none⟩ = some (.bool false) := (hc1 _ _ (by first | omega | (simp; done) | (simp; omega))).trans (by first | (with_reducible assumption) | (simp [go_sem]; done) | (simp [go_sem, *]; done) | assumption)
  have g1x7 : w1.cell? ⟨(w.heap.size + 1), 3, none⟩ = some (.int .i64 0) := (hc1 _ _ (by first | omega | (simp; done) | (simp; omega))).trans (by first | (with_reducible assumption) | (simp [go_sem]; done) | (simp [go_sem, *]; done) | assumption)
  go_wp2_with fail
  refine settle (fun W => R18 w W y n true 30) ⟨by with_reducible assumption, by with_reducible assumption, by with_reducible assumption, by with_reducible assumption, by with_reducible assumption, by with_reducible assumption, by with_reducible assumption, by with_reducible assumption, (hf1 _ _ (by first | omega | (simp; done) | (simp; omega))).trans (by simp [go_sem]), (hf1 _ _ (by first | omega | (simp; done) | (simp; omega))).trans (by simp [go_sem]), (hf1 _ _ (by first | omega | (simp; done) | (simp; omega))).trans (by simp [go_sem]), (hf1 _ _ (by first | omega | (simp; done) | (simp; omega))).trans (by simp [go_sem]), by first | omega | (simp; omega), ?_⟩ ?_
  · repeat (first | (with_reducible exact Below.refl _ _) | (with_reducible assumption) | (with_reducible refine bdrew ?_) | (with_reducible refine baa ?_ _) | (with_reducible refine bs ?_ (by first | exact Nat.le_refl _ | omega | (simp; done) | (simp; omega)) _) | (with_reducible refine bt ?_ (by with_reducible assumption)))
  rintro W2 hR2
  clear hb1 hc1 hf1 hz1 g1x0 g1x1 g1x2 g1x3 g1x4 g1x5 g1x6 g1x7 hs1x0 hs1x1
  have hq := hR2
  obtain ⟨a0, a1, a2, a3, b0, b1, b2, b3, f0, f1, f2, f3, hs, hBB⟩ := hq
  have hs0 := Nat.lt_of_succ_lt hs
  go_loopw [7] (fun i wr => ∃ k : Int, (k = 2 ∨ k = 3 ∨ k = 4) ∧ i = .int .i64 k ∧ R18 w wr y n true 30) (fun i _ => (4 - intOf i).toNat)
  case atStart => exact ⟨2, by omega, rfl, hR2⟩
  case round =>
    clear a0 a1 a2 a3 b0 b1 b2 b3 f0 f1 f2 f3 hs hs0 hBB
    obtain ⟨k, hk, rfl, hRR⟩ := hrel
    have hq := hRR
    obtain ⟨a0, a1, a2, a3, b0, b1, b2, b3, f0, f1, f2, f3, hs, hBB⟩ := hq
    have hs0 := Nat.lt_of_succ_lt hs
    rcases hk with rfl | rfl | rfl
    · go_wp2_with fail
      go_roundw
      case rel => exact ⟨3, by omega, rfl, hRR⟩
      case measure => simp [intOf]
    · go_wp2_with fail
      go_roundw
      case rel => exact ⟨4, by omega, rfl, hRR⟩
      case measure => simp [intOf]
    · go_wp2_with fail
      refine (HV.out _).mono ?_
      rintro e w' ⟨rfl, rfl⟩
      go_wp2_with fail
      refine bodyPost_ret (v := .tuple #[.agg #[.int .i64 (Y), .int .i64 (5), .bool (false), .int .i64 (30)], .int .i64 (0)]) (by simp [results, Tryd.results28, go_sem, *]) rfl ⟨rfl, ?_⟩
      repeat (first | (with_reducible exact Below.refl _ _) | (with_reducible assumption) | (with_reducible refine bdrew ?_) | (with_reducible refine baa ?_ _) | (with_reducible refine bs ?_ (by first | exact Nat.le_refl _ | omega | (simp; done) | (simp; omega)) _) | (with_reducible refine bt ?_ (by with_reducible assumption)))
set_option maxHeartbeats 4000000 in
theorem ref18_Death_bll (y n : Int) (Y : Int) (hy : I64 y) (hY : I64 Y) (w : World) (h0 : A18.chkE y n true 30 Y = 0) (n2 : (n == 2) = false) (n3 : (n == 3) = false) (n6 : (n == 6) = false) (hi : Cal.leap Y = true) :
    Calls Tryd.prog 28 #[.agg #[.int .i64 (y), .int .i64 (n), .bool (true), .int .i64 (30)], .int .i64 Y] w fun e w' => e = .returned (.tuple #[.agg #[.int .i64 (A18.bY y n true 30 Y), .int .i64 (A18.bN y n true 30 Y), .bool (A18.bL y n true 30 Y), .int .i64 (A18.bD y n true 30 Y)], .int .i64 (0)]) ∧ Below w.heap.size w w' := by
  have HC := Lib.hid (fun w => ref18_check y n true 30 Y hy hY w)
  have h0' := h0
  obtain ⟨hde, h1, h2, hlt⟩ := A18.chk_0 h0
  obtain ⟨hvd, hp⟩ := D10.date_valid hde
  have hr := A18.right_of hp
  obtain ⟨b1, b2⟩ := (⟨hvd.1, hvd.2.1⟩ : 1 ≤ y ∧ y ≤ 9999)
  rw [h0] at HC
  have HV := Lib.hid (fun w => ref3_Is Y w (by omega) (by omega))
  have HI := Lib.hid (fun w => ref15_Into Y n true 0 w hY)
  obtain ⟨hi0, hq, _⟩ := A18.into_0 h1 h2 hr
  rw [hi0] at HI
  obtain ⟨_, _, d1, d2, _⟩ := A18.bir_ok h0
  have hm := D10.place_in _ _ _ hq
  obtain ⟨hv, hD⟩ := A18.bir_there h0
  have hb := D10.len_bd Y (A18.m0 Y n true) h1 h2 hm.1 hm.2.1
  have v1 : D10.Valid Y (A18.m0 Y n true) 1 := ⟨h1, h2, hm.1, hm.2.1, by omega, by omega⟩
  obtain ⟨q0, qD⟩ := D10.valid_date v1
  rw [show Cal.ofN (Cal.leap Y) (A18.m0 Y n true) = S15.intoN Y n true 0 from hm.2.2.1, show Cal.ofL (Cal.leap Y) (A18.m0 Y n true) = S15.intoL Y n true 0 from hm.2.2.2] at q0 qD
  rw [← qD] at hD
  have HN := Lib.hid (fun w => ref18_on Y (S15.intoN Y n true 0) (S15.intoL Y n true 0) 30 (A18.cM Y (A18.m0 Y n true) 30) (A18.cD Y (A18.m0 Y n true) 30) hY w q0 ⟨d1, d2⟩ hv hD.symm)
  rw [← show A18.bN y n true 30 Y = Cal.ofN (Cal.leap Y) (A18.cM Y (A18.m0 Y n true) 30) by unfold A18.bN; rw [if_pos h0], ← show A18.bL y n true 30 Y = Cal.ofL (Cal.leap Y) (A18.cM Y (A18.m0 Y n true) 30) by unfold A18.bL; rw [if_pos h0], ← show A18.bD y n true 30 Y = A18.cD Y (A18.m0 Y n true) 30 by unfold A18.bD; rw [if_pos h0]] at HN
  have hyY : A18.bY y n true 30 Y = Y := by unfold A18.bY; rw [if_pos h0]
  rw [hyY]
  clear hv hD hm hb v1 q0 qD hyY
  clear hq hi0
  have y1 := hy.1
  clear hde hvd hp h0 h0' hr
  rw [hi] at HV
  generalize A18.bN y n true 30 Y = rn at *
  generalize A18.bL y n true 30 Y = rl at *
  generalize A18.bD y n true 30 Y = rd at *
  generalize S15.intoN Y n true 0 = n1 at *
  generalize S15.intoL Y n true 0 = l1 at *
  clear hi
  try generalize Cal.leap y = wl at *
  try generalize Cal.leap Y = il at *
  go_enter Tryd.func28, Tryd.ntmps28
  go_wp2_with fail
  refine (HC.out _).mono ?_
  rintro e w1 ⟨rfl, hb1⟩
  obtain ⟨hc1, hf1⟩ := bcell hb1
  have hz1 := hb1.size
  try simp at hz1
  have hs1x0 : w.heap.size < w1.heap.size := by omega
  have hs1x1 : (w.heap.size + 1) < w1.heap.size := by omega
  have g1x0 : w1.cell? ⟨w.heap.size, 0, none⟩ = some (.int .i64 y) := (hc1 _ _ (by first | omega | (simp; done) | (simp; omega))).trans (by first | (with_reducible assumption) | (simp [go_sem]; done) | (simp [go_sem, *]; done) | assumption)
  have g1x1 : w1.cell? ⟨w.heap.size, 1, none⟩ = some (.int .i64 n) := (hc1 _ _ (by first | omega | (simp; done) | (simp; omega))).trans (by first | (with_reducible assumption) | (simp [go_sem]; done) | (simp [go_sem, *]; done) | assumption)
  have g1x2 : w1.cell? ⟨w.heap.size, 2, none⟩ = some (.bool true) := (hc1 _ _ (by first | omega | (simp; done) | (simp; omega))).trans (by first | (with_reducible assumption) | (simp [go_sem]; done) | (simp [go_sem, *]; done) | assumption)
  have g1x3 : w1.cell? ⟨w.heap.size, 3, none⟩ = some (.int .i64 30) := (hc1 _ _ (by first | omega | (simp; done) | (simp; omega))).trans (by first | (with_reducible assumption) | (simp [go_sem]; done) | (simp [go_sem, *]; done) | assumption)
  have g1x4 : w1.cell? ⟨(w.heap.size + 1), 0, none⟩ = some (.int .i64 0) := (hc1 _ _ (by first | omega | (simp; done) | (simp; omega))).trans (by first | (with_reducible assumption) | (simp [go_sem]; done) | (simp [go_sem, *]; done) | assumption)
  have g1x5 : w1.cell? ⟨(w.heap.size + 1), 1, none⟩ = some (.int .i64 0) := (hc1 _ _ (by first | omega | (simp; done) | (simp; omega))).trans (by first | (with_reducible assumption) | (simp [go_sem]; done) | (simp [go_sem, *]; done) | assumption)
  have g1x6 : w1.cell? ⟨(w.heap.size + 1), 2, none⟩ = some (.bool false) := (hc1 _ _ (by first | omega | (simp; done) | (simp; omega))).trans (by first | (with_reducible assumption) | (simp [go_sem]; done) | (simp [go_sem, *]; done) | assumption)
  have g1x7 : w1.cell? ⟨(w.heap.size + 1), 3, none⟩ = some (.int .i64 0) := (hc1 _ _ (by first | omega | (simp; done) | (simp; omega))).trans (by first | (with_reducible assumption) | (simp [go_sem]; done) | (simp [go_sem, *]; done) | assumption)
  go_wp2_with fail
  refine settle (fun W => R18 w W y n true 30) ⟨by with_reducible assumption, by with_reducible assumption, by with_reducible assumption, by with_reducible assumption, by with_reducible assumption, by with_reducible assumption, by with_reducible assumption, by with_reducible assumption, (hf1 _ _ (by first | omega | (simp; done) | (simp; omega))).trans (by simp [go_sem]), (hf1 _ _ (by first | omega | (simp; done) | (simp; omega))).trans (by simp [go_sem]), (hf1 _ _ (by first | omega | (simp; done) | (simp; omega))).trans (by simp [go_sem]), (hf1 _ _ (by first | omega | (simp; done) | (simp; omega))).trans (by simp [go_sem]), by first | omega | (simp; omega), ?_⟩ ?_
  · repeat (first | (with_reducible exact Below.refl _ _) | (with_reducible assumption) | (with_reducible refine bdrew ?_) | (with_reducible refine baa ?_ _) | (with_reducible refine bs ?_ (by first | exact Nat.le_refl _ | omega | (simp; done) | (simp; omega)) _) | (with_reducible refine bt ?_ (by with_reducible assumption)))
  rintro W2 hR2
  clear hb1 hc1 hf1 hz1 g1x0 g1x1 g1x2 g1x3 g1x4 g1x5 g1x6 g1x7 hs1x0 hs1x1
  have hq := hR2
  obtain ⟨a0, a1, a2, a3, b0, b1, b2, b3, f0, f1, f2, f3, hs, hBB⟩ := hq
  have hs0 := Nat.lt_of_succ_lt hs
  go_loopw [7] (fun i wr => ∃ k : Int, (k = 2 ∨ k = 3 ∨ k = 4) ∧ i = .int .i64 k ∧ R18 w wr y n true 30) (fun i _ => (4 - intOf i).toNat)
  case atStart => exact ⟨2, by omega, rfl, hR2⟩
  case round =>
    clear a0 a1 a2 a3 b0 b1 b2 b3 f0 f1 f2 f3 hs hs0 hBB
    obtain ⟨k, hk, rfl, hRR⟩ := hrel
    have hq := hRR
    obtain ⟨a0, a1, a2, a3, b0, b1, b2, b3, f0, f1, f2, f3, hs, hBB⟩ := hq
    have hs0 := Nat.lt_of_succ_lt hs
    rcases hk with rfl | rfl | rfl
    · go_wp2_with fail
      go_roundw
      case rel => exact ⟨3, by omega, rfl, hRR⟩
      case measure => simp [intOf]
    · go_wp2_with fail
      go_roundw
      case rel => exact ⟨4, by omega, rfl, hRR⟩
      case measure => simp [intOf]
    · go_wp2_with fail
      refine (HV.out _).mono ?_
      rintro e w' ⟨rfl, rfl⟩
      go_wp2_with fail
      refine (HI.out _).mono ?_
      rintro e w6 ⟨rfl, hb6⟩
      have hR6 := R18.below hRR hb6
      clear hRR
      have hRR := hR6
      clear a0 a1 a2 a3 b0 b1 b2 b3 f0 f1 f2 f3 hs hs0 hBB
      have hq := hR6
      obtain ⟨a0, a1, a2, a3, b0, b1, b2, b3, f0, f1, f2, f3, hs, hBB⟩ := hq
      have hs0 := Nat.lt_of_succ_lt hs
      go_wp2_with fail
      refine (HN.out _).mono ?_
      rintro e w7 ⟨rfl, hb7⟩
      obtain ⟨hc7, hf7⟩ := bcell hb7
      have hz7 := hb7.size
      try simp at hz7
      have g7x0 : w7.cell? ⟨w.heap.size + 1, 0, none⟩ = some (.int .i64 0) := (hc7 _ _ (by first | omega | (simp; done) | (simp; omega))).trans (by first | (with_reducible assumption) | (simp [go_sem, *]; done))
      have z7x0 : w7.frozen? ⟨w.heap.size + 1, 0, none⟩ = false := (hf7 _ _ (by first | omega | (simp; done) | (simp; omega))).trans (by first | (with_reducible assumption) | (simp [go_sem, *]; done))
      have g7x1 : w7.cell? ⟨w.heap.size + 1, 1, none⟩ = some (.int .i64 0) := (hc7 _ _ (by first | omega | (simp; done) | (simp; omega))).trans (by first | (with_reducible assumption) | (simp [go_sem, *]; done))
      have z7x1 : w7.frozen? ⟨w.heap.size + 1, 1, none⟩ = false := (hf7 _ _ (by first | omega | (simp; done) | (simp; omega))).trans (by first | (with_reducible assumption) | (simp [go_sem, *]; done))
      have g7x2 : w7.cell? ⟨w.heap.size + 1, 2, none⟩ = some (.bool false) := (hc7 _ _ (by first | omega | (simp; done) | (simp; omega))).trans (by first | (with_reducible assumption) | (simp [go_sem, *]; done))
      have z7x2 : w7.frozen? ⟨w.heap.size + 1, 2, none⟩ = false := (hf7 _ _ (by first | omega | (simp; done) | (simp; omega))).trans (by first | (with_reducible assumption) | (simp [go_sem, *]; done))
      have g7x3 : w7.cell? ⟨w.heap.size + 1, 3, none⟩ = some (.int .i64 0) := (hc7 _ _ (by first | omega | (simp; done) | (simp; omega))).trans (by first | (with_reducible assumption) | (simp [go_sem, *]; done))
      have z7x3 : w7.frozen? ⟨w.heap.size + 1, 3, none⟩ = false := (hf7 _ _ (by first | omega | (simp; done) | (simp; omega))).trans (by first | (with_reducible assumption) | (simp [go_sem, *]; done))
      go_wp2_with fail
      refine bodyPost_ret (v := .tuple #[.agg #[.int .i64 (Y), .int .i64 (rn), .bool (rl), .int .i64 (rd)], .int .i64 (0)]) (by simp [results, Tryd.results28, go_sem, *]) rfl ⟨rfl, ?_⟩
      repeat (first | (with_reducible exact Below.refl _ _) | (with_reducible assumption) | (with_reducible refine bdrew ?_) | (with_reducible refine baa ?_ _) | (with_reducible refine bs ?_ (by first | exact Nat.le_refl _ | omega | (simp; done) | (simp; omega)) _) | (with_reducible refine bt ?_ (by with_reducible assumption)))
set_option maxHeartbeats 4000000 in
theorem ref18_Death_bp (y n : Int) (Y : Int) (hy : I64 y) (hY : I64 Y) (w : World) (h0 : A18.chkE y n false 30 Y = 0) (n2 : (n == 2) = false) (n3 : (n == 3) = false) (n6 : (n == 6) = false) :
    Calls Tryd.prog 28 #[.agg #[.int .i64 (y), .int .i64 (n), .bool (false), .int .i64 (30)], .int .i64 Y] w fun e w' => e = .returned (.tuple #[.agg #[.int .i64 (A18.bY y n false 30 Y), .int .i64 (A18.bN y n false 30 Y), .bool (A18.bL y n false 30 Y), .int .i64 (A18.bD y n false 30 Y)], .int .i64 (0)]) ∧ Below w.heap.size w w' := by
  have HC := Lib.hid (fun w => ref18_check y n false 30 Y hy hY w)
  have h0' := h0
  obtain ⟨hde, h1, h2, hlt⟩ := A18.chk_0 h0
  obtain ⟨hvd, hp⟩ := D10.date_valid hde
  have hr := A18.right_of hp
  obtain ⟨b1, b2⟩ := (⟨hvd.1, hvd.2.1⟩ : 1 ≤ y ∧ y ≤ 9999)
  rw [h0] at HC
  have HV := Lib.hid (fun w => ref3_Is Y w (by omega) (by omega))
  have HI := Lib.hid (fun w => ref15_Into Y n false 0 w hY)
  obtain ⟨hi0, hq, _⟩ := A18.into_0 h1 h2 hr
  rw [hi0] at HI
  obtain ⟨_, _, d1, d2, _⟩ := A18.bir_ok h0
  have hm := D10.place_in _ _ _ hq
  obtain ⟨hv, hD⟩ := A18.bir_there h0
  have hb := D10.len_bd Y (A18.m0 Y n false) h1 h2 hm.1 hm.2.1
  have v1 : D10.Valid Y (A18.m0 Y n false) 1 := ⟨h1, h2, hm.1, hm.2.1, by omega, by omega⟩
  obtain ⟨q0, qD⟩ := D10.valid_date v1
  rw [show Cal.ofN (Cal.leap Y) (A18.m0 Y n false) = S15.intoN Y n false 0 from hm.2.2.1, show Cal.ofL (Cal.leap Y) (A18.m0 Y n false) = S15.intoL Y n false 0 from hm.2.2.2] at q0 qD
  rw [← qD] at hD
  have HN := Lib.hid (fun w => ref18_on Y (S15.intoN Y n false 0) (S15.intoL Y n false 0) 30 (A18.cM Y (A18.m0 Y n false) 30) (A18.cD Y (A18.m0 Y n false) 30) hY w q0 ⟨d1, d2⟩ hv hD.symm)
  rw [← show A18.bN y n false 30 Y = Cal.ofN (Cal.leap Y) (A18.cM Y (A18.m0 Y n false) 30) by unfold A18.bN; rw [if_pos h0], ← show A18.bL y n false 30 Y = Cal.ofL (Cal.leap Y) (A18.cM Y (A18.m0 Y n false) 30) by unfold A18.bL; rw [if_pos h0], ← show A18.bD y n false 30 Y = A18.cD Y (A18.m0 Y n false) 30 by unfold A18.bD; rw [if_pos h0]] at HN
  have hyY : A18.bY y n false 30 Y = Y := by unfold A18.bY; rw [if_pos h0]
  rw [hyY]
  clear hv hD hm hb v1 q0 qD hyY
  clear hq hi0
  have y1 := hy.1
  clear hde hvd hp h0 h0' hr
  generalize A18.bN y n false 30 Y = rn at *
  generalize A18.bL y n false 30 Y = rl at *
  generalize A18.bD y n false 30 Y = rd at *
  generalize S15.intoN Y n false 0 = n1 at *
  generalize S15.intoL Y n false 0 = l1 at *
  try generalize Cal.leap y = wl at *
  try generalize Cal.leap Y = il at *
  go_enter Tryd.func28, Tryd.ntmps28
  go_wp2_with fail
  refine (HC.out _).mono ?_
  rintro e w1 ⟨rfl, hb1⟩
  obtain ⟨hc1, hf1⟩ := bcell hb1
  have hz1 := hb1.size
  try simp at hz1
  have hs1x0 : w.heap.size < w1.heap.size := by omega
  have hs1x1 : (w.heap.size + 1) < w1.heap.size := by omega
  have g1x0 : w1.cell? ⟨w.heap.size, 0, none⟩ = some (.int .i64 y) := (hc1 _ _ (by first | omega | (simp; done) | (simp; omega))).trans (by first | (with_reducible assumption) | (simp [go_sem]; done) | (simp [go_sem, *]; done) | assumption)
  have g1x1 : w1.cell? ⟨w.heap.size, 1, none⟩ = some (.int .i64 n) := (hc1 _ _ (by first | omega | (simp; done) | (simp; omega))).trans (by first | (with_reducible assumption) | (simp [go_sem]; done) | (simp [go_sem, *]; done) | assumption)
  have g1x2 : w1.cell? ⟨w.heap.size, 2, none⟩ = some (.bool false) := (hc1 _ _ (by first | omega | (simp; done) | (simp; omega))).trans (by first | (with_reducible assumption) | (simp [go_sem]; done) | (simp [go_sem, *]; done) | assumption)
  have g1x3 : w1.cell? ⟨w.heap.size, 3, none⟩ = some (.int .i64 30) := (hc1 _ _ (by first | omega | (simp; done) | (simp; omega))).trans (by first | (with_reducible assumption) | (simp [go_sem]; done) | (simp [go_sem, *]; done) | assumption)
  have g1x4 : w1.cell? ⟨(w.heap.size + 1), 0, none⟩ = some (.int .i64 0) := (hc1 _ _ (by first | omega | (simp; done) | (simp; omega))).trans (by first | (with_reducible assumption) | (simp [go_sem]; done) | (simp [go_sem, *]; done) | assumption)
  have g1x5 : w1.cell? ⟨(w.heap.size + 1), 1, none⟩ = some (.int .i64 0) := (hc1 _ _ (by first | omega | (simp; done) | (simp; omega))).trans (by first | (with_reducible assumption) | (simp [go_sem]; done) | (simp [go_sem, *]; done) | assumption)
  have g1x6 : w1.cell? ⟨(w.heap.size + 1), 2, none⟩ = some (.bool false) := (hc1 _ _ (by first | omega | (simp; done) | (simp; omega))).trans (by first | (with_reducible assumption) | (simp [go_sem]; done) | (simp [go_sem, *]; done) | assumption)
  have g1x7 : w1.cell? ⟨(w.heap.size + 1), 3, none⟩ = some (.int .i64 0) := (hc1 _ _ (by first | omega | (simp; done) | (simp; omega))).trans (by first | (with_reducible assumption) | (simp [go_sem]; done) | (simp [go_sem, *]; done) | assumption)
  go_wp2_with fail
  refine settle (fun W => R18 w W y n false 30) ⟨by with_reducible assumption, by with_reducible assumption, by with_reducible assumption, by with_reducible assumption, by with_reducible assumption, by with_reducible assumption, by with_reducible assumption, by with_reducible assumption, (hf1 _ _ (by first | omega | (simp; done) | (simp; omega))).trans (by simp [go_sem]), (hf1 _ _ (by first | omega | (simp; done) | (simp; omega))).trans (by simp [go_sem]), (hf1 _ _ (by first | omega | (simp; done) | (simp; omega))).trans (by simp [go_sem]), (hf1 _ _ (by first | omega | (simp; done) | (simp; omega))).trans (by simp [go_sem]), by first | omega | (simp; omega), ?_⟩ ?_
  · repeat (first | (with_reducible exact Below.refl _ _) | (with_reducible assumption) | (with_reducible refine bdrew ?_) | (with_reducible refine baa ?_ _) | (with_reducible refine bs ?_ (by first | exact Nat.le_refl _ | omega | (simp; done) | (simp; omega)) _) | (with_reducible refine bt ?_ (by with_reducible assumption)))
  rintro W2 hR2
  clear hb1 hc1 hf1 hz1 g1x0 g1x1 g1x2 g1x3 g1x4 g1x5 g1x6 g1x7 hs1x0 hs1x1
  have hq := hR2
  obtain ⟨a0, a1, a2, a3, b0, b1, b2, b3, f0, f1, f2, f3, hs, hBB⟩ := hq
  have hs0 := Nat.lt_of_succ_lt hs
  go_loopw [7] (fun i wr => ∃ k : Int, (k = 2 ∨ k = 3 ∨ k = 4) ∧ i = .int .i64 k ∧ R18 w wr y n false 30) (fun i _ => (4 - intOf i).toNat)
  case atStart => exact ⟨2, by omega, rfl, hR2⟩
  case round =>
    clear a0 a1 a2 a3 b0 b1 b2 b3 f0 f1 f2 f3 hs hs0 hBB
    obtain ⟨k, hk, rfl, hRR⟩ := hrel
    have hq := hRR
    obtain ⟨a0, a1, a2, a3, b0, b1, b2, b3, f0, f1, f2, f3, hs, hBB⟩ := hq
    have hs0 := Nat.lt_of_succ_lt hs
    rcases hk with rfl | rfl | rfl
    · go_wp2_with fail
      go_roundw
      case rel => exact ⟨3, by omega, rfl, hRR⟩
      case measure => simp [intOf]
    · go_wp2_with fail
      go_roundw
      case rel => exact ⟨4, by omega, rfl, hRR⟩
      case measure => simp [intOf]
    · go_wp2_with fail
      refine (HV.out _).mono ?_
      rintro e w' ⟨rfl, rfl⟩
      go_wp2_with fail
      refine (HI.out _).mono ?_
      rintro e w6 ⟨rfl, hb6⟩
      have hR6 := R18.below hRR hb6
      clear hRR
      have hRR := hR6
      clear a0 a1 a2 a3 b0 b1 b2 b3 f0 f1 f2 f3 hs hs0 hBB
      have hq := hR6
      obtain ⟨a0, a1, a2, a3, b0, b1, b2, b3, f0, f1, f2, f3, hs, hBB⟩ := hq
      have hs0 := Nat.lt_of_succ_lt hs
      go_wp2_with fail
      refine (HN.out _).mono ?_
      rintro e w7 ⟨rfl, hb7⟩
      obtain ⟨hc7, hf7⟩ := bcell hb7
      have hz7 := hb7.size
      try simp at hz7
      have g7x0 : w7.cell? ⟨w.heap.size + 1, 0, none⟩ = some (.int .i64 0) := (hc7 _ _ (by first | omega | (simp; done) | (simp; omega))).trans (by first | (with_reducible assumption) | (simp [go_sem, *]; done))
      have z7x0 : w7.frozen? ⟨w.heap.size + 1, 0, none⟩ = false := (hf7 _ _ (by first | omega | (simp; done) | (simp; omega))).trans (by first | (with_reducible assumption) | (simp [go_sem, *]; done))
      have g7x1 : w7.cell? ⟨w.heap.size + 1, 1, none⟩ = some (.int .i64 0) := (hc7 _ _ (by first | omega | (simp; done) | (simp; omega))).trans (by first | (with_reducible assumption) | (simp [go_sem, *]; done))
      have z7x1 : w7.frozen? ⟨w.heap.size + 1, 1, none⟩ = false := (hf7 _ _ (by first | omega | (simp; done) | (simp; omega))).trans (by first | (with_reducible assumption) | (simp [go_sem, *]; done))
      have g7x2 : w7.cell? ⟨w.heap.size + 1, 2, none⟩ = some (.bool false) := (hc7 _ _ (by first | omega | (simp; done) | (simp; omega))).trans (by first | (with_reducible assumption) | (simp [go_sem, *]; done))
      have z7x2 : w7.frozen? ⟨w.heap.size + 1, 2, none⟩ = false := (hf7 _ _ (by first | omega | (simp; done) | (simp; omega))).trans (by first | (with_reducible assumption) | (simp [go_sem, *]; done))
      have g7x3 : w7.cell? ⟨w.heap.size + 1, 3, none⟩ = some (.int .i64 0) := (hc7 _ _ (by first | omega | (simp; done) | (simp; omega))).trans (by first | (with_reducible assumption) | (simp [go_sem, *]; done))
      have z7x3 : w7.frozen? ⟨w.heap.size + 1, 3, none⟩ = false := (hf7 _ _ (by first | omega | (simp; done) | (simp; omega))).trans (by first | (with_reducible assumption) | (simp [go_sem, *]; done))
      go_wp2_with fail
      refine bodyPost_ret (v := .tuple #[.agg #[.int .i64 (Y), .int .i64 (rn), .bool (rl), .int .i64 (rd)], .int .i64 (0)]) (by simp [results, Tryd.results28, go_sem, *]) rfl ⟨rfl, ?_⟩
      repeat (first | (with_reducible exact Below.refl _ _) | (with_reducible assumption) | (with_reducible refine bdrew ?_) | (with_reducible refine baa ?_ _) | (with_reducible refine bs ?_ (by first | exact Nat.le_refl _ | omega | (simp; done) | (simp; omega)) _) | (with_reducible refine bt ?_ (by with_reducible assumption)))
set_option maxHeartbeats 4000000 in
theorem ref18_Death_k3 (y : Int) (d Y : Int) (hy : I64 y) (hd : I64 d) (hY : I64 Y) (w : World) (h0 : A18.chkE y 6 false d Y = 0) (d30 : (d == 30) = false) (hw : Cal.leap y = false) (hi : Cal.leap Y = true) :
    Calls Tryd.prog 28 #[.agg #[.int .i64 (y), .int .i64 (6), .bool (false), .int .i64 (d)], .int .i64 Y] w fun e w' => e = .returned (.tuple #[.agg #[.int .i64 (Y), .int .i64 (Cal.ofN (Cal.leap Y) (A18.cM Y 6 d)), .bool (Cal.ofL (Cal.leap Y) (A18.cM Y 6 d)), .int .i64 (A18.cD Y 6 d)], .int .i64 (0)]) ∧ Below w.heap.size w w' := by
  have HC := Lib.hid (fun w => ref18_check y 6 false d Y hy hY w)
  have h0' := h0
  obtain ⟨hde, h1, h2, hlt⟩ := A18.chk_0 h0
  obtain ⟨hvd, hp⟩ := D10.date_valid hde
  have hr := A18.right_of hp
  obtain ⟨b1, b2⟩ := (⟨hvd.1, hvd.2.1⟩ : 1 ≤ y ∧ y ≤ 9999)
  rw [h0] at HC
  have HV := Lib.hid (fun w => ref3_Is Y w (by omega) (by omega))
  have HW := Lib.hid (fun w => ref3_Is y w (by omega) (by omega))
  have HI := Lib.hid (fun w => ref15_Into Y 6 false 0 w hY)
  obtain ⟨hi0, hq, _⟩ := A18.into_0 h1 h2 hr
  rw [hi0] at HI
  obtain ⟨_, _, d1, d2, _⟩ := A18.bir_ok h0
  have hk : A18.k3 y 6 Y = true := by unfold A18.k3; simp [hw, hi]
  obtain ⟨_, hv, hD⟩ := A18.six_there h0 hk
  have hb := D10.len_bd Y 6 h1 h2 (by omega) (by rw [hi]; decide)
  have v1 : D10.Valid Y 6 1 := ⟨h1, h2, by omega, by rw [hi]; decide, by omega, by omega⟩
  obtain ⟨q0, qD⟩ := D10.valid_date v1
  rw [hi, show Cal.ofN true 6 = 5 by decide, show Cal.ofL true 6 = true by decide] at q0 qD
  rw [← qD] at hD
  have HN := Lib.hid (fun w => ref18_on Y 5 true d (A18.cM Y 6 d) (A18.cD Y 6 d) hY w q0 ⟨d1, d2⟩ hv hD.symm)
  clear hk hv hD hb v1 q0 qD
  clear hq hi0
  have y1 := hy.1
  clear hde hvd hp h0 h0' hr
  rw [hi] at HV
  rw [hw] at HW
  generalize Cal.ofN (Cal.leap Y) (A18.cM Y 6 d) = rn at *
  generalize Cal.ofL (Cal.leap Y) (A18.cM Y 6 d) = rl at *
  generalize A18.cD Y 6 d = rd at *
  generalize S15.intoN Y 6 false 0 = n1 at *
  generalize S15.intoL Y 6 false 0 = l1 at *
  clear hi
  clear hw
  try generalize Cal.leap y = wl at *
  try generalize Cal.leap Y = il at *
  go_enter Tryd.func28, Tryd.ntmps28
  go_wp2_with fail
  refine (HC.out _).mono ?_
  rintro e w1 ⟨rfl, hb1⟩
  obtain ⟨hc1, hf1⟩ := bcell hb1
  have hz1 := hb1.size
  try simp at hz1
  have hs1x0 : w.heap.size < w1.heap.size := by omega
  have hs1x1 : (w.heap.size + 1) < w1.heap.size := by omega
  have g1x0 : w1.cell? ⟨w.heap.size, 0, none⟩ = some (.int .i64 y) := (hc1 _ _ (by first | omega | (simp; done) | (simp; omega))).trans (by first | (with_reducible assumption) | (simp [go_sem]; done) | (simp [go_sem, *]; done) | assumption)
  have g1x1 : w1.cell? ⟨w.heap.size, 1, none⟩ = some (.int .i64 6) := (hc1 _ _ (by first | omega | (simp; done) | (simp; omega))).trans (by first | (with_reducible assumption) | (simp [go_sem]; done) | (simp [go_sem, *]; done) | assumption)
  have g1x2 : w1.cell? ⟨w.heap.size, 2, none⟩ = some (.bool false) := (hc1 _ _ (by first | omega | (simp; done) | (simp; omega))).trans (by first | (with_reducible assumption) | (simp [go_sem]; done) | (simp [go_sem, *]; done) | assumption)
  have g1x3 : w1.cell? ⟨w.heap.size, 3, none⟩ = some (.int .i64 d) := (hc1 _ _ (by first | omega | (simp; done) | (simp; omega))).trans (by first | (with_reducible assumption) | (simp [go_sem]; done) | (simp [go_sem, *]; done) | assumption)
  have g1x4 : w1.cell? ⟨(w.heap.size + 1), 0, none⟩ = some (.int .i64 0) := (hc1 _ _ (by first | omega | (simp; done) | (simp; omega))).trans (by first | (with_reducible assumption) | (simp [go_sem]; done) | (simp [go_sem, *]; done) | assumption)
  have g1x5 : w1.cell? ⟨(w.heap.size + 1), 1, none⟩ = some (.int .i64 0) := (hc1 _ _ (by first | omega | (simp; done) | (simp; omega))).trans (by first | (with_reducible assumption) | (simp [go_sem]; done) | (simp [go_sem, *]; done) | assumption)
  have g1x6 : w1.cell? ⟨(w.heap.size + 1), 2, none⟩ = some (.bool false) := (hc1 _ _ (by first | omega | (simp; done) | (simp; omega))).trans (by first | (with_reducible assumption) | (simp [go_sem]; done) | (simp [go_sem, *]; done) | assumption)
  have g1x7 : w1.cell? ⟨(w.heap.size + 1), 3, none⟩ = some (.int .i64 0) := (hc1 _ _ (by first | omega | (simp; done) | (simp; omega))).trans (by first | (with_reducible assumption) | (simp [go_sem]; done) | (simp [go_sem, *]; done) | assumption)
  go_wp2_with fail
  refine settle (fun W => R18 w W y 6 false d) ⟨by with_reducible assumption, by with_reducible assumption, by with_reducible assumption, by with_reducible assumption, by with_reducible assumption, by with_reducible assumption, by with_reducible assumption, by with_reducible assumption, (hf1 _ _ (by first | omega | (simp; done) | (simp; omega))).trans (by simp [go_sem]), (hf1 _ _ (by first | omega | (simp; done) | (simp; omega))).trans (by simp [go_sem]), (hf1 _ _ (by first | omega | (simp; done) | (simp; omega))).trans (by simp [go_sem]), (hf1 _ _ (by first | omega | (simp; done) | (simp; omega))).trans (by simp [go_sem]), by first | omega | (simp; omega), ?_⟩ ?_
  · repeat (first | (with_reducible exact Below.refl _ _) | (with_reducible assumption) | (with_reducible refine bdrew ?_) | (with_reducible refine baa ?_ _) | (with_reducible refine bs ?_ (by first | exact Nat.le_refl _ | omega | (simp; done) | (simp; omega)) _) | (with_reducible refine bt ?_ (by with_reducible assumption)))
  rintro W2 hR2
  clear hb1 hc1 hf1 hz1 g1x0 g1x1 g1x2 g1x3 g1x4 g1x5 g1x6 g1x7 hs1x0 hs1x1
  have hq := hR2
  obtain ⟨a0, a1, a2, a3, b0, b1, b2, b3, f0, f1, f2, f3, hs, hBB⟩ := hq
  have hs0 := Nat.lt_of_succ_lt hs
  go_loopw [7] (fun i wr => ∃ k : Int, (k = 2 ∨ k = 3 ∨ k = 4) ∧ i = .int .i64 k ∧ R18 w wr y 6 false d) (fun i _ => (4 - intOf i).toNat)
  case atStart => exact ⟨2, by omega, rfl, hR2⟩
  case round =>
    clear a0 a1 a2 a3 b0 b1 b2 b3 f0 f1 f2 f3 hs hs0 hBB
    obtain ⟨k, hk, rfl, hRR⟩ := hrel
    have hq := hRR
    obtain ⟨a0, a1, a2, a3, b0, b1, b2, b3, f0, f1, f2, f3, hs, hBB⟩ := hq
    have hs0 := Nat.lt_of_succ_lt hs
    rcases hk with rfl | rfl | rfl
    · go_wp2_with fail
      go_roundw
      case rel => exact ⟨3, by omega, rfl, hRR⟩
      case measure => simp [intOf]
    · go_wp2_with fail
      go_roundw
      case rel => exact ⟨4, by omega, rfl, hRR⟩
      case measure => simp [intOf]
    · go_wp2_with fail
      refine (HV.out _).mono ?_
      rintro e w' ⟨rfl, rfl⟩
      go_wp2_with fail
      refine (HI.out _).mono ?_
      rintro e w6 ⟨rfl, hb6⟩
      have hR6 := R18.below hRR hb6
      clear hRR
      have hRR := hR6
      clear a0 a1 a2 a3 b0 b1 b2 b3 f0 f1 f2 f3 hs hs0 hBB
      have hq := hR6
      obtain ⟨a0, a1, a2, a3, b0, b1, b2, b3, f0, f1, f2, f3, hs, hBB⟩ := hq
      have hs0 := Nat.lt_of_succ_lt hs
      go_wp2_with fail
      refine (HW.out _).mono ?_
      rintro e w' ⟨rfl, rfl⟩
      go_wp2_with fail
      refine (HN.out _).mono ?_
      rintro e w7 ⟨rfl, hb7⟩
      obtain ⟨hc7, hf7⟩ := bcell hb7
      have hz7 := hb7.size
      try simp at hz7
      have g7x0 : w7.cell? ⟨w.heap.size + 1, 0, none⟩ = some (.int .i64 0) := (hc7 _ _ (by first | omega | (simp; done) | (simp; omega))).trans (by first | (with_reducible assumption) | (simp [go_sem, *]; done))
      have z7x0 : w7.frozen? ⟨w.heap.size + 1, 0, none⟩ = false := (hf7 _ _ (by first | omega | (simp; done) | (simp; omega))).trans (by first | (with_reducible assumption) | (simp [go_sem, *]; done))
      have g7x1 : w7.cell? ⟨w.heap.size + 1, 1, none⟩ = some (.int .i64 0) := (hc7 _ _ (by first | omega | (simp; done) | (simp; omega))).trans (by first | (with_reducible assumption) | (simp [go_sem, *]; done))
      have z7x1 : w7.frozen? ⟨w.heap.size + 1, 1, none⟩ = false := (hf7 _ _ (by first | omega | (simp; done) | (simp; omega))).trans (by first | (with_reducible assumption) | (simp [go_sem, *]; done))
      have g7x2 : w7.cell? ⟨w.heap.size + 1, 2, none⟩ = some (.bool false) := (hc7 _ _ (by first | omega | (simp; done) | (simp; omega))).trans (by first | (with_reducible assumption) | (simp [go_sem, *]; done))
      have z7x2 : w7.frozen? ⟨w.heap.size + 1, 2, none⟩ = false := (hf7 _ _ (by first | omega | (simp; done) | (simp; omega))).trans (by first | (with_reducible assumption) | (simp [go_sem, *]; done))
      have g7x3 : w7.cell? ⟨w.heap.size + 1, 3, none⟩ = some (.int .i64 0) := (hc7 _ _ (by first | omega | (simp; done) | (simp; omega))).trans (by first | (with_reducible assumption) | (simp [go_sem, *]; done))
      have z7x3 : w7.frozen? ⟨w.heap.size + 1, 3, none⟩ = false := (hf7 _ _ (by first | omega | (simp; done) | (simp; omega))).trans (by first | (with_reducible assumption) | (simp [go_sem, *]; done))
      go_wp2_with fail
      refine bodyPost_ret (v := .tuple #[.agg #[.int .i64 (Y), .int .i64 (rn), .bool (rl), .int .i64 (rd)], .int .i64 (0)]) (by simp [results, Tryd.results28, go_sem, *]) rfl ⟨rfl, ?_⟩
      repeat (first | (with_reducible exact Below.refl _ _) | (with_reducible assumption) | (with_reducible refine bdrew ?_) | (with_reducible refine baa ?_ _) | (with_reducible refine bs ?_ (by first | exact Nat.le_refl _ | omega | (simp; done) | (simp; omega)) _) | (with_reducible refine bt ?_ (by with_reducible assumption)))
set_option maxHeartbeats 4000000 in
theorem ref18_Death_6w (y : Int) (d Y : Int) (hy : I64 y) (hd : I64 d) (hY : I64 Y) (w : World) (h0 : A18.chkE y 6 false d Y = 0) (d30 : (d == 30) = false) (hw : Cal.leap y = true) :
    Calls Tryd.prog 28 #[.agg #[.int .i64 (y), .int .i64 (6), .bool (false), .int .i64 (d)], .int .i64 Y] w fun e w' => e = .returned (.tuple #[.agg #[.int .i64 (A18.bY y 6 false d Y), .int .i64 (A18.bN y 6 false d Y), .bool (A18.bL y 6 false d Y), .int .i64 (A18.bD y 6 false d Y)], .int .i64 (0)]) ∧ Below w.heap.size w w' := by
  have HC := Lib.hid (fun w => ref18_check y 6 false d Y hy hY w)
  have h0' := h0
  obtain ⟨hde, h1, h2, hlt⟩ := A18.chk_0 h0
  obtain ⟨hvd, hp⟩ := D10.date_valid hde
  have hr := A18.right_of hp
  obtain ⟨b1, b2⟩ := (⟨hvd.1, hvd.2.1⟩ : 1 ≤ y ∧ y ≤ 9999)
  rw [h0] at HC
  have HV := Lib.hid (fun w => ref3_Is Y w (by omega) (by omega))
  have HW := Lib.hid (fun w => ref3_Is y w (by omega) (by omega))
  have HI := Lib.hid (fun w => ref15_Into Y 6 false 0 w hY)
  obtain ⟨hi0, hq, _⟩ := A18.into_0 h1 h2 hr
  rw [hi0] at HI
  obtain ⟨_, _, d1, d2, _⟩ := A18.bir_ok h0
  have hm := D10.place_in _ _ _ hq
  obtain ⟨hv, hD⟩ := A18.bir_there h0
  have hb := D10.len_bd Y (A18.m0 Y 6 false) h1 h2 hm.1 hm.2.1
  have v1 : D10.Valid Y (A18.m0 Y 6 false) 1 := ⟨h1, h2, hm.1, hm.2.1, by omega, by omega⟩
  obtain ⟨q0, qD⟩ := D10.valid_date v1
  rw [show Cal.ofN (Cal.leap Y) (A18.m0 Y 6 false) = S15.intoN Y 6 false 0 from hm.2.2.1, show Cal.ofL (Cal.leap Y) (A18.m0 Y 6 false) = S15.intoL Y 6 false 0 from hm.2.2.2] at q0 qD
  rw [← qD] at hD
  have HN := Lib.hid (fun w => ref18_on Y (S15.intoN Y 6 false 0) (S15.intoL Y 6 false 0) d (A18.cM Y (A18.m0 Y 6 false) d) (A18.cD Y (A18.m0 Y 6 false) d) hY w q0 ⟨d1, d2⟩ hv hD.symm)
  rw [← show A18.bN y 6 false d Y = Cal.ofN (Cal.leap Y) (A18.cM Y (A18.m0 Y 6 false) d) by unfold A18.bN; rw [if_pos h0], ← show A18.bL y 6 false d Y = Cal.ofL (Cal.leap Y) (A18.cM Y (A18.m0 Y 6 false) d) by unfold A18.bL; rw [if_pos h0], ← show A18.bD y 6 false d Y = A18.cD Y (A18.m0 Y 6 false) d by unfold A18.bD; rw [if_pos h0]] at HN
  have hyY : A18.bY y 6 false d Y = Y := by unfold A18.bY; rw [if_pos h0]
  rw [hyY]
  clear hv hD hm hb v1 q0 qD hyY
  clear hq hi0
  have y1 := hy.1
  clear hde hvd hp h0 h0' hr
  rw [hw] at HW
  generalize A18.bN y 6 false d Y = rn at *
  generalize A18.bL y 6 false d Y = rl at *
  generalize A18.bD y 6 false d Y = rd at *
  generalize S15.intoN Y 6 false 0 = n1 at *
  generalize S15.intoL Y 6 false 0 = l1 at *
  clear hw
  try generalize Cal.leap y = wl at *
  try generalize Cal.leap Y = il at *
  go_enter Tryd.func28, Tryd.ntmps28
  go_wp2_with fail
  refine (HC.out _).mono ?_
  rintro e w1 ⟨rfl, hb1⟩
  obtain ⟨hc1, hf1⟩ := bcell hb1
  have hz1 := hb1.size
  try simp at hz1
  have hs1x0 : w.heap.size < w1.heap.size := by omega
  have hs1x1 : (w.heap.size + 1) < w1.heap.size := by omega
  have g1x0 : w1.cell? ⟨w.heap.size, 0, none⟩ = some (.int .i64 y) := (hc1 _ _ (by first | omega | (simp; done) | (simp; omega))).trans (by first | (with_reducible assumption) | (simp [go_sem]; done) | (simp [go_sem, *]; done) | assumption)
  have g1x1 : w1.cell? ⟨w.heap.size, 1, none⟩ = some (.int .i64 6) := (hc1 _ _ (by first | omega | (simp; done) | (simp; omega))).trans (by first | (with_reducible assumption) | (simp [go_sem]; done) | (simp [go_sem, *]; done) | assumption)
  have g1x2 : w1.cell? ⟨w.heap.size, 2, none⟩ = some (.bool false) := (hc1 _ _ (by first | omega | (simp; done) | (simp; omega))).trans (by first | (with_reducible assumption) | (simp [go_sem]; done) | (simp [go_sem, *]; done) | assumption)
  have g1x3 : w1.cell? ⟨w.heap.size, 3, none⟩ = some (.int .i64 d) := (hc1 _ _ (by first | omega | (simp; done) | (simp; omega))).trans (by first | (with_reducible assumption) | (simp [go_sem]; done) | (simp [go_sem, *]; done) | assumption)
  have g1x4 : w1.cell? ⟨(w.heap.size + 1), 0, none⟩ = some (.int .i64 0) := (hc1 _ _ (by first | omega | (simp; done) | (simp; omega))).trans (by first | (with_reducible assumption) | (simp [go_sem]; done) | (simp [go_sem, *]; done) | assumption)
  have g1x5 : w1.cell? ⟨(w.heap.size + 1), 1, none⟩ = some (.int .i64 0) := (hc1 _ _ (by first | omega | (simp; done) | (simp; omega))).trans (by first | (with_reducible assumption) | (simp [go_sem]; done) | (simp [go_sem, *]; done) | assumption)
  have g1x6 : w1.cell? ⟨(w.heap.size + 1), 2, none⟩ = some (.bool false) := (hc1 _ _ (by first | omega | (simp; done) | (simp; omega))).trans (by first | (with_reducible assumption) | (simp [go_sem]; done) | (simp [go_sem, *]; done) | assumption)
  have g1x7 : w1.cell? ⟨(w.heap.size + 1), 3, none⟩ = some (.int .i64 0) := (hc1 _ _ (by first | omega | (simp; done) | (simp; omega))).trans (by first | (with_reducible assumption) | (simp [go_sem]; done) | (simp [go_sem, *]; done) | assumption)
  go_wp2_with fail
  refine settle (fun W => R18 w W y 6 false d) ⟨by with_reducible assumption, by with_reducible assumption, by with_reducible assumption, by with_reducible assumption, by with_reducible assumption, by with_reducible assumption, by with_reducible assumption, by with_reducible assumption, (hf1 _ _ (by first | omega | (simp; done) | (simp; omega))).trans (by simp [go_sem]), (hf1 _ _ (by first | omega | (simp; done) | (simp; omega))).trans (by simp [go_sem]), (hf1 _ _ (by first | omega | (simp; done) | (simp; omega))).trans (by simp [go_sem]), (hf1 _ _ (by first | omega | (simp; done) | (simp; omega))).trans (by simp [go_sem]), by first | omega | (simp; omega), ?_⟩ ?_
  · repeat (first | (with_reducible exact Below.refl _ _) | (with_reducible assumption) | (with_reducible refine bdrew ?_) | (with_reducible refine baa ?_ _) | (with_reducible refine bs ?_ (by first | exact Nat.le_refl _ | omega | (simp; done) | (simp; omega)) _) | (with_reducible refine bt ?_ (by with_reducible assumption)))
  rintro W2 hR2
  clear hb1 hc1 hf1 hz1 g1x0 g1x1 g1x2 g1x3 g1x4 g1x5 g1x6 g1x7 hs1x0 hs1x1
  have hq := hR2
  obtain ⟨a0, a1, a2, a3, b0, b1, b2, b3, f0, f1, f2, f3, hs, hBB⟩ := hq
  have hs0 := Nat.lt_of_succ_lt hs
  go_loopw [7] (fun i wr => ∃ k : Int, (k = 2 ∨ k = 3 ∨ k = 4) ∧ i = .int .i64 k ∧ R18 w wr y 6 false d) (fun i _ => (4 - intOf i).toNat)
  case atStart => exact ⟨2, by omega, rfl, hR2⟩
  case round =>
    clear a0 a1 a2 a3 b0 b1 b2 b3 f0 f1 f2 f3 hs hs0 hBB
    obtain ⟨k, hk, rfl, hRR⟩ := hrel
    have hq := hRR
    obtain ⟨a0, a1, a2, a3, b0, b1, b2, b3, f0, f1, f2, f3, hs, hBB⟩ := hq
    have hs0 := Nat.lt_of_succ_lt hs
    rcases hk with rfl | rfl | rfl
    · go_wp2_with fail
      go_roundw
      case rel => exact ⟨3, by omega, rfl, hRR⟩
      case measure => simp [intOf]
    · go_wp2_with fail
      go_roundw
      case rel => exact ⟨4, by omega, rfl, hRR⟩
      case measure => simp [intOf]
    · go_wp2_with fail
      refine (HV.out _).mono ?_
      rintro e w' ⟨rfl, rfl⟩
      go_wp2_with fail
      refine (HI.out _).mono ?_
      rintro e w6 ⟨rfl, hb6⟩
      have hR6 := R18.below hRR hb6
      clear hRR
      have hRR := hR6
      clear a0 a1 a2 a3 b0 b1 b2 b3 f0 f1 f2 f3 hs hs0 hBB
      have hq := hR6
      obtain ⟨a0, a1, a2, a3, b0, b1, b2, b3, f0, f1, f2, f3, hs, hBB⟩ := hq
      have hs0 := Nat.lt_of_succ_lt hs
      go_wp2_with fail
      refine (HW.out _).mono ?_
      rintro e w' ⟨rfl, rfl⟩
      go_wp2_with fail
      refine (HN.out _).mono ?_
      rintro e w7 ⟨rfl, hb7⟩
      obtain ⟨hc7, hf7⟩ := bcell hb7
      have hz7 := hb7.size
      try simp at hz7
      have g7x0 : w7.cell? ⟨w.heap.size + 1, 0, none⟩ = some (.int .i64 0) := (hc7 _ _ (by first | omega | (simp; done) | (simp; omega))).trans (by first | (with_reducible assumption) | (simp [go_sem, *]; done))
      have z7x0 : w7.frozen? ⟨w.heap.size + 1, 0, none⟩ = false := (hf7 _ _ (by first | omega | (simp; done) | (simp; omega))).trans (by first | (with_reducible assumption) | (simp [go_sem, *]; done))
      have g7x1 : w7.cell? ⟨w.heap.size + 1, 1, none⟩ = some (.int .i64 0) := (hc7 _ _ (by first | omega | (simp; done) | (simp; omega))).trans (by first | (with_reducible assumption) | (simp [go_sem, *]; done))
      have z7x1 : w7.frozen? ⟨w.heap.size + 1, 1, none⟩ = false := (hf7 _ _ (by first | omega | (simp; done) | (simp; omega))).trans (by first | (with_reducible assumption) | (simp [go_sem, *]; done))
      have g7x2 : w7.cell? ⟨w.heap.size + 1, 2, none⟩ = some (.bool false) := (hc7 _ _ (by first | omega | (simp; done) | (simp; omega))).trans (by first | (with_reducible assumption) | (simp [go_sem, *]; done))
      have z7x2 : w7.frozen? ⟨w.heap.size + 1, 2, none⟩ = false := (hf7 _ _ (by first | omega | (simp; done) | (simp; omega))).trans (by first | (with_reducible assumption) | (simp [go_sem, *]; done))
      have g7x3 : w7.cell? ⟨w.heap.size + 1, 3, none⟩ = some (.int .i64 0) := (hc7 _ _ (by first | omega | (simp; done) | (simp; omega))).trans (by first | (with_reducible assumption) | (simp [go_sem, *]; done))
      have z7x3 : w7.frozen? ⟨w.heap.size + 1, 3, none⟩ = false := (hf7 _ _ (by first | omega | (simp; done) | (simp; omega))).trans (by first | (with_reducible assumption) | (simp [go_sem, *]; done))
      go_wp2_with fail
      refine bodyPost_ret (v := .tuple #[.agg #[.int .i64 (Y), .int .i64 (rn), .bool (rl), .int .i64 (rd)], .int .i64 (0)]) (by simp [results, Tryd.results28, go_sem, *]) rfl ⟨rfl, ?_⟩
      repeat (first | (with_reducible exact Below.refl _ _) | (with_reducible assumption) | (with_reducible refine bdrew ?_) | (with_reducible refine baa ?_ _) | (with_reducible refine bs ?_ (by first | exact Nat.le_refl _ | omega | (simp; done) | (simp; omega)) _) | (with_reducible refine bt ?_ (by with_reducible assumption)))
set_option maxHeartbeats 4000000 in
theorem ref18_Death_6i (y : Int) (d Y : Int) (hy : I64 y) (hd : I64 d) (hY : I64 Y) (w : World) (h0 : A18.chkE y 6 false d Y = 0) (d30 : (d == 30) = false) (hw : Cal.leap y = false) (hi : Cal.leap Y = false) :
    Calls Tryd.prog 28 #[.agg #[.int .i64 (y), .int .i64 (6), .bool (false), .int .i64 (d)], .int .i64 Y] w fun e w' => e = .returned (.tuple #[.agg #[.int .i64 (A18.bY y 6 false d Y), .int .i64 (A18.bN y 6 false d Y), .bool (A18.bL y 6 false d Y), .int .i64 (A18.bD y 6 false d Y)], .int .i64 (0)]) ∧ Below w.heap.size w w' := by
  have HC := Lib.hid (fun w => ref18_check y 6 false d Y hy hY w)
  have h0' := h0
  obtain ⟨hde, h1, h2, hlt⟩ := A18.chk_0 h0
  obtain ⟨hvd, hp⟩ := D10.date_valid hde
  have hr := A18.right_of hp
  obtain ⟨b1, b2⟩ := (⟨hvd.1, hvd.2.1⟩ : 1 ≤ y ∧ y ≤ 9999)
  rw [h0] at HC
  have HV := Lib.hid (fun w => ref3_Is Y w (by omega) (by omega))
  have HW := Lib.hid (fun w => ref3_Is y w (by omega) (by omega))
  have HI := Lib.hid (fun w => ref15_Into Y 6 false 0 w hY)
  obtain ⟨hi0, hq, _⟩ := A18.into_0 h1 h2 hr
  rw [hi0] at HI
  obtain ⟨_, _, d1, d2, _⟩ := A18.bir_ok h0
  have hm := D10.place_in _ _ _ hq
  obtain ⟨hv, hD⟩ := A18.bir_there h0
  have hb := D10.len_bd Y (A18.m0 Y 6 false) h1 h2 hm.1 hm.2.1
  have v1 : D10.Valid Y (A18.m0 Y 6 false) 1 := ⟨h1, h2, hm.1, hm.2.1, by omega, by omega⟩
  obtain ⟨q0, qD⟩ := D10.valid_date v1
  rw [show Cal.ofN (Cal.leap Y) (A18.m0 Y 6 false) = S15.intoN Y 6 false 0 from hm.2.2.1, show Cal.ofL (Cal.leap Y) (A18.m0 Y 6 false) = S15.intoL Y 6 false 0 from hm.2.2.2] at q0 qD
  rw [← qD] at hD
  have HN := Lib.hid (fun w => ref18_on Y (S15.intoN Y 6 false 0) (S15.intoL Y 6 false 0) d (A18.cM Y (A18.m0 Y 6 false) d) (A18.cD Y (A18.m0 Y 6 false) d) hY w q0 ⟨d1, d2⟩ hv hD.symm)
  rw [← show A18.bN y 6 false d Y = Cal.ofN (Cal.leap Y) (A18.cM Y (A18.m0 Y 6 false) d) by unfold A18.bN; rw [if_pos h0], ← show A18.bL y 6 false d Y = Cal.ofL (Cal.leap Y) (A18.cM Y (A18.m0 Y 6 false) d) by unfold A18.bL; rw [if_pos h0], ← show A18.bD y 6 false d Y = A18.cD Y (A18.m0 Y 6 false) d by unfold A18.bD; rw [if_pos h0]] at HN
  have hyY : A18.bY y 6 false d Y = Y := by unfold A18.bY; rw [if_pos h0]
  rw [hyY]
  clear hv hD hm hb v1 q0 qD hyY
  clear hq hi0
  have y1 := hy.1
  clear hde hvd hp h0 h0' hr
  rw [hi] at HV
  rw [hw] at HW
  generalize A18.bN y 6 false d Y = rn at *
  generalize A18.bL y 6 false d Y = rl at *
  generalize A18.bD y 6 false d Y = rd at *
  generalize S15.intoN Y 6 false 0 = n1 at *
  generalize S15.intoL Y 6 false 0 = l1 at *
  clear hi
  clear hw
  try generalize Cal.leap y = wl at *
  try generalize Cal.leap Y = il at *
  go_enter Tryd.func28, Tryd.ntmps28
  go_wp2_with fail
  refine (HC.out _).mono ?_
  rintro e w1 ⟨rfl, hb1⟩
  obtain ⟨hc1, hf1⟩ := bcell hb1
  have hz1 := hb1.size
  try simp at hz1
  have hs1x0 : w.heap.size < w1.heap.size := by omega
  have hs1x1 : (w.heap.size + 1) < w1.heap.size := by omega
  have g1x0 : w1.cell? ⟨w.heap.size, 0, none⟩ = some (.int .i64 y) := (hc1 _ _ (by first | omega | (simp; done) | (simp; omega))).trans (by first | (with_reducible assumption) | (simp [go_sem]; done) | (simp [go_sem, *]; done) | assumption)
  have g1x1 : w1.cell? ⟨w.heap.size, 1, none⟩ = some (.int .i64 6) := (hc1 _ _ (by first | omega | (simp; done) | (simp; omega))).trans (by first | (with_reducible assumption) | (simp [go_sem]; done) | (simp [go_sem, *]; done) | assumption)
  have g1x2 : w1.cell? ⟨w.heap.size, 2, none⟩ = some (.bool false) := (hc1 _ _ (by first | omega | (simp; done) | (simp; omega))).trans (by first | (with_reducible assumption) | (simp [go_sem]; done) | (simp [go_sem, *]; done) | assumption)
  have g1x3 : w1.cell? ⟨w.heap.size, 3, none⟩ = some (.int .i64 d) := (hc1 _ _ (by first | omega | (simp; done) | (simp; omega))).trans (by first | (with_reducible assumption) | (simp [go_sem]; done) | (simp [go_sem, *]; done) | assumption)
  have g1x4 : w1.cell? ⟨(w.heap.size + 1), 0, none⟩ = some (.int .i64 0) := (hc1 _ _ (by first | omega | (simp; done) | (simp; omega))).trans (by first | (with_reducible assumption) | (simp [go_sem]; done) | (simp [go_sem, *]; done) | assumption)
  have g1x5 : w1.cell? ⟨(w.heap.size + 1), 1, none⟩ = some (.int .i64 0) := (hc1 _ _ (by first | omega | (simp; done) | (simp; omega))).trans (by first | (with_reducible assumption) | (simp [go_sem]; done) | (simp [go_sem, *]; done) | assumption)
  have g1x6 : w1.cell? ⟨(w.heap.size + 1), 2, none⟩ = some (.bool false) := (hc1 _ _ (by first | omega | (simp; done) | (simp; omega))).trans (by first | (with_reducible assumption) | (simp [go_sem]; done) | (simp [go_sem, *]; done) | assumption)
  have g1x7 : w1.cell? ⟨(w.heap.size + 1), 3, none⟩ = some (.int .i64 0) := (hc1 _ _ (by first | omega | (simp; done) | (simp; omega))).trans (by first | (with_reducible assumption) | (simp [go_sem]; done) | (simp [go_sem, *]; done) | assumption)
  go_wp2_with fail
  refine settle (fun W => R18 w W y 6 false d) ⟨by with_reducible assumption, by with_reducible assumption, by with_reducible assumption, by with_reducible assumption, by with_reducible assumption, by with_reducible assumption, by with_reducible assumption, by with_reducible assumption, (hf1 _ _ (by first | omega | (simp; done) | (simp; omega))).trans (by simp [go_sem]), (hf1 _ _ (by first | omega | (simp; done) | (simp; omega))).trans (by simp [go_sem]), (hf1 _ _ (by first | omega | (simp; done) | (simp; omega))).trans (by simp [go_sem]), (hf1 _ _ (by first | omega | (simp; done) | (simp; omega))).trans (by simp [go_sem]), by first | omega | (simp; omega), ?_⟩ ?_
  · repeat (first | (with_reducible exact Below.refl _ _) | (with_reducible assumption) | (with_reducible refine bdrew ?_) | (with_reducible refine baa ?_ _) | (with_reducible refine bs ?_ (by first | exact Nat.le_refl _ | omega | (simp; done) | (simp; omega)) _) | (with_reducible refine bt ?_ (by with_reducible assumption)))
  rintro W2 hR2
  clear hb1 hc1 hf1 hz1 g1x0 g1x1 g1x2 g1x3 g1x4 g1x5 g1x6 g1x7 hs1x0 hs1x1
  have hq := hR2
  obtain ⟨a0, a1, a2, a3, b0, b1, b2, b3, f0, f1, f2, f3, hs, hBB⟩ := hq
  have hs0 := Nat.lt_of_succ_lt hs
  go_loopw [7] (fun i wr => ∃ k : Int, (k = 2 ∨ k = 3 ∨ k = 4) ∧ i = .int .i64 k ∧ R18 w wr y 6 false d) (fun i _ => (4 - intOf i).toNat)
  case atStart => exact ⟨2, by omega, rfl, hR2⟩
  case round =>
    clear a0 a1 a2 a3 b0 b1 b2 b3 f0 f1 f2 f3 hs hs0 hBB
    obtain ⟨k, hk, rfl, hRR⟩ := hrel
    have hq := hRR
    obtain ⟨a0, a1, a2, a3, b0, b1, b2, b3, f0, f1, f2, f3, hs, hBB⟩ := hq
    have hs0 := Nat.lt_of_succ_lt hs
    rcases hk with rfl | rfl | rfl
    · go_wp2_with fail
      go_roundw
      case rel => exact ⟨3, by omega, rfl, hRR⟩
      case measure => simp [intOf]
    · go_wp2_with fail
      go_roundw
      case rel => exact ⟨4, by omega, rfl, hRR⟩
      case measure => simp [intOf]
    · go_wp2_with fail
      refine (HV.out _).mono ?_
      rintro e w' ⟨rfl, rfl⟩
      go_wp2_with fail
      refine (HI.out _).mono ?_
      rintro e w6 ⟨rfl, hb6⟩
      have hR6 := R18.below hRR hb6
      clear hRR
      have hRR := hR6
      clear a0 a1 a2 a3 b0 b1 b2 b3 f0 f1 f2 f3 hs hs0 hBB
      have hq := hR6
      obtain ⟨a0, a1, a2, a3, b0, b1, b2, b3, f0, f1, f2, f3, hs, hBB⟩ := hq
      have hs0 := Nat.lt_of_succ_lt hs
      go_wp2_with fail
      refine (HW.out _).mono ?_
      rintro e w' ⟨rfl, rfl⟩
      go_wp2_with fail
      refine (HN.out _).mono ?_
      rintro e w7 ⟨rfl, hb7⟩
      obtain ⟨hc7, hf7⟩ := bcell hb7
      have hz7 := hb7.size
      try simp at hz7
      have g7x0 : w7.cell? ⟨w.heap.size + 1, 0, none⟩ = some (.int .i64 0) := (hc7 _ _ (by first | omega | (simp; done) | (simp; omega))).trans (by first | (with_reducible assumption) | (simp [go_sem, *]; done))
      have z7x0 : w7.frozen? ⟨w.heap.size + 1, 0, none⟩ = false := (hf7 _ _ (by first | omega | (simp; done) | (simp; omega))).trans (by first | (with_reducible assumption) | (simp [go_sem, *]; done))
      have g7x1 : w7.cell? ⟨w.heap.size + 1, 1, none⟩ = some (.int .i64 0) := (hc7 _ _ (by first | omega | (simp; done) | (simp; omega))).trans (by first | (with_reducible assumption) | (simp [go_sem, *]; done))
      have z7x1 : w7.frozen? ⟨w.heap.size + 1, 1, none⟩ = false := (hf7 _ _ (by first | omega | (simp; done) | (simp; omega))).trans (by first | (with_reducible assumption) | (simp [go_sem, *]; done))
      have g7x2 : w7.cell? ⟨w.heap.size + 1, 2, none⟩ = some (.bool false) := (hc7 _ _ (by first | omega | (simp; done) | (simp; omega))).trans (by first | (with_reducible assumption) | (simp [go_sem, *]; done))
      have z7x2 : w7.frozen? ⟨w.heap.size + 1, 2, none⟩ = false := (hf7 _ _ (by first | omega | (simp; done) | (simp; omega))).trans (by first | (with_reducible assumption) | (simp [go_sem, *]; done))
      have g7x3 : w7.cell? ⟨w.heap.size + 1, 3, none⟩ = some (.int .i64 0) := (hc7 _ _ (by first | omega | (simp; done) | (simp; omega))).trans (by first | (with_reducible assumption) | (simp [go_sem, *]; done))
      have z7x3 : w7.frozen? ⟨w.heap.size + 1, 3, none⟩ = false := (hf7 _ _ (by first | omega | (simp; done) | (simp; omega))).trans (by first | (with_reducible assumption) | (simp [go_sem, *]; done))
      go_wp2_with fail
      refine bodyPost_ret (v := .tuple #[.agg #[.int .i64 (Y), .int .i64 (rn), .bool (rl), .int .i64 (rd)], .int .i64 (0)]) (by simp [results, Tryd.results28, go_sem, *]) rfl ⟨rfl, ?_⟩
      repeat (first | (with_reducible exact Below.refl _ _) | (with_reducible assumption) | (with_reducible refine bdrew ?_) | (with_reducible refine baa ?_ _) | (with_reducible refine bs ?_ (by first | exact Nat.le_refl _ | omega | (simp; done) | (simp; omega)) _) | (with_reducible refine bt ?_ (by with_reducible assumption)))
set_option maxHeartbeats 4000000 in
theorem ref18_Death_dpt (y n : Int) (d Y : Int) (hy : I64 y) (hd : I64 d) (hY : I64 Y) (w : World) (h0 : A18.chkE y n true d Y = 0) (d30 : (d == 30) = false) (n2 : (n == 2) = false) (n3 : (n == 3) = false) (n6 : (n == 6) = false) :
    Calls Tryd.prog 28 #[.agg #[.int .i64 (y), .int .i64 (n), .bool (true), .int .i64 (d)], .int .i64 Y] w fun e w' => e = .returned (.tuple #[.agg #[.int .i64 (A18.bY y n true d Y), .int .i64 (A18.bN y n true d Y), .bool (A18.bL y n true d Y), .int .i64 (A18.bD y n true d Y)], .int .i64 (0)]) ∧ Below w.heap.size w w' := by
  have HC := Lib.hid (fun w => ref18_check y n true d Y hy hY w)
  have h0' := h0
  obtain ⟨hde, h1, h2, hlt⟩ := A18.chk_0 h0
  obtain ⟨hvd, hp⟩ := D10.date_valid hde
  have hr := A18.right_of hp
  obtain ⟨b1, b2⟩ := (⟨hvd.1, hvd.2.1⟩ : 1 ≤ y ∧ y ≤ 9999)
  rw [h0] at HC
  have HV := Lib.hid (fun w => ref3_Is Y w (by omega) (by omega))
  have HI := Lib.hid (fun w => ref15_Into Y n true 0 w hY)
  obtain ⟨hi0, hq, _⟩ := A18.into_0 h1 h2 hr
  rw [hi0] at HI
  obtain ⟨_, _, d1, d2, _⟩ := A18.bir_ok h0
  have hm := D10.place_in _ _ _ hq
  obtain ⟨hv, hD⟩ := A18.bir_there h0
  have hb := D10.len_bd Y (A18.m0 Y n true) h1 h2 hm.1 hm.2.1
  have v1 : D10.Valid Y (A18.m0 Y n true) 1 := ⟨h1, h2, hm.1, hm.2.1, by omega, by omega⟩
  obtain ⟨q0, qD⟩ := D10.valid_date v1
  rw [show Cal.ofN (Cal.leap Y) (A18.m0 Y n true) = S15.intoN Y n true 0 from hm.2.2.1, show Cal.ofL (Cal.leap Y) (A18.m0 Y n true) = S15.intoL Y n true 0 from hm.2.2.2] at q0 qD
  rw [← qD] at hD
  have HN := Lib.hid (fun w => ref18_on Y (S15.intoN Y n true 0) (S15.intoL Y n true 0) d (A18.cM Y (A18.m0 Y n true) d) (A18.cD Y (A18.m0 Y n true) d) hY w q0 ⟨d1, d2⟩ hv hD.symm)
  rw [← show A18.bN y n true d Y = Cal.ofN (Cal.leap Y) (A18.cM Y (A18.m0 Y n true) d) by unfold A18.bN; rw [if_pos h0], ← show A18.bL y n true d Y = Cal.ofL (Cal.leap Y) (A18.cM Y (A18.m0 Y n true) d) by unfold A18.bL; rw [if_pos h0], ← show A18.bD y n true d Y = A18.cD Y (A18.m0 Y n true) d by unfold A18.bD; rw [if_pos h0]] at HN
  have hyY : A18.bY y n true d Y = Y := by unfold A18.bY; rw [if_pos h0]
  rw [hyY]
  clear hv hD hm hb v1 q0 qD hyY
  clear hq hi0
  have y1 := hy.1
  clear hde hvd hp h0 h0' hr
  generalize A18.bN y n true d Y = rn at *
  generalize A18.bL y n true d Y = rl at *
  generalize A18.bD y n true d Y = rd at *
  generalize S15.intoN Y n true 0 = n1 at *
  generalize S15.intoL Y n true 0 = l1 at *
  try generalize Cal.leap y = wl at *
  try generalize Cal.leap Y = il at *
  go_enter Tryd.func28, Tryd.ntmps28
  go_wp2_with fail
  refine (HC.out _).mono ?_
  rintro e w1 ⟨rfl, hb1⟩
  obtain ⟨hc1, hf1⟩ := bcell hb1
  have hz1 := hb1.size
  try simp at hz1
  have hs1x0 : w.heap.size < w1.heap.size := by omega
  have hs1x1 : (w.heap.size + 1) < w1.heap.size := by omega
  have g1x0 : w1.cell? ⟨w.heap.size, 0, none⟩ = some (.int .i64 y) := (hc1 _ _ (by first | omega | (simp; done) | (simp; omega))).trans (by first | (with_reducible assumption) | (simp [go_sem]; done) | (simp [go_sem, *]; done) | assumption)
  have g1x1 : w1.cell? ⟨w.heap.size, 1, none⟩ = some (.int .i64 n) := (hc1 _ _ (by first | omega | (simp; done) | (simp; omega))).trans (by first | (with_reducible assumption) | (simp [go_sem]; done) | (simp [go_sem, *]; done) | assumption)
  have g1x2 : w1.cell? ⟨w.heap.size, 2, none⟩ = some (.bool true) := (hc1 _ _ (by first | omega | (simp; done) | (simp; omega))).trans (by first | (with_reducible assumption) | (simp [go_sem]; done) | (simp [go_sem, *]; done) | assumption)
  have g1x3 : w1.cell? ⟨w.heap.size, 3, none⟩ = some (.int .i64 d) := (hc1 _ _ (by first | omega | (simp; done) | (simp; omega))).trans (by first | (with_reducible assumption) | (simp [go_sem]; done) | (simp [go_sem, *]; done) | assumption)
  have g1x4 : w1.cell? ⟨(w.heap.size + 1), 0, none⟩ = some (.int .i64 0) := (hc1 _ _ (by first | omega | (simp; done) | (simp; omega))).trans (by first | (with_reducible assumption) | (simp [go_sem]; done) | (simp [go_sem, *]; done) | assumption)
  have g1x5 : w1.cell? ⟨(w.heap.size + 1), 1, none⟩ = some (.int .i64 0) := (hc1 _ _ (by first | omega | (simp; done) | (simp; omega))).trans (by first | (with_reducible assumption) | (simp [go_sem]; done) | (simp [go_sem, *]; done) | assumption)
  have g1x6 : w1.cell? ⟨(w.heap.size + 1), 2, none⟩ = some (.bool false) := (hc1 _ _ (by first | omega | (simp; done) | (simp; omega))).trans (by first | (with_reducible assumption) | (simp [go_sem]; done) | (simp [go_sem, *]; done) | assumption)
  have g1x7 : w1.cell? ⟨(w.heap.size + 1), 3, none⟩ = some (.int .i64 0) := (hc1 _ _ (by first | omega | (simp; done) | (simp; omega))).trans (by first | (with_reducible assumption) | (simp [go_sem]; done) | (simp [go_sem, *]; done) | assumption)
  go_wp2_with fail
  refine settle (fun W => R18 w W y n true d) ⟨by with_reducible assumption, by with_reducible assumption, by with_reducible assumption, by with_reducible assumption, by with_reducible assumption, by with_reducible assumption, by with_reducible assumption, by with_reducible assumption, (hf1 _ _ (by first | omega | (simp; done) | (simp; omega))).trans (by simp [go_sem]), (hf1 _ _ (by first | omega | (simp; done) | (simp; omega))).trans (by simp [go_sem]), (hf1 _ _ (by first | omega | (simp; done) | (simp; omega))).trans (by simp [go_sem]), (hf1 _ _ (by first | omega | (simp; done) | (simp; omega))).trans (by simp [go_sem]), by first | omega | (simp; omega), ?_⟩ ?_
  · repeat (first | (with_reducible exact Below.refl _ _) | (with_reducible assumption) | (with_reducible refine bdrew ?_) | (with_reducible refine baa ?_ _) | (with_reducible refine bs ?_ (by first | exact Nat.le_refl _ | omega | (simp; done) | (simp; omega)) _) | (with_reducible refine bt ?_ (by with_reducible assumption)))
  rintro W2 hR2
  clear hb1 hc1 hf1 hz1 g1x0 g1x1 g1x2 g1x3 g1x4 g1x5 g1x6 g1x7 hs1x0 hs1x1
  have hq := hR2
  obtain ⟨a0, a1, a2, a3, b0, b1, b2, b3, f0, f1, f2, f3, hs, hBB⟩ := hq
  have hs0 := Nat.lt_of_succ_lt hs
  go_loopw [7] (fun i wr => ∃ k : Int, (k = 2 ∨ k = 3 ∨ k = 4) ∧ i = .int .i64 k ∧ R18 w wr y n true d) (fun i _ => (4 - intOf i).toNat)
  case atStart => exact ⟨2, by omega, rfl, hR2⟩
  case round =>
    clear a0 a1 a2 a3 b0 b1 b2 b3 f0 f1 f2 f3 hs hs0 hBB
    obtain ⟨k, hk, rfl, hRR⟩ := hrel
    have hq := hRR
    obtain ⟨a0, a1, a2, a3, b0, b1, b2, b3, f0, f1, f2, f3, hs, hBB⟩ := hq
    have hs0 := Nat.lt_of_succ_lt hs
    rcases hk with rfl | rfl | rfl
    · go_wp2_with fail
      go_roundw
      case rel => exact ⟨3, by omega, rfl, hRR⟩
      case measure => simp [intOf]
    · go_wp2_with fail
      go_roundw
      case rel => exact ⟨4, by omega, rfl, hRR⟩
      case measure => simp [intOf]
    · go_wp2_with fail
      refine (HV.out _).mono ?_
      rintro e w' ⟨rfl, rfl⟩
      go_wp2_with fail
      refine (HI.out _).mono ?_
      rintro e w6 ⟨rfl, hb6⟩
      have hR6 := R18.below hRR hb6
      clear hRR
      have hRR := hR6
      clear a0 a1 a2 a3 b0 b1 b2 b3 f0 f1 f2 f3 hs hs0 hBB
      have hq := hR6
      obtain ⟨a0, a1, a2, a3, b0, b1, b2, b3, f0, f1, f2, f3, hs, hBB⟩ := hq
      have hs0 := Nat.lt_of_succ_lt hs
      go_wp2_with fail
      refine (HN.out _).mono ?_
      rintro e w7 ⟨rfl, hb7⟩
      obtain ⟨hc7, hf7⟩ := bcell hb7
      have hz7 := hb7.size
      try simp at hz7
      have g7x0 : w7.cell? ⟨w.heap.size + 1, 0, none⟩ = some (.int .i64 0) := (hc7 _ _ (by first | omega | (simp; done) | (simp; omega))).trans (by first | (with_reducible assumption) | (simp [go_sem, *]; done))
      have z7x0 : w7.frozen? ⟨w.heap.size + 1, 0, none⟩ = false := (hf7 _ _ (by first | omega | (simp; done) | (simp; omega))).trans (by first | (with_reducible assumption) | (simp [go_sem, *]; done))
      have g7x1 : w7.cell? ⟨w.heap.size + 1, 1, none⟩ = some (.int .i64 0) := (hc7 _ _ (by first | omega | (simp; done) | (simp; omega))).trans (by first | (with_reducible assumption) | (simp [go_sem, *]; done))
      have z7x1 : w7.frozen? ⟨w.heap.size + 1, 1, none⟩ = false := (hf7 _ _ (by first | omega | (simp; done) | (simp; omega))).trans (by first | (with_reducible assumption) | (simp [go_sem, *]; done))
      have g7x2 : w7.cell? ⟨w.heap.size + 1, 2, none⟩ = some (.bool false) := (hc7 _ _ (by first | omega | (simp; done) | (simp; omega))).trans (by first | (with_reducible assumption) | (simp [go_sem, *]; done))
      have z7x2 : w7.frozen? ⟨w.heap.size + 1, 2, none⟩ = false := (hf7 _ _ (by first | omega | (simp; done) | (simp; omega))).trans (by first | (with_reducible assumption) | (simp [go_sem, *]; done))
      have g7x3 : w7.cell? ⟨w.heap.size + 1, 3, none⟩ = some (.int .i64 0) := (hc7 _ _ (by first | omega | (simp; done) | (simp; omega))).trans (by first | (with_reducible assumption) | (simp [go_sem, *]; done))
      have z7x3 : w7.frozen? ⟨w.heap.size + 1, 3, none⟩ = false := (hf7 _ _ (by first | omega | (simp; done) | (simp; omega))).trans (by first | (with_reducible assumption) | (simp [go_sem, *]; done))
      go_wp2_with fail
      refine bodyPost_ret (v := .tuple #[.agg #[.int .i64 (Y), .int .i64 (rn), .bool (rl), .int .i64 (rd)], .int .i64 (0)]) (by simp [results, Tryd.results28, go_sem, *]) rfl ⟨rfl, ?_⟩
      repeat (first | (with_reducible exact Below.refl _ _) | (with_reducible assumption) | (with_reducible refine bdrew ?_) | (with_reducible refine baa ?_ _) | (with_reducible refine bs ?_ (by first | exact Nat.le_refl _ | omega | (simp; done) | (simp; omega)) _) | (with_reducible refine bt ?_ (by with_reducible assumption)))
set_option maxHeartbeats 4000000 in
theorem ref18_Death_dpf (y n : Int) (d Y : Int) (hy : I64 y) (hd : I64 d) (hY : I64 Y) (w : World) (h0 : A18.chkE y n false d Y = 0) (d30 : (d == 30) = false) (n2 : (n == 2) = false) (n3 : (n == 3) = false) (n6 : (n == 6) = false) :
    Calls Tryd.prog 28 #[.agg #[.int .i64 (y), .int .i64 (n), .bool (false), .int .i64 (d)], .int .i64 Y] w fun e w' => e = .returned (.tuple #[.agg #[.int .i64 (A18.bY y n false d Y), .int .i64 (A18.bN y n false d Y), .bool (A18.bL y n false d Y), .int .i64 (A18.bD y n false d Y)], .int .i64 (0)]) ∧ Below w.heap.size w w' := by
  have HC := Lib.hid (fun w => ref18_check y n false d Y hy hY w)
  have h0' := h0
  obtain ⟨hde, h1, h2, hlt⟩ := A18.chk_0 h0
  obtain ⟨hvd, hp⟩ := D10.date_valid hde
  have hr := A18.right_of hp
  obtain ⟨b1, b2⟩ := (⟨hvd.1, hvd.2.1⟩ : 1 ≤ y ∧ y ≤ 9999)
  rw [h0] at HC
  have HV := Lib.hid (fun w => ref3_Is Y w (by omega) (by omega))
  have HI := Lib.hid (fun w => ref15_Into Y n false 0 w hY)
  obtain ⟨hi0, hq, _⟩ := A18.into_0 h1 h2 hr
  rw [hi0] at HI
  obtain ⟨_, _, d1, d2, _⟩ := A18.bir_ok h0
  have hm := D10.place_in _ _ _ hq
  obtain ⟨hv, hD⟩ := A18.bir_there h0
  have hb := D10.len_bd Y (A18.m0 Y n false) h1 h2 hm.1 hm.2.1
  have v1 : D10.Valid Y (A18.m0 Y n false) 1 := ⟨h1, h2, hm.1, hm.2.1, by omega, by omega⟩
  obtain ⟨q0, qD⟩ := D10.valid_date v1
  rw [show Cal.ofN (Cal.leap Y) (A18.m0 Y n false) = S15.intoN Y n false 0 from hm.2.2.1, show Cal.ofL (Cal.leap Y) (A18.m0 Y n false) = S15.intoL Y n false 0 from hm.2.2.2] at q0 qD
  rw [← qD] at hD
  have HN := Lib.hid (fun w => ref18_on Y (S15.intoN Y n false 0) (S15.intoL Y n false 0) d (A18.cM Y (A18.m0 Y n false) d) (A18.cD Y (A18.m0 Y n false) d) hY w q0 ⟨d1, d2⟩ hv hD.symm)
  rw [← show A18.bN y n false d Y = Cal.ofN (Cal.leap Y) (A18.cM Y (A18.m0 Y n false) d) by unfold A18.bN; rw [if_pos h0], ← show A18.bL y n false d Y = Cal.ofL (Cal.leap Y) (A18.cM Y (A18.m0 Y n false) d) by unfold A18.bL; rw [if_pos h0], ← show A18.bD y n false d Y = A18.cD Y (A18.m0 Y n false) d by unfold A18.bD; rw [if_pos h0]] at HN
  have hyY : A18.bY y n false d Y = Y := by unfold A18.bY; rw [if_pos h0]
  rw [hyY]
  clear hv hD hm hb v1 q0 qD hyY
  clear hq hi0
  have y1 := hy.1
  clear hde hvd hp h0 h0' hr
  generalize A18.bN y n false d Y = rn at *
  generalize A18.bL y n false d Y = rl at *
  generalize A18.bD y n false d Y = rd at *
  generalize S15.intoN Y n false 0 = n1 at *
  generalize S15.intoL Y n false 0 = l1 at *
  try generalize Cal.leap y = wl at *
  try generalize Cal.leap Y = il at *
  go_enter Tryd.func28, Tryd.ntmps28
  go_wp2_with fail
  refine (HC.out _).mono ?_
  rintro e w1 ⟨rfl, hb1⟩
  obtain ⟨hc1, hf1⟩ := bcell hb1
  have hz1 := hb1.size
  try simp at hz1
  have hs1x0 : w.heap.size < w1.heap.size := by omega
  have hs1x1 : (w.heap.size + 1) < w1.heap.size := by omega
  have g1x0 : w1.cell? ⟨w.heap.size, 0, none⟩ = some (.int .i64 y) := (hc1 _ _ (by first | omega | (simp; done) | (simp; omega))).trans (by first | (with_reducible assumption) | (simp [go_sem]; done) | (simp [go_sem, *]; done) | assumption)
  have g1x1 : w1.cell? ⟨w.heap.size, 1, none⟩ = some (.int .i64 n) := (hc1 _ _ (by first | omega | (simp; done) | (simp; omega))).trans (by first | (with_reducible assumption) | (simp [go_sem]; done) | (simp [go_sem, *]; done) | assumption)
  have g1x2 : w1.cell? ⟨w.heap.size, 2, none⟩ = some (.bool false) := (hc1 _ _ (by first | omega | (simp; done) | (simp; omega))).trans (by first | (with_reducible assumption) | (simp [go_sem]; done) | (simp [go_sem, *]; done) | assumption)
  have g1x3 : w1.cell? ⟨w.heap.size, 3, none⟩ = some (.int .i64 d) := (hc1 _ _ (by first | omega | (simp; done) | (simp; omega))).trans (by first | (with_reducible assumption) | (simp [go_sem]; done) | (simp [go_sem, *]; done) | assumption)
  have g1x4 : w1.cell? ⟨(w.heap.size + 1), 0, none⟩ = some (.int .i64 0) := (hc1 _ _ (by first | omega | (simp; done) | (simp; omega))).trans (by first | (with_reducible assumption) | (simp [go_sem]; done) | (simp [go_sem, *]; done) | assumption)
  have g1x5 : w1.cell? ⟨(w.heap.size + 1), 1, none⟩ = some (.int .i64 0) := (hc1 _ _ (by first | omega | (simp; done) | (simp; omega))).trans (by first | (with_reducible assumption) | (simp [go_sem]; done) | (simp [go_sem, *]; done) | assumption)
  have g1x6 : w1.cell? ⟨(w.heap.size + 1), 2, none⟩ = some (.bool false) := (hc1 _ _ (by first | omega | (simp; done) | (simp; omega))).trans (by first | (with_reducible assumption) | (simp [go_sem]; done) | (simp [go_sem, *]; done) | assumption)
  have g1x7 : w1.cell? ⟨(w.heap.size + 1), 3, none⟩ = some (.int .i64 0) := (hc1 _ _ (by first | omega | (simp; done) | (simp; omega))).trans (by first | (with_reducible assumption) | (simp [go_sem]; done) | (simp [go_sem, *]; done) | assumption)
  go_wp2_with fail
  refine settle (fun W => R18 w W y n false d) ⟨by with_reducible assumption, by with_reducible assumption, by with_reducible assumption, by with_reducible assumption, by with_reducible assumption, by with_reducible assumption, by with_reducible assumption, by with_reducible assumption, (hf1 _ _ (by first | omega | (simp; done) | (simp; omega))).trans (by simp [go_sem]), (hf1 _ _ (by first | omega | (simp; done) | (simp; omega))).trans (by simp [go_sem]), (hf1 _ _ (by first | omega | (simp; done) | (simp; omega))).trans (by simp [go_sem]), (hf1 _ _ (by first | omega | (simp; done) | (simp; omega))).trans (by simp [go_sem]), by first | omega | (simp; omega), ?_⟩ ?_
  · repeat (first | (with_reducible exact Below.refl _ _) | (with_reducible assumption) | (with_reducible refine bdrew ?_) | (with_reducible refine baa ?_ _) | (with_reducible refine bs ?_ (by first | exact Nat.le_refl _ | omega | (simp; done) | (simp; omega)) _) | (with_reducible refine bt ?_ (by with_reducible assumption)))
  rintro W2 hR2
  clear hb1 hc1 hf1 hz1 g1x0 g1x1 g1x2 g1x3 g1x4 g1x5 g1x6 g1x7 hs1x0 hs1x1
  have hq := hR2
  obtain ⟨a0, a1, a2, a3, b0, b1, b2, b3, f0, f1, f2, f3, hs, hBB⟩ := hq
  have hs0 := Nat.lt_of_succ_lt hs
  go_loopw [7] (fun i wr => ∃ k : Int, (k = 2 ∨ k = 3 ∨ k = 4) ∧ i = .int .i64 k ∧ R18 w wr y n false d) (fun i _ => (4 - intOf i).toNat)
  case atStart => exact ⟨2, by omega, rfl, hR2⟩
  case round =>
    clear a0 a1 a2 a3 b0 b1 b2 b3 f0 f1 f2 f3 hs hs0 hBB
    obtain ⟨k, hk, rfl, hRR⟩ := hrel
    have hq := hRR
    obtain ⟨a0, a1, a2, a3, b0, b1, b2, b3, f0, f1, f2, f3, hs, hBB⟩ := hq
    have hs0 := Nat.lt_of_succ_lt hs
    rcases hk with rfl | rfl | rfl
    · go_wp2_with fail
      go_roundw
      case rel => exact ⟨3, by omega, rfl, hRR⟩
      case measure => simp [intOf]
    · go_wp2_with fail
      go_roundw
      case rel => exact ⟨4, by omega, rfl, hRR⟩
      case measure => simp [intOf]
    · go_wp2_with fail
      refine (HV.out _).mono ?_
      rintro e w' ⟨rfl, rfl⟩
      go_wp2_with fail
      refine (HI.out _).mono ?_
      rintro e w6 ⟨rfl, hb6⟩
      have hR6 := R18.below hRR hb6
      clear hRR
      have hRR := hR6
      clear a0 a1 a2 a3 b0 b1 b2 b3 f0 f1 f2 f3 hs hs0 hBB
      have hq := hR6
      obtain ⟨a0, a1, a2, a3, b0, b1, b2, b3, f0, f1, f2, f3, hs, hBB⟩ := hq
      have hs0 := Nat.lt_of_succ_lt hs
      go_wp2_with fail
      refine (HN.out _).mono ?_
      rintro e w7 ⟨rfl, hb7⟩
      obtain ⟨hc7, hf7⟩ := bcell hb7
      have hz7 := hb7.size
      try simp at hz7
      have g7x0 : w7.cell? ⟨w.heap.size + 1, 0, none⟩ = some (.int .i64 0) := (hc7 _ _ (by first | omega | (simp; done) | (simp; omega))).trans (by first | (with_reducible assumption) | (simp [go_sem, *]; done))
      have z7x0 : w7.frozen? ⟨w.heap.size + 1, 0, none⟩ = false := (hf7 _ _ (by first | omega | (simp; done) | (simp; omega))).trans (by first | (with_reducible assumption) | (simp [go_sem, *]; done))
      have g7x1 : w7.cell? ⟨w.heap.size + 1, 1, none⟩ = some (.int .i64 0) := (hc7 _ _ (by first | omega | (simp; done) | (simp; omega))).trans (by first | (with_reducible assumption) | (simp [go_sem, *]; done))
      have z7x1 : w7.frozen? ⟨w.heap.size + 1, 1, none⟩ = false := (hf7 _ _ (by first | omega | (simp; done) | (simp; omega))).trans (by first | (with_reducible assumption) | (simp [go_sem, *]; done))
      have g7x2 : w7.cell? ⟨w.heap.size + 1, 2, none⟩ = some (.bool false) := (hc7 _ _ (by first | omega | (simp; done) | (simp; omega))).trans (by first | (with_reducible assumption) | (simp [go_sem, *]; done))
      have z7x2 : w7.frozen? ⟨w.heap.size + 1, 2, none⟩ = false := (hf7 _ _ (by first | omega | (simp; done) | (simp; omega))).trans (by first | (with_reducible assumption) | (simp [go_sem, *]; done))
      have g7x3 : w7.cell? ⟨w.heap.size + 1, 3, none⟩ = some (.int .i64 0) := (hc7 _ _ (by first | omega | (simp; done) | (simp; omega))).trans (by first | (with_reducible assumption) | (simp [go_sem, *]; done))
      have z7x3 : w7.frozen? ⟨w.heap.size + 1, 3, none⟩ = false := (hf7 _ _ (by first | omega | (simp; done) | (simp; omega))).trans (by first | (with_reducible assumption) | (simp [go_sem, *]; done))
      go_wp2_with fail
      refine bodyPost_ret (v := .tuple #[.agg #[.int .i64 (Y), .int .i64 (rn), .bool (rl), .int .i64 (rd)], .int .i64 (0)]) (by simp [results, Tryd.results28, go_sem, *]) rfl ⟨rfl, ?_⟩
      repeat (first | (with_reducible exact Below.refl _ _) | (with_reducible assumption) | (with_reducible refine bdrew ?_) | (with_reducible refine baa ?_ _) | (with_reducible refine bs ?_ (by first | exact Nat.le_refl _ | omega | (simp; done) | (simp; omega)) _) | (with_reducible refine bt ?_ (by with_reducible assumption)))
set_option maxHeartbeats 4000000 in
theorem ref18_Death_e2 (y : Int) (d Y : Int) (hy : I64 y) (hd : I64 d) (hY : I64 Y) (w : World) (h0 : A18.chkE y 2 false d Y = 0) (d30 : (d == 30) = false)  :
    Calls Tryd.prog 28 #[.agg #[.int .i64 (y), .int .i64 (2), .bool (false), .int .i64 (d)], .int .i64 Y] w fun e w' => e = .returned (.tuple #[.agg #[.int .i64 (A18.bY y 2 false d Y), .int .i64 (A18.bN y 2 false d Y), .bool (A18.bL y 2 false d Y), .int .i64 (A18.bD y 2 false d Y)], .int .i64 (0)]) ∧ Below w.heap.size w w' := by
  have HC := Lib.hid (fun w => ref18_check y 2 false d Y hy hY w)
  have h0' := h0
  obtain ⟨hde, h1, h2, hlt⟩ := A18.chk_0 h0
  obtain ⟨hvd, hp⟩ := D10.date_valid hde
  have hr := A18.right_of hp
  obtain ⟨b1, b2⟩ := (⟨hvd.1, hvd.2.1⟩ : 1 ≤ y ∧ y ≤ 9999)
  rw [h0] at HC
  have HV := Lib.hid (fun w => ref3_Is Y w (by omega) (by omega))
  have HI := Lib.hid (fun w => ref15_Into Y 2 false 0 w hY)
  obtain ⟨hi0, hq, _⟩ := A18.into_0 h1 h2 hr
  rw [hi0] at HI
  obtain ⟨_, _, d1, d2, _⟩ := A18.bir_ok h0
  have hm := D10.place_in _ _ _ hq
  obtain ⟨hv, hD⟩ := A18.bir_there h0
  have hb := D10.len_bd Y (A18.m0 Y 2 false) h1 h2 hm.1 hm.2.1
  have v1 : D10.Valid Y (A18.m0 Y 2 false) 1 := ⟨h1, h2, hm.1, hm.2.1, by omega, by omega⟩
  obtain ⟨q0, qD⟩ := D10.valid_date v1
  rw [show Cal.ofN (Cal.leap Y) (A18.m0 Y 2 false) = S15.intoN Y 2 false 0 from hm.2.2.1, show Cal.ofL (Cal.leap Y) (A18.m0 Y 2 false) = S15.intoL Y 2 false 0 from hm.2.2.2] at q0 qD
  rw [← qD] at hD
  have HN := Lib.hid (fun w => ref18_on Y (S15.intoN Y 2 false 0) (S15.intoL Y 2 false 0) d (A18.cM Y (A18.m0 Y 2 false) d) (A18.cD Y (A18.m0 Y 2 false) d) hY w q0 ⟨d1, d2⟩ hv hD.symm)
  rw [← show A18.bN y 2 false d Y = Cal.ofN (Cal.leap Y) (A18.cM Y (A18.m0 Y 2 false) d) by unfold A18.bN; rw [if_pos h0], ← show A18.bL y 2 false d Y = Cal.ofL (Cal.leap Y) (A18.cM Y (A18.m0 Y 2 false) d) by unfold A18.bL; rw [if_pos h0], ← show A18.bD y 2 false d Y = A18.cD Y (A18.m0 Y 2 false) d by unfold A18.bD; rw [if_pos h0]] at HN
  have hyY : A18.bY y 2 false d Y = Y := by unfold A18.bY; rw [if_pos h0]
  rw [hyY]
  clear hv hD hm hb v1 q0 qD hyY
  clear hq hi0
  have y1 := hy.1
  clear hde hvd hp h0 h0' hr
  generalize A18.bN y 2 false d Y = rn at *
  generalize A18.bL y 2 false d Y = rl at *
  generalize A18.bD y 2 false d Y = rd at *
  generalize S15.intoN Y 2 false 0 = n1 at *
  generalize S15.intoL Y 2 false 0 = l1 at *
  try generalize Cal.leap y = wl at *
  try generalize Cal.leap Y = il at *
  go_enter Tryd.func28, Tryd.ntmps28
  go_wp2_with fail
  refine (HC.out _).mono ?_
  rintro e w1 ⟨rfl, hb1⟩
  obtain ⟨hc1, hf1⟩ := bcell hb1
  have hz1 := hb1.size
  try simp at hz1
  have hs1x0 : w.heap.size < w1.heap.size := by omega
  have hs1x1 : (w.heap.size + 1) < w1.heap.size := by omega
  have g1x0 : w1.cell? ⟨w.heap.size, 0, none⟩ = some (.int .i64 y) := (hc1 _ _ (by first | omega | (simp; done) | (simp; omega))).trans (by first | (with_reducible assumption) | (simp [go_sem]; done) | (simp [go_sem, *]; done) | assumption)
  have g1x1 : w1.cell? ⟨w.heap.size, 1, none⟩ = some (.int .i64 2) := (hc1 _ _ (by first | omega | (simp; done) | (simp; omega))).trans (by first | (with_reducible assumption) | (simp [go_sem]; done) | (simp [go_sem, *]; done) | assumption)
  have g1x2 : w1.cell? ⟨w.heap.size, 2, none⟩ = some (.bool false) := (hc1 _ _ (by first | omega | (simp; done) | (simp; omega))).trans (by first | (with_reducible assumption) | (simp [go_sem]; done) | (simp [go_sem, *]; done) | assumption)
  have g1x3 : w1.cell? ⟨w.heap.size, 3, none⟩ = some (.int .i64 d) := (hc1 _ _ (by first | omega | (simp; done) | (simp; omega))).trans (by first | (with_reducible assumption) | (simp [go_sem]; done) | (simp [go_sem, *]; done) | assumption)
  have g1x4 : w1.cell? ⟨(w.heap.size + 1), 0, none⟩ = some (.int .i64 0) := (hc1 _ _ (by first | omega | (simp; done) | (simp; omega))).trans (by first | (with_reducible assumption) | (simp [go_sem]; done) | (simp [go_sem, *]; done) | assumption)
  have g1x5 : w1.cell? ⟨(w.heap.size + 1), 1, none⟩ = some (.int .i64 0) := (hc1 _ _ (by first | omega | (simp; done) | (simp; omega))).trans (by first | (with_reducible assumption) | (simp [go_sem]; done) | (simp [go_sem, *]; done) | assumption)
  have g1x6 : w1.cell? ⟨(w.heap.size + 1), 2, none⟩ = some (.bool false) := (hc1 _ _ (by first | omega | (simp; done) | (simp; omega))).trans (by first | (with_reducible assumption) | (simp [go_sem]; done) | (simp [go_sem, *]; done) | assumption)
  have g1x7 : w1.cell? ⟨(w.heap.size + 1), 3, none⟩ = some (.int .i64 0) := (hc1 _ _ (by first | omega | (simp; done) | (simp; omega))).trans (by first | (with_reducible assumption) | (simp [go_sem]; done) | (simp [go_sem, *]; done) | assumption)
  go_wp2_with fail
  refine settle (fun W => R18 w W y 2 false d) ⟨by with_reducible assumption, by with_reducible assumption, by with_reducible assumption, by with_reducible assumption, by with_reducible assumption, by with_reducible assumption, by with_reducible assumption, by with_reducible assumption, (hf1 _ _ (by first | omega | (simp; done) | (simp; omega))).trans (by simp [go_sem]), (hf1 _ _ (by first | omega | (simp; done) | (simp; omega))).trans (by simp [go_sem]), (hf1 _ _ (by first | omega | (simp; done) | (simp; omega))).trans (by simp [go_sem]), (hf1 _ _ (by first | omega | (simp; done) | (simp; omega))).trans (by simp [go_sem]), by first | omega | (simp; omega), ?_⟩ ?_
  · repeat (first | (with_reducible exact Below.refl _ _) | (with_reducible assumption) | (with_reducible refine bdrew ?_) | (with_reducible refine baa ?_ _) | (with_reducible refine bs ?_ (by first | exact Nat.le_refl _ | omega | (simp; done) | (simp; omega)) _) | (with_reducible refine bt ?_ (by with_reducible assumption)))
  rintro W2 hR2
  clear hb1 hc1 hf1 hz1 g1x0 g1x1 g1x2 g1x3 g1x4 g1x5 g1x6 g1x7 hs1x0 hs1x1
  have hq := hR2
  obtain ⟨a0, a1, a2, a3, b0, b1, b2, b3, f0, f1, f2, f3, hs, hBB⟩ := hq
  have hs0 := Nat.lt_of_succ_lt hs
  go_loopw [7] (fun i wr => ∃ k : Int, (k = 2 ∨ k = 3 ∨ k = 4) ∧ i = .int .i64 k ∧ R18 w wr y 2 false d) (fun i _ => (4 - intOf i).toNat)
  case atStart => exact ⟨2, by omega, rfl, hR2⟩
  case round =>
    clear a0 a1 a2 a3 b0 b1 b2 b3 f0 f1 f2 f3 hs hs0 hBB
    obtain ⟨k, hk, rfl, hRR⟩ := hrel
    have hq := hRR
    obtain ⟨a0, a1, a2, a3, b0, b1, b2, b3, f0, f1, f2, f3, hs, hBB⟩ := hq
    have hs0 := Nat.lt_of_succ_lt hs
    rcases hk with rfl | rfl | rfl
    · go_wp2_with fail
      go_roundw
      case rel => exact ⟨3, by omega, rfl, hRR⟩
      case measure => simp [intOf]
    · go_wp2_with fail
      go_roundw
      case rel => exact ⟨4, by omega, rfl, hRR⟩
      case measure => simp [intOf]
    · go_wp2_with fail
      refine (HV.out _).mono ?_
      rintro e w' ⟨rfl, rfl⟩
      go_wp2_with fail
      refine (HI.out _).mono ?_
      rintro e w6 ⟨rfl, hb6⟩
      have hR6 := R18.below hRR hb6
      clear hRR
      have hRR := hR6
      clear a0 a1 a2 a3 b0 b1 b2 b3 f0 f1 f2 f3 hs hs0 hBB
      have hq := hR6
      obtain ⟨a0, a1, a2, a3, b0, b1, b2, b3, f0, f1, f2, f3, hs, hBB⟩ := hq
      have hs0 := Nat.lt_of_succ_lt hs
      go_wp2_with fail
      refine (HN.out _).mono ?_
      rintro e w7 ⟨rfl, hb7⟩
      obtain ⟨hc7, hf7⟩ := bcell hb7
      have hz7 := hb7.size
      try simp at hz7
      have g7x0 : w7.cell? ⟨w.heap.size + 1, 0, none⟩ = some (.int .i64 0) := (hc7 _ _ (by first | omega | (simp; done) | (simp; omega))).trans (by first | (with_reducible assumption) | (simp [go_sem, *]; done))
      have z7x0 : w7.frozen? ⟨w.heap.size + 1, 0, none⟩ = false := (hf7 _ _ (by first | omega | (simp; done) | (simp; omega))).trans (by first | (with_reducible assumption) | (simp [go_sem, *]; done))
      have g7x1 : w7.cell? ⟨w.heap.size + 1, 1, none⟩ = some (.int .i64 0) := (hc7 _ _ (by first | omega | (simp; done) | (simp; omega))).trans (by first | (with_reducible assumption) | (simp [go_sem, *]; done))
      have z7x1 : w7.frozen? ⟨w.heap.size + 1, 1, none⟩ = false := (hf7 _ _ (by first | omega | (simp; done) | (simp; omega))).trans (by first | (with_reducible assumption) | (simp [go_sem, *]; done))
      have g7x2 : w7.cell? ⟨w.heap.size + 1, 2, none⟩ = some (.bool false) := (hc7 _ _ (by first | omega | (simp; done) | (simp; omega))).trans (by first | (with_reducible assumption) | (simp [go_sem, *]; done))
      have z7x2 : w7.frozen? ⟨w.heap.size + 1, 2, none⟩ = false := (hf7 _ _ (by first | omega | (simp; done) | (simp; omega))).trans (by first | (with_reducible assumption) | (simp [go_sem, *]; done))
      have g7x3 : w7.cell? ⟨w.heap.size + 1, 3, none⟩ = some (.int .i64 0) := (hc7 _ _ (by first | omega | (simp; done) | (simp; omega))).trans (by first | (with_reducible assumption) | (simp [go_sem, *]; done))
      have z7x3 : w7.frozen? ⟨w.heap.size + 1, 3, none⟩ = false := (hf7 _ _ (by first | omega | (simp; done) | (simp; omega))).trans (by first | (with_reducible assumption) | (simp [go_sem, *]; done))
      go_wp2_with fail
      refine bodyPost_ret (v := .tuple #[.agg #[.int .i64 (Y), .int .i64 (rn), .bool (rl), .int .i64 (rd)], .int .i64 (0)]) (by simp [results, Tryd.results28, go_sem, *]) rfl ⟨rfl, ?_⟩
      repeat (first | (with_reducible exact Below.refl _ _) | (with_reducible assumption) | (with_reducible refine bdrew ?_) | (with_reducible refine baa ?_ _) | (with_reducible refine bs ?_ (by first | exact Nat.le_refl _ | omega | (simp; done) | (simp; omega)) _) | (with_reducible refine bt ?_ (by with_reducible assumption)))
set_option maxHeartbeats 4000000 in
theorem ref18_Death_e3 (y : Int) (d Y : Int) (hy : I64 y) (hd : I64 d) (hY : I64 Y) (w : World) (h0 : A18.chkE y 3 false d Y = 0) (d30 : (d == 30) = false)  :
    Calls Tryd.prog 28 #[.agg #[.int .i64 (y), .int .i64 (3), .bool (false), .int .i64 (d)], .int .i64 Y] w fun e w' => e = .returned (.tuple #[.agg #[.int .i64 (A18.bY y 3 false d Y), .int .i64 (A18.bN y 3 false d Y), .bool (A18.bL y 3 false d Y), .int .i64 (A18.bD y 3 false d Y)], .int .i64 (0)]) ∧ Below w.heap.size w w' := by
  have HC := Lib.hid (fun w => ref18_check y 3 false d Y hy hY w)
  have h0' := h0
  obtain ⟨hde, h1, h2, hlt⟩ := A18.chk_0 h0
  obtain ⟨hvd, hp⟩ := D10.date_valid hde
  have hr := A18.right_of hp
  obtain ⟨b1, b2⟩ := (⟨hvd.1, hvd.2.1⟩ : 1 ≤ y ∧ y ≤ 9999)
  rw [h0] at HC
  have HV := Lib.hid (fun w => ref3_Is Y w (by omega) (by omega))
  have HI := Lib.hid (fun w => ref15_Into Y 3 false 0 w hY)
  obtain ⟨hi0, hq, _⟩ := A18.into_0 h1 h2 hr
  rw [hi0] at HI
  obtain ⟨_, _, d1, d2, _⟩ := A18.bir_ok h0
  have hm := D10.place_in _ _ _ hq
  obtain ⟨hv, hD⟩ := A18.bir_there h0
  have hb := D10.len_bd Y (A18.m0 Y 3 false) h1 h2 hm.1 hm.2.1
  have v1 : D10.Valid Y (A18.m0 Y 3 false) 1 := ⟨h1, h2, hm.1, hm.2.1, by omega, by omega⟩
  obtain ⟨q0, qD⟩ := D10.valid_date v1
  rw [show Cal.ofN (Cal.leap Y) (A18.m0 Y 3 false) = S15.intoN Y 3 false 0 from hm.2.2.1, show Cal.ofL (Cal.leap Y) (A18.m0 Y 3 false) = S15.intoL Y 3 false 0 from hm.2.2.2] at q0 qD
  rw [← qD] at hD
  have HN := Lib.hid (fun w => ref18_on Y (S15.intoN Y 3 false 0) (S15.intoL Y 3 false 0) d (A18.cM Y (A18.m0 Y 3 false) d) (A18.cD Y (A18.m0 Y 3 false) d) hY w q0 ⟨d1, d2⟩ hv hD.symm)
  rw [← show A18.bN y 3 false d Y = Cal.ofN (Cal.leap Y) (A18.cM Y (A18.m0 Y 3 false) d) by unfold A18.bN; rw [if_pos h0], ← show A18.bL y 3 false d Y = Cal.ofL (Cal.leap Y) (A18.cM Y (A18.m0 Y 3 false) d) by unfold A18.bL; rw [if_pos h0], ← show A18.bD y 3 false d Y = A18.cD Y (A18.m0 Y 3 false) d by unfold A18.bD; rw [if_pos h0]] at HN
  have hyY : A18.bY y 3 false d Y = Y := by unfold A18.bY; rw [if_pos h0]
  rw [hyY]
  clear hv hD hm hb v1 q0 qD hyY
  clear hq hi0
  have y1 := hy.1
  clear hde hvd hp h0 h0' hr
  generalize A18.bN y 3 false d Y = rn at *
  generalize A18.bL y 3 false d Y = rl at *
  generalize A18.bD y 3 false d Y = rd at *
  generalize S15.intoN Y 3 false 0 = n1 at *
  generalize S15.intoL Y 3 false 0 = l1 at *
  try generalize Cal.leap y = wl at *
  try generalize Cal.leap Y = il at *
  go_enter Tryd.func28, Tryd.ntmps28
  go_wp2_with fail
  refine (HC.out _).mono ?_
  rintro e w1 ⟨rfl, hb1⟩
  obtain ⟨hc1, hf1⟩ := bcell hb1
  have hz1 := hb1.size
  try simp at hz1
  have hs1x0 : w.heap.size < w1.heap.size := by omega
  have hs1x1 : (w.heap.size + 1) < w1.heap.size := by omega
  have g1x0 : w1.cell? ⟨w.heap.size, 0, none⟩ = some (.int .i64 y) := (hc1 _ _ (by first | omega | (simp; done) | (simp; omega))).trans (by first | (with_reducible assumption) | (simp [go_sem]; done) | (simp [go_sem, *]; done) | assumption)
  have g1x1 : w1.cell? ⟨w.heap.size, 1, none⟩ = some (.int .i64 3) := (hc1 _ _ (by first | omega | (simp; done) | (simp; omega))).trans (by first | (with_reducible assumption) | (simp [go_sem]; done) | (simp [go_sem, *]; done) | assumption)
  have g1x2 : w1.cell? ⟨w.heap.size, 2, none⟩ = some (.bool false) := (hc1 _ _ (by first | omega | (simp; done) | (simp; omega))).trans (by first | (with_reducible assumption) | (simp [go_sem]; done) | (simp [go_sem, *]; done) | assumption)
  have g1x3 : w1.cell? ⟨w.heap.size, 3, none⟩ = some (.int .i64 d) := (hc1 _ _ (by first | omega | (simp; done) | (simp; omega))).trans (by first | (with_reducible assumption) | (simp [go_sem]; done) | (simp [go_sem, *]; done) | assumption)
  have g1x4 : w1.cell? ⟨(w.heap.size + 1), 0, none⟩ = some (.int .i64 0) := (hc1 _ _ (by first | omega | (simp; done) | (simp; omega))).trans (by first | (with_reducible assumption) | (simp [go_sem]; done) | (simp [go_sem, *]; done) | assumption)
  have g1x5 : w1.cell? ⟨(w.heap.size + 1), 1, none⟩ = some (.int .i64 0) := (hc1 _ _ (by first | omega | (simp; done) | (simp; omega))).trans (by first | (with_reducible assumption) | (simp [go_sem]; done) | (simp [go_sem, *]; done) | assumption)
  have g1x6 : w1.cell? ⟨(w.heap.size + 1), 2, none⟩ = some (.bool false) := (hc1 _ _ (by first | omega | (simp; done) | (simp; omega))).trans (by first | (with_reducible assumption) | (simp [go_sem]; done) | (simp [go_sem, *]; done) | assumption)
  have g1x7 : w1.cell? ⟨(w.heap.size + 1), 3, none⟩ = some (.int .i64 0) := (hc1 _ _ (by first | omega | (simp; done) | (simp; omega))).trans (by first | (with_reducible assumption) | (simp [go_sem]; done) | (simp [go_sem, *]; done) | assumption)
  go_wp2_with fail
  refine settle (fun W => R18 w W y 3 false d) ⟨by with_reducible assumption, by with_reducible assumption, by with_reducible assumption, by with_reducible assumption, by with_reducible assumption, by with_reducible assumption, by with_reducible assumption, by with_reducible assumption, (hf1 _ _ (by first | omega | (simp; done) | (simp; omega))).trans (by simp [go_sem]), (hf1 _ _ (by first | omega | (simp; done) | (simp; omega))).trans (by simp [go_sem]), (hf1 _ _ (by first | omega | (simp; done) | (simp; omega))).trans (by simp [go_sem]), (hf1 _ _ (by first | omega | (simp; done) | (simp; omega))).trans (by simp [go_sem]), by first | omega | (simp; omega), ?_⟩ ?_
  · repeat (first | (with_reducible exact Below.refl _ _) | (with_reducible assumption) | (with_reducible refine bdrew ?_) | (with_reducible refine baa ?_ _) | (with_reducible refine bs ?_ (by first | exact Nat.le_refl _ | omega | (simp; done) | (simp; omega)) _) | (with_reducible refine bt ?_ (by with_reducible assumption)))
  rintro W2 hR2
  clear hb1 hc1 hf1 hz1 g1x0 g1x1 g1x2 g1x3 g1x4 g1x5 g1x6 g1x7 hs1x0 hs1x1
  have hq := hR2
  obtain ⟨a0, a1, a2, a3, b0, b1, b2, b3, f0, f1, f2, f3, hs, hBB⟩ := hq
  have hs0 := Nat.lt_of_succ_lt hs
  go_loopw [7] (fun i wr => ∃ k : Int, (k = 2 ∨ k = 3 ∨ k = 4) ∧ i = .int .i64 k ∧ R18 w wr y 3 false d) (fun i _ => (4 - intOf i).toNat)
  case atStart => exact ⟨2, by omega, rfl, hR2⟩
  case round =>
    clear a0 a1 a2 a3 b0 b1 b2 b3 f0 f1 f2 f3 hs hs0 hBB
    obtain ⟨k, hk, rfl, hRR⟩ := hrel
    have hq := hRR
    obtain ⟨a0, a1, a2, a3, b0, b1, b2, b3, f0, f1, f2, f3, hs, hBB⟩ := hq
    have hs0 := Nat.lt_of_succ_lt hs
    rcases hk with rfl | rfl | rfl
    · go_wp2_with fail
      go_roundw
      case rel => exact ⟨3, by omega, rfl, hRR⟩
      case measure => simp [intOf]
    · go_wp2_with fail
      go_roundw
      case rel => exact ⟨4, by omega, rfl, hRR⟩
      case measure => simp [intOf]
    · go_wp2_with fail
      refine (HV.out _).mono ?_
      rintro e w' ⟨rfl, rfl⟩
      go_wp2_with fail
      refine (HI.out _).mono ?_
      rintro e w6 ⟨rfl, hb6⟩
      have hR6 := R18.below hRR hb6
      clear hRR
      have hRR := hR6
      clear a0 a1 a2 a3 b0 b1 b2 b3 f0 f1 f2 f3 hs hs0 hBB
      have hq := hR6
      obtain ⟨a0, a1, a2, a3, b0, b1, b2, b3, f0, f1, f2, f3, hs, hBB⟩ := hq
      have hs0 := Nat.lt_of_succ_lt hs
      go_wp2_with fail
      refine (HN.out _).mono ?_
      rintro e w7 ⟨rfl, hb7⟩
      obtain ⟨hc7, hf7⟩ := bcell hb7
      have hz7 := hb7.size
      try simp at hz7
      have g7x0 : w7.cell? ⟨w.heap.size + 1, 0, none⟩ = some (.int .i64 0) := (hc7 _ _ (by first | omega | (simp; done) | (simp; omega))).trans (by first | (with_reducible assumption) | (simp [go_sem, *]; done))
      have z7x0 : w7.frozen? ⟨w.heap.size + 1, 0, none⟩ = false := (hf7 _ _ (by first | omega | (simp; done) | (simp; omega))).trans (by first | (with_reducible assumption) | (simp [go_sem, *]; done))
      have g7x1 : w7.cell? ⟨w.heap.size + 1, 1, none⟩ = some (.int .i64 0) := (hc7 _ _ (by first | omega | (simp; done) | (simp; omega))).trans (by first | (with_reducible assumption) | (simp [go_sem, *]; done))
      have z7x1 : w7.frozen? ⟨w.heap.size + 1, 1, none⟩ = false := (hf7 _ _ (by first | omega | (simp; done) | (simp; omega))).trans (by first | (with_reducible assumption) | (simp [go_sem, *]; done))
      have g7x2 : w7.cell? ⟨w.heap.size + 1, 2, none⟩ = some (.bool false) := (hc7 _ _ (by first | omega | (simp; done) | (simp; omega))).trans (by first | (with_reducible assumption) | (simp [go_sem, *]; done))
      have z7x2 : w7.frozen? ⟨w.heap.size + 1, 2, none⟩ = false := (hf7 _ _ (by first | omega | (simp; done) | (simp; omega))).trans (by first | (with_reducible assumption) | (simp [go_sem, *]; done))
      have g7x3 : w7.cell? ⟨w.heap.size + 1, 3, none⟩ = some (.int .i64 0) := (hc7 _ _ (by first | omega | (simp; done) | (simp; omega))).trans (by first | (with_reducible assumption) | (simp [go_sem, *]; done))
      have z7x3 : w7.frozen? ⟨w.heap.size + 1, 3, none⟩ = false := (hf7 _ _ (by first | omega | (simp; done) | (simp; omega))).trans (by first | (with_reducible assumption) | (simp [go_sem, *]; done))
      go_wp2_with fail
      refine bodyPost_ret (v := .tuple #[.agg #[.int .i64 (Y), .int .i64 (rn), .bool (rl), .int .i64 (rd)], .int .i64 (0)]) (by simp [results, Tryd.results28, go_sem, *]) rfl ⟨rfl, ?_⟩
      repeat (first | (with_reducible exact Below.refl _ _) | (with_reducible assumption) | (with_reducible refine bdrew ?_) | (with_reducible refine baa ?_ _) | (with_reducible refine bs ?_ (by first | exact Nat.le_refl _ | omega | (simp; done) | (simp; omega)) _) | (with_reducible refine bt ?_ (by with_reducible assumption)))
theorem ref18_Death (y n : Int) (l : Bool) (d Y : Int) (hy : I64 y) (hd : I64 d) (hY : I64 Y) (w : World) :
    Calls Tryd.prog 28 #[.agg #[.int .i64 (y), .int .i64 (n), .bool (l), .int .i64 (d)], .int .i64 Y] w fun e w' => e = .returned (.tuple #[.agg #[.int .i64 (A18.bY y n l d Y), .int .i64 (A18.tN y n l d Y), .bool (A18.tL y n l d Y), .int .i64 (A18.tD y n l d Y)], .int .i64 (A18.chkE y n l d Y)]) ∧ Below w.heap.size w w' := by
  by_cases h0 : A18.chkE y n l d Y = 0
  · have hY0 : A18.bY y n l d Y = Y := by unfold A18.bY; rw [if_pos h0]
    obtain ⟨hde, g1, g2, glt⟩ := A18.chk_0 h0
    have hvd := (D10.date_valid hde).1
    have hr := A18.right_of (D10.date_valid hde).2
    rw [h0]
    have kb : ∀ (c1 : ¬ A18.k1 y n l d = true) (c2 : ¬ A18.k2 l d Y = true) (c3 : ¬ A18.k3 y n Y = true), Calls Tryd.prog 28 #[.agg #[.int .i64 (y), .int .i64 (n), .bool (l), .int .i64 (d)], .int .i64 Y] w (fun e w' => e = .returned (.tuple #[.agg #[.int .i64 (A18.bY y n l d Y), .int .i64 (A18.bN y n l d Y), .bool (A18.bL y n l d Y), .int .i64 (A18.bD y n l d Y)], .int .i64 (0)]) ∧ Below w.heap.size w w') → Calls Tryd.prog 28 #[.agg #[.int .i64 (y), .int .i64 (n), .bool (l), .int .i64 (d)], .int .i64 Y] w (fun e w' => e = .returned (.tuple #[.agg #[.int .i64 (A18.bY y n l d Y), .int .i64 (A18.tN y n l d Y), .bool (A18.tL y n l d Y), .int .i64 (A18.tD y n l d Y)], .int .i64 (0)]) ∧ Below w.heap.size w w') := by
      intro c1 c2 c3 H
      obtain ⟨e1, e2, e3⟩ := A18.dth_b h0 c1 c2 c3
      rw [e1, e2, e3]; exact H
    by_cases hd30 : d = 30
    · subst hd30
      have n6 : ¬ n = 6 := fun c => by subst c; have := A18.six_short hde; omega
      have c3 : ¬ A18.k3 y n Y = true := fun c => by unfold A18.k3 at c; simp at c; omega
      by_cases hn : n = 2 ∨ n = 3
      · have hl := (A18.two_there (lp := true) hr hn Y).1
        have hb := S15.lastV_bd (S15.last_0 (y := y + 1) (by have := hvd.1; omega) (by omega) (A18.two_there (lp := true) hr hn (y + 1)).2.1)
        subst hl
        have c2 : ¬ A18.k2 false 30 Y = true := fun c => by unfold A18.k2 at c; simp at c
        by_cases hlt : D10.lastV (y + 1) n false < 30
        · have c1 : A18.k1 y n false 30 = true := by unfold A18.k1; rcases hn with rfl | rfl <;> simp [hlt]
          obtain ⟨e1, e2, e3⟩ := A18.dth_k1 h0 c1
          rw [e1, e2, e3, hY0]
          rcases hn with rfl | rfl
          · exact ref18_Death_a2 y Y hy hY w h0 (by simp; omega)
          · exact ref18_Death_a3 y Y hy hY w h0 (by simp; omega)
        · have c1 : ¬ A18.k1 y n false 30 = true := fun c => hlt (A18.k1_in c).2.2
          refine kb c1 c2 c3 ?_
          rcases hn with rfl | rfl
          · exact ref18_Death_c2 y Y hy hY w h0 (by simp; omega)
          · exact ref18_Death_c3 y Y hy hY w h0 (by simp; omega)
      · have c1 : ¬ A18.k1 y n l 30 = true := fun c => hn (A18.k1_in c).2.1
        have m2 : (n == 2) = false := by simp; omega
        have m3 : (n == 3) = false := by simp; omega
        have m6 : (n == 6) = false := by simp; omega
        cases hl : l with
        | true =>
          subst hl
          cases hi : Cal.leap Y with
          | false =>
            obtain ⟨e1, e2, e3⟩ := A18.dth_k2 h0 c1 (by unfold A18.k2; simp [hi])
            rw [e1, e2, e3, hY0]
            exact ref18_Death_bl y n Y hy hY w h0 m2 m3 hi
          | true => exact kb c1 (fun c => by unfold A18.k2 at c; simp [hi] at c) c3 (ref18_Death_bll y n Y hy hY w h0 m2 m3 m6 hi)
        | false =>
          subst hl
          exact kb c1 (fun c => by unfold A18.k2 at c; simp at c) c3 (ref18_Death_bp y n Y hy hY w h0 m2 m3 m6)
    · have md : (d == 30) = false := by simpa using hd30
      have c1 : ¬ A18.k1 y n l d = true := fun c => hd30 (A18.k1_in c).1
      have c2 : ¬ A18.k2 l d Y = true := fun c => by unfold A18.k2 at c; simp at c; omega
      by_cases n6 : n = 6
      · subst n6
        have hl : l = false := by
          rcases right_cases 6 l hr with ⟨_, _, c⟩ | ⟨c, _⟩
          · exact c
          · omega
        subst hl
        cases hw : Cal.leap y with
        | true => exact kb c1 c2 (fun c => by unfold A18.k3 at c; simp [hw] at c) (ref18_Death_6w y d Y hy hd hY w h0 md hw)
        | false =>
          cases hi : Cal.leap Y with
          | false => exact kb c1 c2 (fun c => by unfold A18.k3 at c; simp [hi] at c) (ref18_Death_6i y d Y hy hd hY w h0 md hw hi)
          | true =>
            obtain ⟨e1, e2, e3⟩ := A18.dth_k3 h0 c1 c2 (by unfold A18.k3; simp [hw, hi])
            rw [e1, e2, e3, hY0]
            exact ref18_Death_k3 y d Y hy hd hY w h0 md hw hi
      · refine kb c1 c2 (fun c => by unfold A18.k3 at c; simp at c; omega) ?_
        have m6 : (n == 6) = false := by simpa using n6
        cases hl : l with
        | true =>
          subst hl
          have h5 : n = 5 := by
            rcases right_cases n true hr with ⟨_, _, c⟩ | ⟨c, _⟩
            · cases c
            · exact c
          exact ref18_Death_dpt y n d Y hy hd hY w h0 md (by simp; omega) (by simp; omega) m6
        | false =>
          subst hl
          by_cases n2 : n = 2
          · subst n2; exact ref18_Death_e2 y d Y hy hd hY w h0 md
          · by_cases n3 : n = 3
            · subst n3; exact ref18_Death_e3 y d Y hy hd hY w h0 md
            · exact ref18_Death_dpf y n d Y hy hd hY w h0 md (by simpa using n2) (by simpa using n3) m6
  · have e : A18.bY y n l d Y = 0 ∧ A18.tN y n l d Y = 0 ∧ A18.tL y n l d Y = false ∧ A18.tD y n l d Y = 0 := by
      unfold A18.bY A18.tN A18.tL A18.tD; rw [if_neg h0, if_neg h0, if_neg h0, if_neg h0]; exact ⟨rfl, rfl, rfl, rfl⟩
    rw [e.1, e.2.1, e.2.2.1, e.2.2.2]
    exact ref18_Death_err y n l d Y hy hd hY w h0
end Go.Proofs.YtmiadhiomingmaaDoor
