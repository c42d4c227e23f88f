/- Layer 10: the document's answers. -/
import Derived.Test.YtgcpflbpiifdbaaDoorHeb3
namespace Go.Proofs.YtgcpflbpiifdbaaDoor
open Go.ChangeShapes Go.WideShapes Go.ChangeAt Go.RowKit
set_option linter.unusedVariables false
set_option maxRecDepth 100000
set_option maxHeartbeats 1000000 in
theorem ref10_Last_year (y n : Int) (l : Bool) (w : World) (hy : I64 y) (h : y < 1 ∨ 9999 < y) :
    Calls Tryd.prog 26 #[.int .i64 y, .agg #[.int .i64 n, .bool l]] w fun e w' => e = .returned (.tuple #[.int .i64 (0), .int .i64 2]) ∧ Below w.heap.size w w' := by
  go_enter Tryd.func26, Tryd.ntmps26
  go_wp2_with fail
  refine (ref7_Of_no y _ hy h).mono ?_
  rintro e w1 ⟨rfl, hb1⟩
  obtain ⟨hc1, hf1⟩ := bcell hb1
  have hz1 := hb1.size
  try simp at hz1
  have hs1x0 : w.heap.size < w1.heap.size := by omega
  have g1x0 : w1.cell? ⟨w.heap.size, 0, none⟩ = some (.int .i64 n) := (hc1 _ _ (by first | omega | (simp; done) | (simp; omega))).trans (by first | assumption | simp [go_sem] | simp [go_sem, *])
  have g1x1 : w1.cell? ⟨w.heap.size, 1, none⟩ = some (.bool l) := (hc1 _ _ (by first | omega | (simp; done) | (simp; omega))).trans (by first | assumption | simp [go_sem] | simp [go_sem, *])
  go_wp2_with fail
  go_ret2
  exact ⟨rfl, baa (bt (ba _ _) hb1) _⟩
set_option maxHeartbeats 1000000 in
theorem ref10_Last_month (y n : Int) (l : Bool) (w : World) (hy : I64 y) (h1 : 1 ≤ y) (h2 : y ≤ 9999) (hp : Cal.plOk (Cal.leap y) n l = false) :
    Calls Tryd.prog 26 #[.int .i64 y, .agg #[.int .i64 n, .bool l]] w fun e w' => e = .returned (.tuple #[.int .i64 (0), .int .i64 3]) ∧ Below w.heap.size w w' := by
  have hv : Cal.plV (Cal.leap y) n l = 0 := by simp [Cal.plV, hp]
  have HP := Lib.hid (fun w => (show Calls Tryd.prog 15 #[.bool (Cal.leap y), .agg #[.int .i64 n, .bool l]] w (fun e w' => e = .returned (.tuple #[.int .i64 (Cal.plV (Cal.leap y) n l), .bool false]) ∧ Below w.heap.size w w') from hp ▸ ref9_Place_any (Cal.leap y) n l w))
  clear hp
  rw [hv] at HP
  clear hv
  go_enter Tryd.func26, Tryd.ntmps26
  go_wp2_with fail
  refine (ref7_Of_ok y _ h1 h2).mono ?_
  rintro e w1 ⟨rfl, hb1⟩
  obtain ⟨hc1, hf1⟩ := bcell hb1
  have hz1 := hb1.size
  try simp at hz1
  have hs1x0 : w.heap.size < w1.heap.size := by omega
  have g1x0 : w1.cell? ⟨w.heap.size, 0, none⟩ = some (.int .i64 n) := (hc1 _ _ (by first | omega | (simp; done) | (simp; omega))).trans (by first | assumption | simp [go_sem] | simp [go_sem, *])
  have g1x1 : w1.cell? ⟨w.heap.size, 1, none⟩ = some (.bool l) := (hc1 _ _ (by first | omega | (simp; done) | (simp; omega))).trans (by first | assumption | simp [go_sem] | simp [go_sem, *])
  go_wp2_with fail
  refine (HP.out _).mono ?_
  rintro e w2 ⟨rfl, hb2⟩
  obtain ⟨hc2, hf2⟩ := bcell hb2
  have hz2 := hb2.size
  try simp at hz2
  have hl2w1 : w1.heap.size < w2.heap.size := by omega
  have hm2w1 : w1.heap.size ≤ w2.heap.size := by omega
  have hs2x0 : w.heap.size < w2.heap.size := by omega
  have g2x0 : w2.cell? ⟨w.heap.size, 0, none⟩ = some (.int .i64 n) := (hc2 _ _ (by first | omega | (simp; done) | (simp; omega))).trans (by first | assumption | simp [go_sem] | simp [go_sem, *])
  have g2x1 : w2.cell? ⟨w.heap.size, 1, none⟩ = some (.bool l) := (hc2 _ _ (by first | omega | (simp; done) | (simp; omega))).trans (by first | assumption | simp [go_sem] | simp [go_sem, *])
  have g2x2 : w2.cell? ⟨w1.heap.size, 0, none⟩ = some (.int .i64 (Cal.first y % 7)) := (hc2 _ _ (by first | omega | (simp; done) | (simp; omega))).trans (by first | assumption | simp [go_sem] | simp [go_sem, *])
  have g2x3 : w2.cell? ⟨w1.heap.size, 1, none⟩ = some (.int .i64 (Cal.kind y)) := (hc2 _ _ (by first | omega | (simp; done) | (simp; omega))).trans (by first | assumption | simp [go_sem] | simp [go_sem, *])
  have g2x4 : w2.cell? ⟨w1.heap.size, 2, none⟩ = some (.bool (Cal.leap y)) := (hc2 _ _ (by first | omega | (simp; done) | (simp; omega))).trans (by first | assumption | simp [go_sem] | simp [go_sem, *])
  go_wp2_with fail
  go_ret2
  exact ⟨rfl, bt (baa (bt (ba _ _) hb1) _) hb2⟩
set_option maxHeartbeats 1000000 in
theorem ref10_Last_ok (y n : Int) (l : Bool) (w : World) (hy : I64 y) (h1 : 1 ≤ y) (h2 : y ≤ 9999) (hp : Cal.plOk (Cal.leap y) n l = true) :
    Calls Tryd.prog 26 #[.int .i64 y, .agg #[.int .i64 n, .bool l]] w fun e w' => e = .returned (.tuple #[.int .i64 (daysV (Cal.first y % 7) (Cal.kind y) (Cal.leap y) (Cal.plV (Cal.leap y) n l)), .int .i64 0]) ∧ Below w.heap.size w w' := by
  have HP := Lib.hid (fun w => (show Calls Tryd.prog 15 #[.bool (Cal.leap y), .agg #[.int .i64 n, .bool l]] w (fun e w' => e = .returned (.tuple #[.int .i64 (Cal.plV (Cal.leap y) n l), .bool true]) ∧ Below w.heap.size w w') from hp ▸ ref9_Place_any (Cal.leap y) n l w))
  clear hp
  go_enter Tryd.func26, Tryd.ntmps26
  go_wp2_with fail
  refine (ref7_Of_ok y _ h1 h2).mono ?_
  rintro e w1 ⟨rfl, hb1⟩
  obtain ⟨hc1, hf1⟩ := bcell hb1
  have hz1 := hb1.size
  try simp at hz1
  have hs1x0 : w.heap.size < w1.heap.size := by omega
  have g1x0 : w1.cell? ⟨w.heap.size, 0, none⟩ = some (.int .i64 n) := (hc1 _ _ (by first | omega | (simp; done) | (simp; omega))).trans (by first | assumption | simp [go_sem] | simp [go_sem, *])
  have g1x1 : w1.cell? ⟨w.heap.size, 1, none⟩ = some (.bool l) := (hc1 _ _ (by first | omega | (simp; done) | (simp; omega))).trans (by first | assumption | simp [go_sem] | simp [go_sem, *])
  go_wp2_with fail
  refine (HP.out _).mono ?_
  rintro e w2 ⟨rfl, hb2⟩
  obtain ⟨hc2, hf2⟩ := bcell hb2
  have hz2 := hb2.size
  try simp at hz2
  have hl2w1 : w1.heap.size < w2.heap.size := by omega
  have hm2w1 : w1.heap.size ≤ w2.heap.size := by omega
  have hs2x0 : w.heap.size < w2.heap.size := by omega
  have g2x0 : w2.cell? ⟨w.heap.size, 0, none⟩ = some (.int .i64 n) := (hc2 _ _ (by first | omega | (simp; done) | (simp; omega))).trans (by first | assumption | simp [go_sem] | simp [go_sem, *])
  have g2x1 : w2.cell? ⟨w.heap.size, 1, none⟩ = some (.bool l) := (hc2 _ _ (by first | omega | (simp; done) | (simp; omega))).trans (by first | assumption | simp [go_sem] | simp [go_sem, *])
  have g2x2 : w2.cell? ⟨w1.heap.size, 0, none⟩ = some (.int .i64 (Cal.first y % 7)) := (hc2 _ _ (by first | omega | (simp; done) | (simp; omega))).trans (by first | assumption | simp [go_sem] | simp [go_sem, *])
  have g2x3 : w2.cell? ⟨w1.heap.size, 1, none⟩ = some (.int .i64 (Cal.kind y)) := (hc2 _ _ (by first | omega | (simp; done) | (simp; omega))).trans (by first | assumption | simp [go_sem] | simp [go_sem, *])
  have g2x4 : w2.cell? ⟨w1.heap.size, 2, none⟩ = some (.bool (Cal.leap y)) := (hc2 _ _ (by first | omega | (simp; done) | (simp; omega))).trans (by first | assumption | simp [go_sem] | simp [go_sem, *])
  go_wp2_with fail
  refine (ref8_Days _ _ _ _ _).mono ?_
  rintro e w3 ⟨rfl, hb3⟩
  go_wp2_with fail
  go_ret2
  exact ⟨rfl, bt (bt (baa (bt (ba _ _) hb1) _) hb2) hb3⟩
theorem ref10_Last (y n : Int) (l : Bool) (w : World) (hy : I64 y) :
    Calls Tryd.prog 26 #[.int .i64 y, .agg #[.int .i64 n, .bool l]] w fun e w' => e = .returned (.tuple #[.int .i64 (D10.lastV y n l), .int .i64 (D10.lastE y n l)]) ∧ Below w.heap.size w w' := by
  cases c : Cal.yearIn y
  · rw [show D10.lastV y n l = 0 by simp [D10.lastV, c], show D10.lastE y n l = 2 by simp [D10.lastE, c]]
    exact ref10_Last_year y n l w hy (D10.year_out y c)
  · obtain ⟨h1, h2⟩ := D10.year_in y c
    cases p : Cal.plOk (Cal.leap y) n l
    · rw [show D10.lastV y n l = 0 by simp [D10.lastV, p], show D10.lastE y n l = 3 by simp [D10.lastE, c, p]]
      exact ref10_Last_month y n l w hy h1 h2 p
    · rw [show D10.lastV y n l = D10.dLen y (Cal.plV (Cal.leap y) n l) by simp [D10.lastV, c, p], show D10.lastE y n l = 0 by simp [D10.lastE, c, p]]
      exact ref10_Last_ok y n l w hy h1 h2 p
set_option maxHeartbeats 1000000 in
theorem ref10_Check_err (y n : Int) (l : Bool) (d : Int) (w : World) (hy : I64 y) (he : ¬ D10.lastE y n l = 0) :
    Calls Tryd.prog 13 #[.agg #[.int .i64 y, .int .i64 n, .bool l, .int .i64 d]] w fun e w' => e = .returned (.int .i64 (D10.lastE y n l)) ∧ Below w.heap.size w w' := by
  have hLt := Lib.hid (fun w => ref10_Last y n l w hy)
  generalize D10.lastV y n l = lv at *
  generalize D10.lastE y n l = le at *
  go_enter Tryd.func13, Tryd.ntmps13
  go_wp2_with fail
  refine (hLt.out _).mono ?_
  rintro e w1 ⟨rfl, hb1⟩
  obtain ⟨hc1, hf1⟩ := bcell hb1
  have hz1 := hb1.size
  try simp at hz1
  have hs1x0 : w.heap.size < w1.heap.size := by omega
  have g1x0 : w1.cell? ⟨w.heap.size, 0, none⟩ = some (.int .i64 y) := (hc1 _ _ (by first | omega | (simp; done) | (simp; omega))).trans (by first | assumption | simp [go_sem] | simp [go_sem, *])
  have g1x1 : w1.cell? ⟨w.heap.size, 1, none⟩ = some (.int .i64 n) := (hc1 _ _ (by first | omega | (simp; done) | (simp; omega))).trans (by first | assumption | simp [go_sem] | simp [go_sem, *])
  have g1x2 : w1.cell? ⟨w.heap.size, 2, none⟩ = some (.bool l) := (hc1 _ _ (by first | omega | (simp; done) | (simp; omega))).trans (by first | assumption | simp [go_sem] | simp [go_sem, *])
  have g1x3 : w1.cell? ⟨w.heap.size, 3, none⟩ = some (.int .i64 d) := (hc1 _ _ (by first | omega | (simp; done) | (simp; omega))).trans (by first | assumption | simp [go_sem] | simp [go_sem, *])
  go_wp2_with fail
  go_ret
  exact ⟨rfl, bt (ba _ _) hb1⟩
set_option maxHeartbeats 1000000 in
theorem ref10_Check_low (y n : Int) (l : Bool) (d : Int) (w : World) (hy : I64 y) (he : D10.lastE y n l = 0) (hd : d < 1) :
    Calls Tryd.prog 13 #[.agg #[.int .i64 y, .int .i64 n, .bool l, .int .i64 d]] w fun e w' => e = .returned (.int .i64 4) ∧ Below w.heap.size w w' := by
  have hLt := Lib.hid (fun w => ref10_Last y n l w hy)
  generalize D10.lastV y n l = lv at *
  generalize D10.lastE y n l = le at *
  go_enter Tryd.func13, Tryd.ntmps13
  go_wp2_with fail
  refine (hLt.out _).mono ?_
  rintro e w1 ⟨rfl, hb1⟩
  obtain ⟨hc1, hf1⟩ := bcell hb1
  have hz1 := hb1.size
  try simp at hz1
  have hs1x0 : w.heap.size < w1.heap.size := by omega
  have g1x0 : w1.cell? ⟨w.heap.size, 0, none⟩ = some (.int .i64 y) := (hc1 _ _ (by first | omega | (simp; done) | (simp; omega))).trans (by first | assumption | simp [go_sem] | simp [go_sem, *])
  have g1x1 : w1.cell? ⟨w.heap.size, 1, none⟩ = some (.int .i64 n) := (hc1 _ _ (by first | omega | (simp; done) | (simp; omega))).trans (by first | assumption | simp [go_sem] | simp [go_sem, *])
  have g1x2 : w1.cell? ⟨w.heap.size, 2, none⟩ = some (.bool l) := (hc1 _ _ (by first | omega | (simp; done) | (simp; omega))).trans (by first | assumption | simp [go_sem] | simp [go_sem, *])
  have g1x3 : w1.cell? ⟨w.heap.size, 3, none⟩ = some (.int .i64 d) := (hc1 _ _ (by first | omega | (simp; done) | (simp; omega))).trans (by first | assumption | simp [go_sem] | simp [go_sem, *])
  go_wp2_with fail
  go_ret
  exact ⟨rfl, bt (ba _ _) hb1⟩
set_option maxHeartbeats 1000000 in
theorem ref10_Check_high (y n : Int) (l : Bool) (d : Int) (w : World) (hy : I64 y) (he : D10.lastE y n l = 0) (hd : 1 ≤ d) (hh : D10.lastV y n l < d) :
    Calls Tryd.prog 13 #[.agg #[.int .i64 y, .int .i64 n, .bool l, .int .i64 d]] w fun e w' => e = .returned (.int .i64 4) ∧ Below w.heap.size w w' := by
  have hLt := Lib.hid (fun w => ref10_Last y n l w hy)
  generalize D10.lastV y n l = lv at *
  generalize D10.lastE y n l = le at *
  go_enter Tryd.func13, Tryd.ntmps13
  go_wp2_with fail
  refine (hLt.out _).mono ?_
  rintro e w1 ⟨rfl, hb1⟩
  obtain ⟨hc1, hf1⟩ := bcell hb1
  have hz1 := hb1.size
  try simp at hz1
  have hs1x0 : w.heap.size < w1.heap.size := by omega
  have g1x0 : w1.cell? ⟨w.heap.size, 0, none⟩ = some (.int .i64 y) := (hc1 _ _ (by first | omega | (simp; done) | (simp; omega))).trans (by first | assumption | simp [go_sem] | simp [go_sem, *])
  have g1x1 : w1.cell? ⟨w.heap.size, 1, none⟩ = some (.int .i64 n) := (hc1 _ _ (by first | omega | (simp; done) | (simp; omega))).trans (by first | assumption | simp [go_sem] | simp [go_sem, *])
  have g1x2 : w1.cell? ⟨w.heap.size, 2, none⟩ = some (.bool l) := (hc1 _ _ (by first | omega | (simp; done) | (simp; omega))).trans (by first | assumption | simp [go_sem] | simp [go_sem, *])
  have g1x3 : w1.cell? ⟨w.heap.size, 3, none⟩ = some (.int .i64 d) := (hc1 _ _ (by first | omega | (simp; done) | (simp; omega))).trans (by first | assumption | simp [go_sem] | simp [go_sem, *])
  go_wp2_with fail
  go_ret
  exact ⟨rfl, bt (ba _ _) hb1⟩
set_option maxHeartbeats 1000000 in
theorem ref10_Check_ok (y n : Int) (l : Bool) (d : Int) (w : World) (hy : I64 y) (he : D10.lastE y n l = 0) (hd : 1 ≤ d) (hh : d ≤ D10.lastV y n l) :
    Calls Tryd.prog 13 #[.agg #[.int .i64 y, .int .i64 n, .bool l, .int .i64 d]] w fun e w' => e = .returned (.int .i64 0) ∧ Below w.heap.size w w' := by
  have hLt := Lib.hid (fun w => ref10_Last y n l w hy)
  generalize D10.lastV y n l = lv at *
  generalize D10.lastE y n l = le at *
  go_enter Tryd.func13, Tryd.ntmps13
  go_wp2_with fail
  refine (hLt.out _).mono ?_
  rintro e w1 ⟨rfl, hb1⟩
  obtain ⟨hc1, hf1⟩ := bcell hb1
  have hz1 := hb1.size
  try simp at hz1
  have hs1x0 : w.heap.size < w1.heap.size := by omega
  have g1x0 : w1.cell? ⟨w.heap.size, 0, none⟩ = some (.int .i64 y) := (hc1 _ _ (by first | omega | (simp; done) | (simp; omega))).trans (by first | assumption | simp [go_sem] | simp [go_sem, *])
  have g1x1 : w1.cell? ⟨w.heap.size, 1, none⟩ = some (.int .i64 n) := (hc1 _ _ (by first | omega | (simp; done) | (simp; omega))).trans (by first | assumption | simp [go_sem] | simp [go_sem, *])
  have g1x2 : w1.cell? ⟨w.heap.size, 2, none⟩ = some (.bool l) := (hc1 _ _ (by first | omega | (simp; done) | (simp; omega))).trans (by first | assumption | simp [go_sem] | simp [go_sem, *])
  have g1x3 : w1.cell? ⟨w.heap.size, 3, none⟩ = some (.int .i64 d) := (hc1 _ _ (by first | omega | (simp; done) | (simp; omega))).trans (by first | assumption | simp [go_sem] | simp [go_sem, *])
  go_wp2_with fail
  go_ret
  exact ⟨rfl, bt (ba _ _) hb1⟩
theorem ref10_Check (y n : Int) (l : Bool) (d : Int) (w : World) (hy : I64 y) :
    Calls Tryd.prog 13 #[.agg #[.int .i64 y, .int .i64 n, .bool l, .int .i64 d]] w fun e w' => e = .returned (.int .i64 (D10.dateE y n l d)) ∧ Below w.heap.size w w' := by
  rcases D10.dateE_cases y n l d with ⟨c, e⟩ | ⟨c, p, e⟩ | ⟨c, p, h3, e⟩ | ⟨c, p, h3, h4, e⟩ | ⟨c, p, h3, h4, e⟩ <;> rw [e]
  · have h := ref10_Check_err y n l d w hy (by simp [D10.lastE, c])
    rwa [show D10.lastE y n l = 2 by simp [D10.lastE, c]] at h
  · have h := ref10_Check_err y n l d w hy (by simp [D10.lastE, c, p])
    rwa [show D10.lastE y n l = 3 by simp [D10.lastE, c, p]] at h
  · exact ref10_Check_low y n l d w hy (by simp [D10.lastE, c, p]) h3
  · exact ref10_Check_high y n l d w hy (by simp [D10.lastE, c, p]) h3 (by simpa [D10.lastV, c, p] using h4)
  · exact ref10_Check_ok y n l d w hy (by simp [D10.lastE, c, p]) h3 (by simpa [D10.lastV, c, p] using h4)
end Go.Proofs.YtgcpflbpiifdbaaDoor
