import Derived.Test.YtgojeobnoebnlaaGreatDoorQHE
import Derived.Test.YtgojeobnoebnlaaGreatDoorQBB
set_option maxHeartbeats 8000000
set_option maxRecDepth 100000
set_option linter.unusedVariables false
section
namespace Go.Proofs.YtgojeobnoebnlaaGreatDoor
open Go.ChangeShapes Go.WideShapes Go.ChangeAt Go.RowKit
theorem ref10_Last_year (y n : Int) (l : Bool) (w : World) (hy : I64 y) (h : y < 1 ∨ 9999 < y) :
  Calls Tryo.prog 114 #[.int .i64 y, .agg #[.int .i64 n, .bool l]] w fun e w' => e = .returned (.tuple #[.int .i64 (0), .int .i64 2]) ∧ Below w.heap.size w w' := by
 go_enter Tryo.func114, Tryz.ntmps114
 go_wp2_with fail
 refine (ref7_Of_no y _ hy h).mono ?_
 rintro e w1 ⟨rfl, hb1⟩
 obtain ⟨hc1, hf1⟩ := bcell hb1
 have hz1 := hb1.size
 try simp at hz1
 have hs1x0 : w.heap.size < w1.heap.size := by omega
 have g1x0 : w1.cell? ⟨w.heap.size, 0, none⟩ = some (.int .i64 n) := celB hc1
 have g1x1 : w1.cell? ⟨w.heap.size, 1, none⟩ = some (.bool l) := celB hc1
 go_wp2_with fail
 go_ret2
 exact ⟨rfl, baa (bt (ba _ _) hb1) _⟩
theorem ref10_Last_month (y n : Int) (l : Bool) (w : World) (hy : I64 y) (h1 : 1 ≤ y) (h2 : y ≤ 9999) (hp : Cal.plOk (Cal.leap y) n l = false) :
  Calls Tryo.prog 114 #[.int .i64 y, .agg #[.int .i64 n, .bool l]] w fun e w' => e = .returned (.tuple #[.int .i64 (0), .int .i64 3]) ∧ Below w.heap.size w w' := by
 have hv : Cal.plV (Cal.leap y) n l = 0 := by simp [Cal.plV, hp]
 have HP := Lib.hid (fun w => (show Calls Tryo.prog 79 #[.bool (Cal.leap y), .agg #[.int .i64 n, .bool l]] w (fun e w' => e = .returned (.tuple #[.int .i64 (Cal.plV (Cal.leap y) n l), .bool false]) ∧ Below w.heap.size w w') from hp ▸ ref9_Place_any (Cal.leap y) n l w))
 clear hp
 rw [hv] at HP
 clear hv
 go_enter Tryo.func114, Tryz.ntmps114
 go_wp2_with fail
 refine (ref7_Of_ok y _ h1 h2).mono ?_
 rintro e w1 ⟨rfl, hb1⟩
 obtain ⟨hc1, hf1⟩ := bcell hb1
 have hz1 := hb1.size
 try simp at hz1
 have hs1x0 : w.heap.size < w1.heap.size := by omega
 have g1x0 : w1.cell? ⟨w.heap.size, 0, none⟩ = some (.int .i64 n) := celB hc1
 have g1x1 : w1.cell? ⟨w.heap.size, 1, none⟩ = some (.bool l) := celB hc1
 go_wp2_with fail
 refine (HP.out _).mono ?_
 rintro e w2 ⟨rfl, hb2⟩
 obtain ⟨hc2, hf2⟩ := bcell hb2
 have hz2 := hb2.size
 try simp at hz2
 have hl2w1 : w1.heap.size < w2.heap.size := by omega
 have hm2w1 : w1.heap.size ≤ w2.heap.size := by omega
 have hs2x0 : w.heap.size < w2.heap.size := by omega
 have g2x0 : w2.cell? ⟨w.heap.size, 0, none⟩ = some (.int .i64 n) := celB hc2
 have g2x1 : w2.cell? ⟨w.heap.size, 1, none⟩ = some (.bool l) := celB hc2
 have g2x2 : w2.cell? ⟨w1.heap.size, 0, none⟩ = some (.int .i64 (Cal.first y % 7)) := celB hc2
 have g2x3 : w2.cell? ⟨w1.heap.size, 1, none⟩ = some (.int .i64 (Cal.kind y)) := celB hc2
 have g2x4 : w2.cell? ⟨w1.heap.size, 2, none⟩ = some (.bool (Cal.leap y)) := celB hc2
 go_wp2_with fail
 go_ret2
 exact ⟨rfl, bt (baa (bt (ba _ _) hb1) _) hb2⟩
theorem ref10_Last_ok (y n : Int) (l : Bool) (w : World) (hy : I64 y) (h1 : 1 ≤ y) (h2 : y ≤ 9999) (hp : Cal.plOk (Cal.leap y) n l = true) :
  Calls Tryo.prog 114 #[.int .i64 y, .agg #[.int .i64 n, .bool l]] w fun e w' => e = .returned (.tuple #[.int .i64 (daysV (Cal.first y % 7) (Cal.kind y) (Cal.leap y) (Cal.plV (Cal.leap y) n l)), .int .i64 0]) ∧ Below w.heap.size w w' := by
 have HP := Lib.hid (fun w => (show Calls Tryo.prog 79 #[.bool (Cal.leap y), .agg #[.int .i64 n, .bool l]] w (fun e w' => e = .returned (.tuple #[.int .i64 (Cal.plV (Cal.leap y) n l), .bool true]) ∧ Below w.heap.size w w') from hp ▸ ref9_Place_any (Cal.leap y) n l w))
 clear hp
 go_enter Tryo.func114, Tryz.ntmps114
 go_wp2_with fail
 refine (ref7_Of_ok y _ h1 h2).mono ?_
 rintro e w1 ⟨rfl, hb1⟩
 obtain ⟨hc1, hf1⟩ := bcell hb1
 have hz1 := hb1.size
 try simp at hz1
 have hs1x0 : w.heap.size < w1.heap.size := by omega
 have g1x0 : w1.cell? ⟨w.heap.size, 0, none⟩ = some (.int .i64 n) := celB hc1
 have g1x1 : w1.cell? ⟨w.heap.size, 1, none⟩ = some (.bool l) := celB hc1
 go_wp2_with fail
 refine (HP.out _).mono ?_
 rintro e w2 ⟨rfl, hb2⟩
 obtain ⟨hc2, hf2⟩ := bcell hb2
 have hz2 := hb2.size
 try simp at hz2
 have hl2w1 : w1.heap.size < w2.heap.size := by omega
 have hm2w1 : w1.heap.size ≤ w2.heap.size := by omega
 have hs2x0 : w.heap.size < w2.heap.size := by omega
 have g2x0 : w2.cell? ⟨w.heap.size, 0, none⟩ = some (.int .i64 n) := celB hc2
 have g2x1 : w2.cell? ⟨w.heap.size, 1, none⟩ = some (.bool l) := celB hc2
 have g2x2 : w2.cell? ⟨w1.heap.size, 0, none⟩ = some (.int .i64 (Cal.first y % 7)) := celB hc2
 have g2x3 : w2.cell? ⟨w1.heap.size, 1, none⟩ = some (.int .i64 (Cal.kind y)) := celB hc2
 have g2x4 : w2.cell? ⟨w1.heap.size, 2, none⟩ = some (.bool (Cal.leap y)) := celB hc2
 go_wp2_with fail
 refine (ref8_Days _ _ _ _ _).mono ?_
 rintro e w3 ⟨rfl, hb3⟩
 go_wp2_with fail
 go_ret2
 exact ⟨rfl, bt (bt (baa (bt (ba _ _) hb1) _) hb2) hb3⟩
theorem ref10_Last (y n : Int) (l : Bool) (w : World) (hy : I64 y) :
  Calls Tryo.prog 114 #[.int .i64 y, .agg #[.int .i64 n, .bool l]] w fun e w' => e = .returned (.tuple #[.int .i64 (D10.lastV y n l), .int .i64 (D10.lastE y n l)]) ∧ Below w.heap.size w w' := by
 cases c : Cal.yearIn y
 ·rw [show D10.lastV y n l = 0 by simp [D10.lastV, c], show D10.lastE y n l = 2 by simp [D10.lastE, c]]
  exact ref10_Last_year y n l w hy (D10.year_out y c)
 ·obtain ⟨h1, h2⟩ := D10.year_in y c
  cases p : Cal.plOk (Cal.leap y) n l
  ·rw [show D10.lastV y n l = 0 by simp [D10.lastV, p], show D10.lastE y n l = 3 by simp [D10.lastE, c, p]]
   exact ref10_Last_month y n l w hy h1 h2 p
  ·rw [show D10.lastV y n l = D10.dLen y (Cal.plV (Cal.leap y) n l) by simp [D10.lastV, c, p], show D10.lastE y n l = 0 by simp [D10.lastE, c, p]]
   exact ref10_Last_ok y n l w hy h1 h2 p
theorem ref10_Check_err (y n : Int) (l : Bool) (d : Int) (w : World) (hy : I64 y) (he : ¬ D10.lastE y n l = 0) :
  Calls Tryo.prog 77 #[.agg #[.int .i64 y, .int .i64 n, .bool l, .int .i64 d]] w fun e w' => e = .returned (.int .i64 (D10.lastE y n l)) ∧ Below w.heap.size w w' := by
 have hLt := Lib.hid (fun w => ref10_Last y n l w hy)
 generalize D10.lastV y n l = lv at *
 generalize D10.lastE y n l = le at *
 go_enter Tryo.func77, Tryz.ntmps77
 go_wp2_with fail
 refine (hLt.out _).mono ?_
 rintro e w1 ⟨rfl, hb1⟩
 obtain ⟨hc1, hf1⟩ := bcell hb1
 have hz1 := hb1.size
 try simp at hz1
 have hs1x0 : w.heap.size < w1.heap.size := by omega
 have g1x0 : w1.cell? ⟨w.heap.size, 0, none⟩ = some (.int .i64 y) := celB hc1
 have g1x1 : w1.cell? ⟨w.heap.size, 1, none⟩ = some (.int .i64 n) := celB hc1
 have g1x2 : w1.cell? ⟨w.heap.size, 2, none⟩ = some (.bool l) := celB hc1
 have g1x3 : w1.cell? ⟨w.heap.size, 3, none⟩ = some (.int .i64 d) := celB hc1
 go_wp2_with fail
 go_ret
 exact ⟨rfl, bt (ba _ _) hb1⟩
theorem ref10_Check_low (y n : Int) (l : Bool) (d : Int) (w : World) (hy : I64 y) (he : D10.lastE y n l = 0) (hd : d < 1) :
  Calls Tryo.prog 77 #[.agg #[.int .i64 y, .int .i64 n, .bool l, .int .i64 d]] w fun e w' => e = .returned (.int .i64 4) ∧ Below w.heap.size w w' := by
 have hLt := Lib.hid (fun w => ref10_Last y n l w hy)
 generalize D10.lastV y n l = lv at *
 generalize D10.lastE y n l = le at *
 go_enter Tryo.func77, Tryz.ntmps77
 go_wp2_with fail
 refine (hLt.out _).mono ?_
 rintro e w1 ⟨rfl, hb1⟩
 obtain ⟨hc1, hf1⟩ := bcell hb1
 have hz1 := hb1.size
 try simp at hz1
 have hs1x0 : w.heap.size < w1.heap.size := by omega
 have g1x0 : w1.cell? ⟨w.heap.size, 0, none⟩ = some (.int .i64 y) := celB hc1
 have g1x1 : w1.cell? ⟨w.heap.size, 1, none⟩ = some (.int .i64 n) := celB hc1
 have g1x2 : w1.cell? ⟨w.heap.size, 2, none⟩ = some (.bool l) := celB hc1
 have g1x3 : w1.cell? ⟨w.heap.size, 3, none⟩ = some (.int .i64 d) := celB hc1
 go_wp2_with fail
 go_ret
 exact ⟨rfl, bt (ba _ _) hb1⟩
theorem ref10_Check_high (y n : Int) (l : Bool) (d : Int) (w : World) (hy : I64 y) (he : D10.lastE y n l = 0) (hd : 1 ≤ d) (hh : D10.lastV y n l < d) :
  Calls Tryo.prog 77 #[.agg #[.int .i64 y, .int .i64 n, .bool l, .int .i64 d]] w fun e w' => e = .returned (.int .i64 4) ∧ Below w.heap.size w w' := by
 have hLt := Lib.hid (fun w => ref10_Last y n l w hy)
 generalize D10.lastV y n l = lv at *
 generalize D10.lastE y n l = le at *
 go_enter Tryo.func77, Tryz.ntmps77
 go_wp2_with fail
 refine (hLt.out _).mono ?_
 rintro e w1 ⟨rfl, hb1⟩
 obtain ⟨hc1, hf1⟩ := bcell hb1
 have hz1 := hb1.size
 try simp at hz1
 have hs1x0 : w.heap.size < w1.heap.size := by omega
 have g1x0 : w1.cell? ⟨w.heap.size, 0, none⟩ = some (.int .i64 y) := celB hc1
 have g1x1 : w1.cell? ⟨w.heap.size, 1, none⟩ = some (.int .i64 n) := celB hc1
 have g1x2 : w1.cell? ⟨w.heap.size, 2, none⟩ = some (.bool l) := celB hc1
 have g1x3 : w1.cell? ⟨w.heap.size, 3, none⟩ = some (.int .i64 d) := celB hc1
 go_wp2_with fail
 go_ret
 exact ⟨rfl, bt (ba _ _) hb1⟩
theorem ref10_Check_ok (y n : Int) (l : Bool) (d : Int) (w : World) (hy : I64 y) (he : D10.lastE y n l = 0) (hd : 1 ≤ d) (hh : d ≤ D10.lastV y n l) :
  Calls Tryo.prog 77 #[.agg #[.int .i64 y, .int .i64 n, .bool l, .int .i64 d]] w fun e w' => e = .returned (.int .i64 0) ∧ Below w.heap.size w w' := by
 have hLt := Lib.hid (fun w => ref10_Last y n l w hy)
 generalize D10.lastV y n l = lv at *
 generalize D10.lastE y n l = le at *
 go_enter Tryo.func77, Tryz.ntmps77
 go_wp2_with fail
 refine (hLt.out _).mono ?_
 rintro e w1 ⟨rfl, hb1⟩
 obtain ⟨hc1, hf1⟩ := bcell hb1
 have hz1 := hb1.size
 try simp at hz1
 have hs1x0 : w.heap.size < w1.heap.size := by omega
 have g1x0 : w1.cell? ⟨w.heap.size, 0, none⟩ = some (.int .i64 y) := celB hc1
 have g1x1 : w1.cell? ⟨w.heap.size, 1, none⟩ = some (.int .i64 n) := celB hc1
 have g1x2 : w1.cell? ⟨w.heap.size, 2, none⟩ = some (.bool l) := celB hc1
 have g1x3 : w1.cell? ⟨w.heap.size, 3, none⟩ = some (.int .i64 d) := celB hc1
 go_wp2_with fail
 go_ret
 exact ⟨rfl, bt (ba _ _) hb1⟩
theorem ref10_Check (y n : Int) (l : Bool) (d : Int) (w : World) (hy : I64 y) :
  Calls Tryo.prog 77 #[.agg #[.int .i64 y, .int .i64 n, .bool l, .int .i64 d]] w fun e w' => e = .returned (.int .i64 (D10.dateE y n l d)) ∧ Below w.heap.size w w' := by
 rcases D10.dateE_cases y n l d with ⟨c, e⟩ | ⟨c, p, e⟩ | ⟨c, p, h3, e⟩ | ⟨c, p, h3, h4, e⟩ | ⟨c, p, h3, h4, e⟩ <;> rw [e]
 ·have h := ref10_Check_err y n l d w hy (by simp [D10.lastE, c])
  rwa [show D10.lastE y n l = 2 by simp [D10.lastE, c]] at h
 ·have h := ref10_Check_err y n l d w hy (by simp [D10.lastE, c, p])
  rwa [show D10.lastE y n l = 3 by simp [D10.lastE, c, p]] at h
 ·exact ref10_Check_low y n l d w hy (by simp [D10.lastE, c, p]) h3
 ·exact ref10_Check_high y n l d w hy (by simp [D10.lastE, c, p]) h3 (by simpa [D10.lastV, c, p] using h4)
 ·exact ref10_Check_ok y n l d w hy (by simp [D10.lastE, c, p]) h3 (by simpa [D10.lastV, c, p] using h4)
end Go.Proofs.YtgojeobnoebnlaaGreatDoor
end
section
namespace Go.Proofs.YtgojeobnoebnlaaGreatDoor
open Go.ChangeShapes Go.WideShapes Go.ChangeAt Go.RowKit
theorem ref10_ToDay_no (y n : Int) (l : Bool) (d : Int) (w : World) (hy : I64 y) (he : ¬ D10.dateE y n l d = 0) :
  Calls Tryo.prog 38 #[.agg #[.int .i64 y, .int .i64 n, .bool l, .int .i64 d]] w fun e w' => e = .returned (.tuple #[.int .i64 0, .int .i64 (D10.dateE y n l d)]) ∧ Below w.heap.size w w' := by
 have hC := Lib.hid (fun w => ref10_Check y n l d w hy)
 generalize D10.dateE y n l d = de at *
 go_enter Tryo.func38, Tryz.ntmps38
 go_wp2_with fail
 refine (hC.out _).mono ?_
 rintro e w1 ⟨rfl, hb1⟩
 obtain ⟨hc1, hf1⟩ := bcell hb1
 have hz1 := hb1.size
 try simp at hz1
 have hs1x0 : w.heap.size < w1.heap.size := by omega
 have g1x0 : w1.cell? ⟨w.heap.size, 0, none⟩ = some (.int .i64 y) := celB hc1
 have g1x1 : w1.cell? ⟨w.heap.size, 1, none⟩ = some (.int .i64 n) := celB hc1
 have g1x2 : w1.cell? ⟨w.heap.size, 2, none⟩ = some (.bool l) := celB hc1
 have g1x3 : w1.cell? ⟨w.heap.size, 3, none⟩ = some (.int .i64 d) := celB hc1
 go_wp2_with fail
 go_ret2
 exact ⟨rfl, bt (ba _ _) hb1⟩
theorem ref10_ToDay_ok (y n : Int) (l : Bool) (d : Int) (w : World) (hy : I64 y) (he : D10.dateE y n l d = 0) :
  Calls Tryo.prog 38 #[.agg #[.int .i64 y, .int .i64 n, .bool l, .int .i64 d]] w fun e w' => e = .returned (.tuple #[.int .i64 (D10.dayV y n l d), .int .i64 0]) ∧ Below w.heap.size w w' := by
 obtain ⟨hv, hp⟩ := D10.date_valid he
 obtain ⟨h1, h2, m1, m2, d1, d2⟩ := hv
 have hlb := D10.len_bd y _ h1 h2 m1 m2
 have hab := D10.ahead_nn y _ h1 h2 m1 m2
 have hob := long_bd y h1 h2
 have hfb := first_bd y (by omega) (by omega)
 have hC : ∀ w, Calls Tryo.prog 77 #[.agg #[.int .i64 y, .int .i64 n, .bool l, .int .i64 d]] w fun e w' => e = .returned (.int .i64 0) ∧ Below w.heap.size w w' := fun w => by
  have := ref10_Check y n l d w hy
  rwa [he] at this
 have hP : ∀ w, Calls Tryo.prog 79 #[.bool (Cal.leap y), .agg #[.int .i64 n, .bool l]] w (fun e w' => e = .returned (.tuple #[.int .i64 (Cal.plV (Cal.leap y) n l), .bool true]) ∧ Below w.heap.size w w') := fun w => hp ▸ ref9_Place_any (Cal.leap y) n l w
 have hA := fun w => ref8_Ahead (Cal.first y % 7) (Cal.kind y) (Cal.leap y) (Cal.plV (Cal.leap y) n l) w
 have hO := fun w => ref7_Of_ok y w h1 h2
 have hF := fun w => ref5_First_ok y w (by omega) (by omega)
 rw [show D10.dayV y n l d = Cal.first y + D10.dAhead y (Cal.plV (Cal.leap y) n l) + d - 1 by simp [D10.dayV, he, D10.dayOf]]
 rw [show D10.dAhead y (Cal.plV (Cal.leap y) n l) = aheadV (Cal.first y % 7) (Cal.kind y) (Cal.leap y) (Cal.plV (Cal.leap y) n l) from rfl] at *
 generalize aheadV (Cal.first y % 7) (Cal.kind y) (Cal.leap y) (Cal.plV (Cal.leap y) n l) = A at *
 generalize D10.dLen y (Cal.plV (Cal.leap y) n l) = L at *
 generalize Cal.plV (Cal.leap y) n l = m at *
 generalize Cal.first y % 7 = kb at *
 generalize Cal.first y = fy at *
 generalize Cal.kind y = kk at *
 generalize Cal.leap y = lp at *
 generalize Cal.long y = lg at *
 have HC := Lib.hid hC
 have HP := Lib.hid hP
 have HA := Lib.hid hA
 have HO := Lib.hid hO
 have HF := Lib.hid hF
 clear hC hP hA hO hF he hp
 have b1 : -7300000 ≤ fy + A := by omega
 have b2 : fy + A ≤ 4601000 := by omega
 go_enter Tryo.func38, Tryz.ntmps38
 go_wp2_with fail
 refine (HC.out _).mono ?_
 rintro e w1 ⟨rfl, hb1⟩
 obtain ⟨hc1, hf1⟩ := bcell hb1
 have hz1 := hb1.size
 try simp at hz1
 have hs1x0 : w.heap.size < w1.heap.size := by omega
 have g1x0 : w1.cell? ⟨w.heap.size, 0, none⟩ = some (.int .i64 y) := celB hc1
 have g1x1 : w1.cell? ⟨w.heap.size, 1, none⟩ = some (.int .i64 n) := celB hc1
 have g1x2 : w1.cell? ⟨w.heap.size, 2, none⟩ = some (.bool l) := celB hc1
 have g1x3 : w1.cell? ⟨w.heap.size, 3, none⟩ = some (.int .i64 d) := celB hc1
 go_wp2_with fail
 refine (HO.out _).mono ?_
 rintro e w2 ⟨rfl, hb2⟩
 obtain ⟨hc2, hf2⟩ := bcell hb2
 have hz2 := hb2.size
 try simp at hz2
 have hs2x0 : w.heap.size < w2.heap.size := by omega
 have g2x0 : w2.cell? ⟨w.heap.size, 0, none⟩ = some (.int .i64 y) := celB hc2
 have g2x1 : w2.cell? ⟨w.heap.size, 1, none⟩ = some (.int .i64 n) := celB hc2
 have g2x2 : w2.cell? ⟨w.heap.size, 2, none⟩ = some (.bool l) := celB hc2
 have g2x3 : w2.cell? ⟨w.heap.size, 3, none⟩ = some (.int .i64 d) := celB hc2
 go_wp2_with fail
 refine (HP.out _).mono ?_
 rintro e w3 ⟨rfl, hb3⟩
 obtain ⟨hc3, hf3⟩ := bcell hb3
 have hz3 := hb3.size
 try simp at hz3
 have hl3w2 : w2.heap.size < w3.heap.size := by omega
 have hm3w2 : w2.heap.size ≤ w3.heap.size := by omega
 have hs3x0 : w.heap.size < w3.heap.size := by omega
 have g3x0 : w3.cell? ⟨w.heap.size, 0, none⟩ = some (.int .i64 y) := celB hc3
 have g3x1 : w3.cell? ⟨w.heap.size, 1, none⟩ = some (.int .i64 n) := celB hc3
 have g3x2 : w3.cell? ⟨w.heap.size, 2, none⟩ = some (.bool l) := celB hc3
 have g3x3 : w3.cell? ⟨w.heap.size, 3, none⟩ = some (.int .i64 d) := celB hc3
 have g3x4 : w3.cell? ⟨w2.heap.size, 0, none⟩ = some (.int .i64 kb) := celB hc3
 have g3x5 : w3.cell? ⟨w2.heap.size, 1, none⟩ = some (.int .i64 kk) := celB hc3
 have g3x6 : w3.cell? ⟨w2.heap.size, 2, none⟩ = some (.bool lp) := celB hc3
 go_wp2_with fail
 refine (HF.out _).mono ?_
 rintro e w4 ⟨rfl, hb4⟩
 obtain ⟨hc4, hf4⟩ := bcell hb4
 have hz4 := hb4.size
 try simp at hz4
 have hl4w2 : w2.heap.size < w4.heap.size := by omega
 have hm4w2 : w2.heap.size ≤ w4.heap.size := by omega
 have hs4x0 : w.heap.size < w4.heap.size := by omega
 have g4x0 : w4.cell? ⟨w.heap.size, 0, none⟩ = some (.int .i64 y) := celB hc4
 have g4x1 : w4.cell? ⟨w.heap.size, 1, none⟩ = some (.int .i64 n) := celB hc4
 have g4x2 : w4.cell? ⟨w.heap.size, 2, none⟩ = some (.bool l) := celB hc4
 have g4x3 : w4.cell? ⟨w.heap.size, 3, none⟩ = some (.int .i64 d) := celB hc4
 have g4x4 : w4.cell? ⟨w2.heap.size, 0, none⟩ = some (.int .i64 kb) := celB hc4
 have g4x5 : w4.cell? ⟨w2.heap.size, 1, none⟩ = some (.int .i64 kk) := celB hc4
 have g4x6 : w4.cell? ⟨w2.heap.size, 2, none⟩ = some (.bool lp) := celB hc4
 go_wp2_with fail
 refine wp_region_class (by kernel_rfl) (by kernel_rfl) (fun hall => ?_)
 repeat (first | go_big_quiet_skip | (go_big_quiet_want; first | (refine quiet_load1 _ _ _ rfl rfl ?_ ?_ ?_; (focus (intro _; simp; done)); (focus (first | assumption | omega | (simp; done) | (simp; omega))); apply Exists.intro; refine ⟨?_, ?_⟩; assumption; go_simp; go_big_quiet_on) | (refine quiet_load2 _ _ _ _ rfl rfl ?_ ?_ ?_ ?_; (focus (intro _; simp; done)); (focus (intro _; simp; done)); (focus (first | assumption | omega | (simp; done) | (simp; omega))); apply Exists.intro; apply Exists.intro; refine ⟨?_, ?_, ?_⟩; assumption; assumption; go_simp; go_big_quiet_on) | (refine quiet_load3 _ _ _ _ rfl rfl ?_ ?_ ?_ ?_; (focus (intro _; simp; done)); (focus (intro _; simp; done)); (focus (first | assumption | omega | (simp; done) | (simp; omega))); apply Exists.intro; apply Exists.intro; apply Exists.intro; refine ⟨?_, ?_, ?_, ?_⟩; assumption; assumption; assumption; go_simp; go_big_quiet_on) | (refine quiet_load4 _ _ _ _ rfl rfl ?_ ?_ ?_ ?_; (focus (intro _; simp; done)); (focus (intro _; simp; done)); (focus (first | assumption | omega | (simp; done) | (simp; omega))); apply Exists.intro; apply Exists.intro; apply Exists.intro; apply Exists.intro; refine ⟨?_, ?_, ?_, ?_, ?_⟩; assumption; assumption; assumption; assumption; go_simp; go_big_quiet_on) | (go_big_quiet_op; first | go_big_quiet_on | (apply Exists.intro; refine ⟨fun x hx => ?_, ?_⟩; (first | exact call_below hx (HA.out x)); go_big_quiet_on))))
 refine wpQuiet_nil ?_
 clear hall
 intro x5 hx5
 go_wp2_with fail
 go_ret2
 exact ⟨rfl, bt (bt (bt (baa (bt (bt (ba _ _) hb1) hb2) _) hb3) hb4) hx5⟩
theorem ref10_ToDay (y n : Int) (l : Bool) (d : Int) (w : World) (hy : I64 y) :
  Calls Tryo.prog 38 #[.agg #[.int .i64 y, .int .i64 n, .bool l, .int .i64 d]] w fun e w' => e = .returned (.tuple #[.int .i64 (D10.dayV y n l d), .int .i64 (D10.dateE y n l d)]) ∧ Below w.heap.size w w' := by
 by_cases c : D10.dateE y n l d = 0
 ·rw [c]
  exact ref10_ToDay_ok y n l d w hy c
 ·rw [D10.dayV_no y n l d c]
  exact ref10_ToDay_no y n l d w hy c
def KevAt (w : World) (g : Nat) (b k : Int) (lp : Bool) : Prop := w.cell? ⟨g, 0, none⟩ = some (.int .i64 b) ∧ w.cell? ⟨g, 1, none⟩ = some (.int .i64 k) ∧ w.cell? ⟨g, 2, none⟩ = some (.bool lp) ∧ g < w.heap.size
theorem KevAt.below {w w' : World} {g : Nat} {b k : Int} {lp : Bool} (h : KevAt w g b k lp) (hb : Below w.heap.size w w') : KevAt w' g b k lp := by
 obtain ⟨h0, h1, h2, hs⟩ := h
 have c := fun i => hb.cell (p := ⟨g, i, none⟩) hs
 exact ⟨(c 0).trans h0, (c 1).trans h1, (c 2).trans h2, Nat.lt_of_lt_of_le hs hb.size⟩
end Go.Proofs.YtgojeobnoebnlaaGreatDoor
end
section
namespace Go.Proofs.YtgojeobnoebnlaaGreatDoor
open Go.ChangeShapes Go.WideShapes Go.ChangeAt Go.RowKit Go.Joins
section
variable {H : Type} {enc : TypeId × Value → H} {W : World} {base b0 : Nat} {spare : Nat → Bool} {held : Bool} {r : Reach} {v : Value} {d : DataW H} {p : List MemPlace}
end
end Go.Proofs.YtgojeobnoebnlaaGreatDoor
end
section
namespace Go.Proofs.YtgojeobnoebnlaaGreatDoor
open Go.ChangeShapes Go.WideShapes Go.ChangeAt Go.RowKit
namespace D10
theorem most_one (y : Int) : 1 ≤ Cal.most (Cal.leap y) := by unfold Cal.most; split <;> omega
end D10
end Go.Proofs.YtgojeobnoebnlaaGreatDoor
end
