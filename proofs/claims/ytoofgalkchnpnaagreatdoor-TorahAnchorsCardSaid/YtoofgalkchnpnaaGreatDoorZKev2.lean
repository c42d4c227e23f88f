/- Layer 7: contracts of types and lengths. -/
import Derived.Test.YtoofgalkchnpnaaGreatDoorZKevN
namespace Go.Proofs.YtoofgalkchnpnaaGreatDoor
open Go.ChangeShapes Go.WideShapes Go.ChangeAt Go.RowKit
set_option linter.unusedVariables false
set_option maxRecDepth 100000
namespace Cal
def yearIn (y : Int) : Bool := decide (1 ≤ y) && decide (y ≤ 9999)
def yearE (y : Int) : Int := if yearIn y then 0 else 2
def long (y : Int) : Int := first (y + 1) - first y
def longV (y : Int) : Int := if yearIn y then long y else 0
def kind (y : Int) : Int := long y - (if leap y then 383 else 353)
def tyB (y : Int) : Int := if yearIn y then first y % 7 else 0
def tyK (y : Int) : Int := if yearIn y then kind y else 0
def tyL (y : Int) : Bool := yearIn y && leap y
theorem yearIn_yes (y : Int) (h1 : 1 ≤ y) (h2 : y ≤ 9999) : yearIn y = true := by simp [yearIn, h1, h2]
theorem yearIn_no (y : Int) (h : y < 1 ∨ 9999 < y) : yearIn y = false := by
  rw [Bool.eq_false_iff]; intro h'; simp only [yearIn, Bool.and_eq_true, decide_eq_true_eq] at h'; omega
theorem year_ok (y : Int) (h1 : 1 ≤ y) (h2 : y ≤ 9999) : yearE y = 0 ∧ longV y = long y ∧ tyB y = first y % 7 ∧ tyK y = kind y ∧ tyL y = leap y := by
  simp only [yearE, longV, tyB, tyK, tyL, yearIn_yes y h1 h2, if_true, Bool.true_and]; exact ⟨trivial, trivial, trivial, trivial, trivial⟩
theorem year_no (y : Int) (h : y < 1 ∨ 9999 < y) : yearE y = 2 ∧ longV y = 0 ∧ tyB y = 0 ∧ tyK y = 0 ∧ tyL y = false := by
  simp only [yearE, longV, tyB, tyK, tyL, yearIn_no y h, Bool.false_and, Bool.false_eq_true, if_false]; exact ⟨trivial, trivial, trivial, trivial, trivial⟩
end Cal
theorem long_bd (y : Int) (h1 : 1 ≤ y) (h2 : y ≤ 9999) : 353 ≤ Cal.long y ∧ Cal.long y ≤ 385 := by
  have := Cal.year_long y (by omega) (by omega)
  unfold Cal.long
  split at this <;> omega
theorem kind_bd (y : Int) (h1 : 1 ≤ y) (h2 : y ≤ 9999) : 0 ≤ Cal.kind y ∧ Cal.kind y ≤ 2 := by
  have := Cal.year_long y (by omega) (by omega)
  unfold Cal.kind Cal.long
  split at this <;> rename_i h <;> simp only [h] <;> simp <;> omega
set_option maxHeartbeats 1000000 in
theorem keviah_ends_ok (y : Int) (w : World) (h1 : 1 ≤ y) (h2 : y ≤ 9999) :
    Calls Tryo.prog 145 #[.int .i64 (y)] w fun e w' => e = .returned (.tuple #[.int .i64 (Cal.first y), .int .i64 (Cal.long y), .int .i64 (0)]) ∧ Below w.heap.size w w' := by
  obtain ⟨b1, b2⟩ := first_bd y (by omega) (by omega)
  obtain ⟨b3, b4⟩ := first_bd (y + 1) (by omega) (by omega)
  have HA := Lib.hid (fun w => newyear_First_ok y w (by omega) (by omega))
  have HB := Lib.hid (fun w => newyear_First_ok (y + 1) w (by omega) (by omega))
  have HL := Lib.hid (show Cal.long y = Cal.first (y + 1) - Cal.first y from rfl)
  generalize Cal.first y = a at *
  generalize Cal.first (y + 1) = b at *
  go_enter Tryo.func145, Tryz.ntmps145
  go_wp2_with fail
  refine (HA.out _).mono ?_
  rintro e w1 ⟨rfl, hb1⟩
  obtain ⟨hc1, hf1⟩ := bcell hb1
  have hz1 := hb1.size
  try simp at hz1
  go_wp2_with fail
  refine (HB.out _).mono ?_
  rintro e w2 ⟨rfl, hb2⟩
  obtain ⟨hc2, hf2⟩ := bcell hb2
  have hz2 := hb2.size
  try simp at hz2
  go_wp2_with fail
  go_ret3
  rw [HL.out]
  exact ⟨rfl, bt hb1 hb2⟩
set_option maxHeartbeats 1000000 in
theorem keviah_ends_no (y : Int) (w : World) (hy : I64 y) (h : y < 1 ∨ 9999 < y) :
    Calls Tryo.prog 145 #[.int .i64 (y)] w fun e w' => e = .returned (.tuple #[.int .i64 (0), .int .i64 (0), .int .i64 (2)]) ∧ Below w.heap.size w w' := by
  rcases (show y < 1 ∨ (1 ≤ y ∧ 9999 < y) by omega) with c | ⟨c1, c2⟩
  all_goals clear h
  all_goals go_enter Tryo.func145, Tryz.ntmps145
  all_goals go_wp2_with fail
  all_goals go_ret3
  all_goals exact ⟨rfl, Below.refl _ _⟩
set_option maxHeartbeats 1000000 in
theorem keviah_Of_ok (y : Int) (w : World) (h1 : 1 ≤ y) (h2 : y ≤ 9999) :
    Calls Tryo.prog 115 #[.int .i64 (y)] w fun e w' => e = .returned (.tuple #[.agg #[.int .i64 (Cal.first y % 7), .int .i64 (Cal.kind y), .bool (Cal.leap y)], .int .i64 (0)]) ∧ Below w.heap.size w w' := by
  obtain ⟨b1, b2⟩ := first_bd y (by omega) (by omega)
  obtain ⟨b3, b4⟩ := long_bd y h1 h2
  have HA := Lib.hid (fun w => keviah_ends_ok y w h1 h2)
  have HI := Lib.hid (fun w => cycle_Leap_ok y w (by omega) (by omega))
  cases hl : Cal.leap y
  · have hk : Cal.kind y = Cal.long y - 353 := by unfold Cal.kind; rw [hl]; rfl
    have HK := Lib.hid hk
    rw [hl] at HI
    clear hk hl
    generalize Cal.first y = a at *
    generalize Cal.long y = b at *
    go_enter Tryo.func115, Tryz.ntmps115
    go_wp2_with fail
    refine (HA.out _).mono ?_
    rintro e w1 ⟨rfl, hb1⟩
    obtain ⟨hc1, hf1⟩ := bcell hb1
    have hz1 := hb1.size
    try simp at hz1
    have hl1w : w.heap.size < w1.heap.size := by omega
    have hm1w : w.heap.size ≤ w1.heap.size := by omega
    have g1x0 : w1.cell? ⟨w.heap.size, 0, none⟩ = some (.int .i64 0) := (hc1 _ _ (by first | omega | (simp; done) | (simp; omega))).trans (by first | assumption | simp [go_sem] | simp [go_sem, *])
    have g1x1 : w1.cell? ⟨w.heap.size, 1, none⟩ = some (.int .i64 0) := (hc1 _ _ (by first | omega | (simp; done) | (simp; omega))).trans (by first | assumption | simp [go_sem] | simp [go_sem, *])
    have g1x2 : w1.cell? ⟨w.heap.size, 2, none⟩ = some (.bool false) := (hc1 _ _ (by first | omega | (simp; done) | (simp; omega))).trans (by first | assumption | simp [go_sem] | simp [go_sem, *])
    go_wp2_with fail
    refine (HI.out _).mono ?_
    rintro e w' ⟨rfl, rfl⟩
    go_wp2_with fail
    refine (molad_Weekday a _ (by unfold I64; omega)).mono ?_
    rintro e w' ⟨rfl, rfl⟩
    go_wp2_with fail
    rw [HK.out]
    refine bodyPost_ret (v := .tuple #[.agg #[.int .i64 (a % 7), .int .i64 (b - 353), .bool false], .int .i64 0]) (by simp [results, Tryz.results115, go_sem, g1x0, g1x1, g1x2]) rfl ⟨rfl, ?_⟩
    repeat (first | exact Below.refl _ _ | assumption | (with_reducible refine bdrew ?_) | (with_reducible refine baa ?_ _) | (with_reducible refine bs ?_ (by first | exact Nat.le_refl _ | omega | (simp; omega)) _) | (with_reducible refine bt ?_ (by assumption)))
  · have hk : Cal.kind y = Cal.long y - 383 := by unfold Cal.kind; rw [hl]; rfl
    have HK := Lib.hid hk
    rw [hl] at HI
    clear hk hl
    generalize Cal.first y = a at *
    generalize Cal.long y = b at *
    go_enter Tryo.func115, Tryz.ntmps115
    go_wp2_with fail
    refine (HA.out _).mono ?_
    rintro e w1 ⟨rfl, hb1⟩
    obtain ⟨hc1, hf1⟩ := bcell hb1
    have hz1 := hb1.size
    try simp at hz1
    have hl1w : w.heap.size < w1.heap.size := by omega
    have hm1w : w.heap.size ≤ w1.heap.size := by omega
    have g1x0 : w1.cell? ⟨w.heap.size, 0, none⟩ = some (.int .i64 0) := (hc1 _ _ (by first | omega | (simp; done) | (simp; omega))).trans (by first | assumption | simp [go_sem] | simp [go_sem, *])
    have g1x1 : w1.cell? ⟨w.heap.size, 1, none⟩ = some (.int .i64 0) := (hc1 _ _ (by first | omega | (simp; done) | (simp; omega))).trans (by first | assumption | simp [go_sem] | simp [go_sem, *])
    have g1x2 : w1.cell? ⟨w.heap.size, 2, none⟩ = some (.bool false) := (hc1 _ _ (by first | omega | (simp; done) | (simp; omega))).trans (by first | assumption | simp [go_sem] | simp [go_sem, *])
    go_wp2_with fail
    refine (HI.out _).mono ?_
    rintro e w' ⟨rfl, rfl⟩
    go_wp2_with fail
    refine (molad_Weekday a _ (by unfold I64; omega)).mono ?_
    rintro e w' ⟨rfl, rfl⟩
    go_wp2_with fail
    rw [HK.out]
    refine bodyPost_ret (v := .tuple #[.agg #[.int .i64 (a % 7), .int .i64 (b - 383), .bool true], .int .i64 0]) (by simp [results, Tryz.results115, go_sem, g1x0, g1x1, g1x2]) rfl ⟨rfl, ?_⟩
    repeat (first | exact Below.refl _ _ | assumption | (with_reducible refine bdrew ?_) | (with_reducible refine baa ?_ _) | (with_reducible refine bs ?_ (by first | exact Nat.le_refl _ | omega | (simp; omega)) _) | (with_reducible refine bt ?_ (by assumption)))
set_option maxHeartbeats 1000000 in
theorem keviah_Of_no (y : Int) (w : World) (hy : I64 y) (h : y < 1 ∨ 9999 < y) :
    Calls Tryo.prog 115 #[.int .i64 (y)] w fun e w' => e = .returned (.tuple #[.agg #[.int .i64 (0), .int .i64 (0), .bool false], .int .i64 (2)]) ∧ Below w.heap.size w w' := by
  have HA := Lib.hid (fun w => keviah_ends_no y w hy h)
  clear h
  go_enter Tryo.func115, Tryz.ntmps115
  go_wp2_with fail
  refine (HA.out _).mono ?_
  rintro e w1 ⟨rfl, hb1⟩
  obtain ⟨hc1, hf1⟩ := bcell hb1
  have hz1 := hb1.size
  try simp at hz1
  have hl1w : w.heap.size < w1.heap.size := by omega
  have hm1w : w.heap.size ≤ w1.heap.size := by omega
  have g1x0 : w1.cell? ⟨w.heap.size, 0, none⟩ = some (.int .i64 0) := (hc1 _ _ (by first | omega | (simp; done) | (simp; omega))).trans (by first | assumption | simp [go_sem] | simp [go_sem, *])
  have g1x1 : w1.cell? ⟨w.heap.size, 1, none⟩ = some (.int .i64 0) := (hc1 _ _ (by first | omega | (simp; done) | (simp; omega))).trans (by first | assumption | simp [go_sem] | simp [go_sem, *])
  have g1x2 : w1.cell? ⟨w.heap.size, 2, none⟩ = some (.bool false) := (hc1 _ _ (by first | omega | (simp; done) | (simp; omega))).trans (by first | assumption | simp [go_sem] | simp [go_sem, *])
  go_wp2_with fail
  refine bodyPost_ret (v := .tuple #[.agg #[.int .i64 0, .int .i64 0, .bool false], .int .i64 2]) (by simp [results, Tryz.results115, go_sem, g1x0, g1x1, g1x2]) rfl ⟨rfl, ?_⟩
  repeat (first | exact Below.refl _ _ | assumption | (with_reducible refine bdrew ?_) | (with_reducible refine baa ?_ _) | (with_reducible refine bs ?_ (by first | exact Nat.le_refl _ | omega | (simp; omega)) _) | (with_reducible refine bt ?_ (by assumption)))
theorem keviah_Of (y : Int) (w : World) (hy : I64 y) :
    Calls Tryo.prog 115 #[.int .i64 (y)] w fun e w' => e = .returned (.tuple #[.agg #[.int .i64 (Cal.tyB y), .int .i64 (Cal.tyK y), .bool (Cal.tyL y)], .int .i64 (Cal.yearE y)]) ∧ Below w.heap.size w w' := by
  by_cases h : 1 ≤ y ∧ y ≤ 9999
  · obtain ⟨e1, e2, e3, e4, e5⟩ := Cal.year_ok y h.1 h.2
    rw [e1, e3, e4, e5]
    exact keviah_Of_ok y w h.1 h.2
  · obtain ⟨e1, e2, e3, e4, e5⟩ := Cal.year_no y (by omega)
    rw [e1, e3, e4, e5]
    exact keviah_Of_no y w hy (by omega)
theorem ref7_Right (y : Int) (w : World) (hy : I64 y) :
    Calls Tryo.prog 71 #[.int .i64 (y)] w fun e w' => e = .returned (.bool (Cal.yearIn y)) ∧ w = w' := by
  rcases (show y < 1 ∨ (1 ≤ y ∧ 9999 < y) ∨ (1 ≤ y ∧ y ≤ 9999) by omega) with c | ⟨c1, c2⟩ | ⟨c1, c2⟩
  · rw [Cal.yearIn_no y (by omega)]
    go_enter Tryo.func71, Tryz.ntmps71
    go_wp2_with fail
    go_ret
    exact ⟨rfl, rfl⟩
  · rw [Cal.yearIn_no y (by omega)]
    have d : decide (y ≤ 9999) = false := by simpa using c2
    go_enter Tryo.func71, Tryz.ntmps71
    go_wp2_with fail
    go_ret
    exact ⟨rfl, rfl⟩
  · rw [Cal.yearIn_yes y c1 c2]
    have d : decide (y ≤ 9999) = true := by simpa using c2
    go_enter Tryo.func71, Tryz.ntmps71
    go_wp2_with fail
    go_ret
    exact ⟨rfl, rfl⟩
set_option maxHeartbeats 1000000 in
theorem ref7_Long_ok (y : Int) (w : World) (h1 : 1 ≤ y) (h2 : y ≤ 9999) :
    Calls Tryo.prog 41 #[.int .i64 (y)] w fun e w' => e = .returned (.tuple #[.int .i64 (Cal.long y), .int .i64 (0)]) ∧ Below w.heap.size w w' := by
  obtain ⟨b1, b2⟩ := first_bd y (by omega) (by omega)
  obtain ⟨b3, b4⟩ := first_bd (y + 1) (by omega) (by omega)
  have HA := Lib.hid (fun w => ref5_First_ok y w (by omega) (by omega))
  have HB := Lib.hid (fun w => ref5_First_ok (y + 1) w (by omega) (by omega))
  have HL := Lib.hid (show Cal.long y = Cal.first (y + 1) - Cal.first y from rfl)
  have hR := fun w => ref7_Right y w ⟨by omega, by omega⟩
  rw [Cal.yearIn_yes y h1 h2] at hR
  have HR := Lib.hid hR
  clear hR
  generalize Cal.first y = a at *
  generalize Cal.first (y + 1) = b at *
  go_enter Tryo.func41, Tryz.ntmps41
  go_wp2_with fail
  refine (HR.out _).mono ?_
  rintro e w' ⟨rfl, rfl⟩
  go_wp2_with fail
  refine (HA.out _).mono ?_
  rintro e w1 ⟨rfl, hb1⟩
  obtain ⟨hc1, hf1⟩ := bcell hb1
  have hz1 := hb1.size
  try simp at hz1
  go_wp2_with fail
  refine (HB.out _).mono ?_
  rintro e w2 ⟨rfl, hb2⟩
  obtain ⟨hc2, hf2⟩ := bcell hb2
  have hz2 := hb2.size
  try simp at hz2
  go_wp2_with fail
  go_ret2
  rw [HL.out]
  exact ⟨rfl, bt hb1 hb2⟩
set_option maxHeartbeats 1000000 in
theorem ref7_Long_no (y : Int) (w : World) (hy : I64 y) (h : y < 1 ∨ 9999 < y) :
    Calls Tryo.prog 41 #[.int .i64 (y)] w fun e w' => e = .returned (.tuple #[.int .i64 (0), .int .i64 (2)]) ∧ Below w.heap.size w w' := by
  have hR := fun w => ref7_Right y w hy
  rw [Cal.yearIn_no y h] at hR
  have HR := Lib.hid hR
  clear hR h
  go_enter Tryo.func41, Tryz.ntmps41
  go_wp2_with fail
  refine (HR.out _).mono ?_
  rintro e w' ⟨rfl, rfl⟩
  go_wp2_with fail
  go_ret2
  exact ⟨rfl, Below.refl _ _⟩
set_option maxHeartbeats 1000000 in
theorem ref7_Of_ok (y : Int) (w : World) (h1 : 1 ≤ y) (h2 : y ≤ 9999) :
    Calls Tryo.prog 14 #[.int .i64 (y)] w fun e w' => e = .returned (.tuple #[.agg #[.int .i64 (Cal.first y % 7), .int .i64 (Cal.kind y), .bool (Cal.leap y)], .int .i64 (0)]) ∧ Below w.heap.size w w' := by
  obtain ⟨b1, b2⟩ := first_bd y (by omega) (by omega)
  obtain ⟨b3, b4⟩ := long_bd y h1 h2
  have HA := Lib.hid (fun w => ref7_Long_ok y w h1 h2)
  have HF := Lib.hid (fun w => ref5_First_ok y w (by omega) (by omega))
  have HI := Lib.hid (fun w => ref3_Is y w (by omega) (by omega))
  cases hl : Cal.leap y
  · have hk : Cal.kind y = Cal.long y - 353 := by unfold Cal.kind; rw [hl]; rfl
    have HK := Lib.hid hk
    rw [hl] at HI
    clear hk hl
    generalize Cal.first y = a at *
    generalize Cal.long y = b at *
    go_enter Tryo.func14, Tryz.ntmps14
    go_wp2_with fail
    refine (HA.out _).mono ?_
    rintro e w1 ⟨rfl, hb1⟩
    obtain ⟨hc1, hf1⟩ := bcell hb1
    have hz1 := hb1.size
    try simp at hz1
    have hl1w : w.heap.size < w1.heap.size := by omega
    have hm1w : w.heap.size ≤ w1.heap.size := by omega
    have g1x0 : w1.cell? ⟨w.heap.size, 0, none⟩ = some (.int .i64 0) := (hc1 _ _ (by first | omega | (simp; done) | (simp; omega))).trans (by first | assumption | simp [go_sem] | simp [go_sem, *])
    have g1x1 : w1.cell? ⟨w.heap.size, 1, none⟩ = some (.int .i64 0) := (hc1 _ _ (by first | omega | (simp; done) | (simp; omega))).trans (by first | assumption | simp [go_sem] | simp [go_sem, *])
    have g1x2 : w1.cell? ⟨w.heap.size, 2, none⟩ = some (.bool false) := (hc1 _ _ (by first | omega | (simp; done) | (simp; omega))).trans (by first | assumption | simp [go_sem] | simp [go_sem, *])
    go_wp2_with fail
    refine (HF.out _).mono ?_
    rintro e w2 ⟨rfl, hb2⟩
    obtain ⟨hc2, hf2⟩ := bcell hb2
    have hz2 := hb2.size
    try simp at hz2
    have hl2w : w.heap.size < w2.heap.size := by omega
    have hm2w : w.heap.size ≤ w2.heap.size := by omega
    have g2x0 : w2.cell? ⟨w.heap.size, 0, none⟩ = some (.int .i64 0) := (hc2 _ _ (by first | omega | (simp; done) | (simp; omega))).trans (by first | assumption | simp [go_sem] | simp [go_sem, *])
    have g2x1 : w2.cell? ⟨w.heap.size, 1, none⟩ = some (.int .i64 0) := (hc2 _ _ (by first | omega | (simp; done) | (simp; omega))).trans (by first | assumption | simp [go_sem] | simp [go_sem, *])
    have g2x2 : w2.cell? ⟨w.heap.size, 2, none⟩ = some (.bool false) := (hc2 _ _ (by first | omega | (simp; done) | (simp; omega))).trans (by first | assumption | simp [go_sem] | simp [go_sem, *])
    go_wp2_with fail
    refine (ref4_Weekday a _).mono ?_
    rintro e w' ⟨rfl, rfl⟩
    go_wp2_with fail
    refine (HI.out _).mono ?_
    rintro e w' ⟨rfl, rfl⟩
    go_wp2_with fail
    rw [HK.out]
    refine bodyPost_ret (v := .tuple #[.agg #[.int .i64 (a % 7), .int .i64 (b - 353), .bool false], .int .i64 0]) (by simp [results, Tryz.results14, go_sem, g2x0, g2x1, g2x2, hl2w]) rfl ⟨rfl, ?_⟩
    repeat (first | exact Below.refl _ _ | assumption | (with_reducible refine bdrew ?_) | (with_reducible refine baa ?_ _) | (with_reducible refine bs ?_ (by first | exact Nat.le_refl _ | omega | (simp; omega)) _) | (with_reducible refine bt ?_ (by assumption)))
  · have hk : Cal.kind y = Cal.long y - 383 := by unfold Cal.kind; rw [hl]; rfl
    have HK := Lib.hid hk
    rw [hl] at HI
    clear hk hl
    generalize Cal.first y = a at *
    generalize Cal.long y = b at *
    go_enter Tryo.func14, Tryz.ntmps14
    go_wp2_with fail
    refine (HA.out _).mono ?_
    rintro e w1 ⟨rfl, hb1⟩
    obtain ⟨hc1, hf1⟩ := bcell hb1
    have hz1 := hb1.size
    try simp at hz1
    have hl1w : w.heap.size < w1.heap.size := by omega
    have hm1w : w.heap.size ≤ w1.heap.size := by omega
    have g1x0 : w1.cell? ⟨w.heap.size, 0, none⟩ = some (.int .i64 0) := (hc1 _ _ (by first | omega | (simp; done) | (simp; omega))).trans (by first | assumption | simp [go_sem] | simp [go_sem, *])
    have g1x1 : w1.cell? ⟨w.heap.size, 1, none⟩ = some (.int .i64 0) := (hc1 _ _ (by first | omega | (simp; done) | (simp; omega))).trans (by first | assumption | simp [go_sem] | simp [go_sem, *])
    have g1x2 : w1.cell? ⟨w.heap.size, 2, none⟩ = some (.bool false) := (hc1 _ _ (by first | omega | (simp; done) | (simp; omega))).trans (by first | assumption | simp [go_sem] | simp [go_sem, *])
    go_wp2_with fail
    refine (HF.out _).mono ?_
    rintro e w2 ⟨rfl, hb2⟩
    obtain ⟨hc2, hf2⟩ := bcell hb2
    have hz2 := hb2.size
    try simp at hz2
    have hl2w : w.heap.size < w2.heap.size := by omega
    have hm2w : w.heap.size ≤ w2.heap.size := by omega
    have g2x0 : w2.cell? ⟨w.heap.size, 0, none⟩ = some (.int .i64 0) := (hc2 _ _ (by first | omega | (simp; done) | (simp; omega))).trans (by first | assumption | simp [go_sem] | simp [go_sem, *])
    have g2x1 : w2.cell? ⟨w.heap.size, 1, none⟩ = some (.int .i64 0) := (hc2 _ _ (by first | omega | (simp; done) | (simp; omega))).trans (by first | assumption | simp [go_sem] | simp [go_sem, *])
    have g2x2 : w2.cell? ⟨w.heap.size, 2, none⟩ = some (.bool false) := (hc2 _ _ (by first | omega | (simp; done) | (simp; omega))).trans (by first | assumption | simp [go_sem] | simp [go_sem, *])
    go_wp2_with fail
    refine (ref4_Weekday a _).mono ?_
    rintro e w' ⟨rfl, rfl⟩
    go_wp2_with fail
    refine (HI.out _).mono ?_
    rintro e w' ⟨rfl, rfl⟩
    go_wp2_with fail
    rw [HK.out]
    refine bodyPost_ret (v := .tuple #[.agg #[.int .i64 (a % 7), .int .i64 (b - 383), .bool true], .int .i64 0]) (by simp [results, Tryz.results14, go_sem, g2x0, g2x1, g2x2, hl2w]) rfl ⟨rfl, ?_⟩
    repeat (first | exact Below.refl _ _ | assumption | (with_reducible refine bdrew ?_) | (with_reducible refine baa ?_ _) | (with_reducible refine bs ?_ (by first | exact Nat.le_refl _ | omega | (simp; omega)) _) | (with_reducible refine bt ?_ (by assumption)))
set_option maxHeartbeats 1000000 in
theorem ref7_Of_no (y : Int) (w : World) (hy : I64 y) (h : y < 1 ∨ 9999 < y) :
    Calls Tryo.prog 14 #[.int .i64 (y)] w fun e w' => e = .returned (.tuple #[.agg #[.int .i64 (0), .int .i64 (0), .bool false], .int .i64 (2)]) ∧ Below w.heap.size w w' := by
  have HA := Lib.hid (fun w => ref7_Long_no y w hy h)
  clear h
  go_enter Tryo.func14, Tryz.ntmps14
  go_wp2_with fail
  refine (HA.out _).mono ?_
  rintro e w1 ⟨rfl, hb1⟩
  obtain ⟨hc1, hf1⟩ := bcell hb1
  have hz1 := hb1.size
  try simp at hz1
  have hl1w : w.heap.size < w1.heap.size := by omega
  have hm1w : w.heap.size ≤ w1.heap.size := by omega
  have g1x0 : w1.cell? ⟨w.heap.size, 0, none⟩ = some (.int .i64 0) := (hc1 _ _ (by first | omega | (simp; done) | (simp; omega))).trans (by first | assumption | simp [go_sem] | simp [go_sem, *])
  have g1x1 : w1.cell? ⟨w.heap.size, 1, none⟩ = some (.int .i64 0) := (hc1 _ _ (by first | omega | (simp; done) | (simp; omega))).trans (by first | assumption | simp [go_sem] | simp [go_sem, *])
  have g1x2 : w1.cell? ⟨w.heap.size, 2, none⟩ = some (.bool false) := (hc1 _ _ (by first | omega | (simp; done) | (simp; omega))).trans (by first | assumption | simp [go_sem] | simp [go_sem, *])
  go_wp2_with fail
  refine bodyPost_ret (v := .tuple #[.agg #[.int .i64 0, .int .i64 0, .bool false], .int .i64 2]) (by simp [results, Tryz.results14, go_sem, g1x0, g1x1, g1x2]) rfl ⟨rfl, ?_⟩
  repeat (first | exact Below.refl _ _ | assumption | (with_reducible refine bdrew ?_) | (with_reducible refine baa ?_ _) | (with_reducible refine bs ?_ (by first | exact Nat.le_refl _ | omega | (simp; omega)) _) | (with_reducible refine bt ?_ (by assumption)))
theorem ref7_Of (y : Int) (w : World) (hy : I64 y) :
    Calls Tryo.prog 14 #[.int .i64 (y)] w fun e w' => e = .returned (.tuple #[.agg #[.int .i64 (Cal.tyB y), .int .i64 (Cal.tyK y), .bool (Cal.tyL y)], .int .i64 (Cal.yearE y)]) ∧ Below w.heap.size w w' := by
  by_cases h : 1 ≤ y ∧ y ≤ 9999
  · obtain ⟨e1, e2, e3, e4, e5⟩ := Cal.year_ok y h.1 h.2
    rw [e1, e3, e4, e5]
    exact ref7_Of_ok y w h.1 h.2
  · obtain ⟨e1, e2, e3, e4, e5⟩ := Cal.year_no y (by omega)
    rw [e1, e3, e4, e5]
    exact ref7_Of_no y w hy (by omega)
end Go.Proofs.YtoofgalkchnpnaaGreatDoor
