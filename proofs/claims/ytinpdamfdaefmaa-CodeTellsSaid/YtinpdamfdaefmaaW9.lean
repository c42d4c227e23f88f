/- Layer 9: the walks of its laws. -/
import Derived.Test.YtinpdamfdaefmaaCodeT2
import Derived.RegionTactic
import Derived.BigRegion
namespace Go.Proofs.Ytinpdamfdaefmaa
open Go.ChangeShapes Go.WideShapes Go.ChangeAt Go.RowKit
set_option linter.unusedVariables false
def lessOk (lp : Bool) : Bool := (List.range ((codesTo lp 12).length - 1)).all fun j => Cal.lessV (Cal.ofN lp ((j : Int) + 1)) (Cal.ofL lp ((j : Int) + 1)) (Cal.ofN lp ((j : Int) + 2)) (Cal.ofL lp ((j : Int) + 2)) && !Cal.lessV (Cal.ofN lp ((j : Int) + 2)) (Cal.ofL lp ((j : Int) + 2)) (Cal.ofN lp ((j : Int) + 1)) (Cal.ofL lp ((j : Int) + 1))
theorem lessOk_ok (lp : Bool) : lessOk lp = true := by cases lp <;> decide +kernel
theorem less_codes (lp : Bool) (m : Int) (h1 : 1 ≤ m) (h2 : m + 1 ≤ Cal.most lp) : Cal.lessV (Cal.ofN lp m) (Cal.ofL lp m) (Cal.ofN lp (m + 1)) (Cal.ofL lp (m + 1)) = true ∧ Cal.lessV (Cal.ofN lp (m + 1)) (Cal.ofL lp (m + 1)) (Cal.ofN lp m) (Cal.ofL lp m) = false := by
  have hl := codes_len lp
  have := List.all_eq_true.1 (lessOk_ok lp) (m - 1).toNat (List.mem_range.2 (by rw [hl]; unfold Cal.most at h2; split at h2 <;> simp_all <;> omega))
  rw [show (((m - 1).toNat : Nat) : Int) = m - 1 by omega, show m - 1 + 1 = m by omega, show m - 1 + 2 = m + 1 by omega] at this
  simpa using this
theorem of_in (lp : Bool) (m : Int) (h1 : 1 ≤ m) (h2 : m ≤ Cal.most lp) : Cal.ofOk lp m = true ∧ Cal.plOk lp (Cal.ofN lp m) (Cal.ofL lp m) = true ∧ Cal.plV lp (Cal.ofN lp m) (Cal.ofL lp m) = m ∧ Cal.right (Cal.ofN lp m) (Cal.ofL lp m) = true := by
  have hl := codes_len lp
  obtain ⟨_, h3, h4⟩ := codes_at lp (m - 1).toNat (by rw [hl]; unfold Cal.most at h2; split at h2 <;> simp_all <;> omega)
  rw [show (((m - 1).toNat : Nat) : Int) + 1 = m by omega] at h3 h4
  refine ⟨by simp [Cal.ofOk, h1, h2], h3, h4, ?_⟩
  cases c : Cal.right (Cal.ofN lp m) (Cal.ofL lp m)
  · rw [(plOk_no _ _ _ c).1] at h3; exact h3
  · rfl
theorem of_out (lp : Bool) (m : Int) (h : Cal.most lp < m) : Cal.ofOk lp m = false ∧ Cal.ofN lp m = 0 ∧ Cal.ofL lp m = false := by
  have e : Cal.ofOk lp m = false := by simp [Cal.ofOk]; omega
  simp [Cal.ofN, Cal.ofL, e]
theorem awake9 (w : World) : Calls Try.prog 8 #[] w fun e w' => e = .returned (.bool true) ∧ Below w.heap.size w w' := by
  go_enter Try.func8, Try.ntmps8
  go_wp2_with fail
  refine (code_Read_5L _).mono ?_
  rintro e w1 ⟨rfl, hb1⟩
  obtain ⟨hc1, hf1⟩ := bcell hb1
  have hz1 := hb1.size
  try simp at hz1
  go_wp2_with fail
  refine (code_Place_leap _).mono ?_
  rintro e w2 ⟨rfl, hb2⟩
  obtain ⟨hc2, hf2⟩ := bcell hb2
  have hz2 := hb2.size
  try simp at hz2
  have hs2x0 : w1.heap.size < w2.heap.size := by omega
  have g2x0 : w2.cell? ⟨w1.heap.size, 0, none⟩ = some (.int .i64 5) := (hc2 _ _ (by first | omega | (simp; done) | (simp; omega))).trans (by first | assumption | simp [go_sem] | simp [go_sem, *])
  have g2x1 : w2.cell? ⟨w1.heap.size, 1, none⟩ = some (.bool true) := (hc2 _ _ (by first | omega | (simp; done) | (simp; omega))).trans (by first | assumption | simp [go_sem] | simp [go_sem, *])
  go_wp2_with fail
  refine (code_Text_12 _).mono ?_
  rintro e w3 ⟨rfl, hb3⟩
  obtain ⟨hc3, hf3⟩ := bcell hb3
  have hz3 := hb3.size
  try simp at hz3
  have hs3x0 : w1.heap.size < w3.heap.size := by omega
  have g3x0 : w3.cell? ⟨w1.heap.size, 0, none⟩ = some (.int .i64 5) := (hc3 _ _ (by first | omega | (simp; done) | (simp; omega))).trans (by first | assumption | simp [go_sem] | simp [go_sem, *])
  have g3x1 : w3.cell? ⟨w1.heap.size, 1, none⟩ = some (.bool true) := (hc3 _ _ (by first | omega | (simp; done) | (simp; omega))).trans (by first | assumption | simp [go_sem] | simp [go_sem, *])
  go_wp2_with fail
  go_ret
  exact ⟨rfl, bt (bt (baa hb1 _) hb2) hb3⟩
set_option maxHeartbeats 2000000 in
set_option maxRecDepth 100000 in
theorem CodeBack_walk (n : Int) (l : Bool) (m : Int) (lp : Bool) (hn : I64 n) (hm : 0 ≤ m ∧ m ≤ 255) (w : World) :
    Calls Try.prog 4 #[.agg #[.int .i64 n, .bool l], .int .u8 m, .bool lp] w fun e w' => e = .returned (.bool true) ∧ Below w.heap.size w w' := by
  obtain ⟨m0, m1⟩ := hm
  have k1 : 0 ≤ m % 14 := by omega
  have k2 : m % 14 < 14 := by omega
  have hT := fun w => code_Text_any n l w
  have hRa := fun w => code_Right_any n l w
  have hRd : ∀ w, Calls Try.prog 11 #[.string (txtV n l)] w fun e w' => e = .returned (.tuple #[.agg #[.int .i64 (if Cal.right n l then n else 0), .bool (Cal.right n l && l)], .bool (Cal.right n l)]) ∧ Below w.heap.size w w' := fun w => by
    cases h : Cal.right n l
    · rw [txtV, h, if_neg Bool.false_ne_true]
      exact code_Read_empty w
    · rw [txtV, h, if_pos rfl, if_pos rfl, Bool.true_and]
      exact code_Read_yes n l w h
  generalize txtV n l = T at *
  have hO1 := fun w => code_Of_any lp (1 + m % 14) w (by omega)
  have hO2 := fun w => code_Of_any lp (1 + m % 14 + 1) w (by omega)
  have hP := fun w => code_Place_any lp (Cal.ofN lp (1 + m % 14)) (Cal.ofL lp (1 + m % 14)) w
  have hRt := fun w => code_Right_any (Cal.ofN lp (1 + m % 14)) (Cal.ofL lp (1 + m % 14)) w
  have hL1 := fun w => code_Less_any (Cal.ofN lp (1 + m % 14)) (Cal.ofN lp (1 + m % 14 + 1)) (Cal.ofL lp (1 + m % 14)) (Cal.ofL lp (1 + m % 14 + 1)) w
  have hL2 := fun w => code_Less_any (Cal.ofN lp (1 + m % 14 + 1)) (Cal.ofN lp (1 + m % 14)) (Cal.ofL lp (1 + m % 14 + 1)) (Cal.ofL lp (1 + m % 14)) w
  rcases (show 1 + m % 14 + 1 ≤ Cal.most lp ∨ 1 + m % 14 = Cal.most lp ∨ Cal.most lp < 1 + m % 14 by omega) with c | c | c
  · obtain ⟨e1, e2, e3, e4⟩ := of_in lp (1 + m % 14) (by omega) (by omega)
    obtain ⟨e5, _, _, _⟩ := of_in lp (1 + m % 14 + 1) (by omega) c
    obtain ⟨e6, e7⟩ := less_codes lp (1 + m % 14) (by omega) c
    rw [e1] at hO1
    rw [e2, e3] at hP
    rw [e4] at hRt
    rw [e5] at hO2
    rw [e6] at hL1
    rw [e7] at hL2
    have hd : 1 + m % 14 ≤ Cal.most lp := by omega
    have HO1 := Lib.hid hO1
    have HO2 := Lib.hid hO2
    have HP := Lib.hid hP
    have HRt := Lib.hid hRt
    have HL1 := Lib.hid hL1
    have HL2 := Lib.hid hL2
    clear hO1 hO2 hP hRt hL1 hL2 c
    clear e1 e2 e3 e4 e5 e6 e7
    generalize Cal.ofN lp (1 + m % 14) = cn at *
    generalize Cal.ofL lp (1 + m % 14) = cl at *
    generalize Cal.ofN lp (1 + m % 14 + 1) = dn at *
    generalize Cal.ofL lp (1 + m % 14 + 1) = dl at *
    cases hr : Cal.right n l <;> rw [hr] at hT hRa hRd
    · simp only [Bool.false_eq_true, if_false, Bool.false_and] at hRd
      have HT := Lib.hid hT
      have HRa := Lib.hid hRa
      have HRd := Lib.hid hRd
      clear hT hRa hRd hr
      cases lp
      · have d1 : 1 + m % 14 ≤ 12 := hd
        have d2 : decide (1 + m % 14 ≤ 12) = true := by simpa using d1
        clear hd
        go_enter Try.func4, Try.ntmps4
        go_wp2_with fail
        refine (HT.out _).mono ?_
        rintro e w1 ⟨rfl, hb1⟩
        obtain ⟨hc1, hf1⟩ := bcell hb1
        have hz1 := hb1.size
        try simp at hz1
        have hs1x0 : w.heap.size < w1.heap.size := by omega
        have g1x0 : w1.cell? ⟨w.heap.size, 0, none⟩ = some (.int .i64 n) := (hc1 _ _ (by first | omega | (simp; done) | (simp; omega))).trans (by first | assumption | simp [go_sem] | simp [go_sem, *])
        have g1x1 : w1.cell? ⟨w.heap.size, 1, none⟩ = some (.bool l) := (hc1 _ _ (by first | omega | (simp; done) | (simp; omega))).trans (by first | assumption | simp [go_sem] | simp [go_sem, *])
        go_wp2_with fail
        refine (HRd.out _).mono ?_
        rintro e w2 ⟨rfl, hb2⟩
        obtain ⟨hc2, hf2⟩ := bcell hb2
        have hz2 := hb2.size
        try simp at hz2
        have hs2x0 : w.heap.size < w2.heap.size := by omega
        have g2x0 : w2.cell? ⟨w.heap.size, 0, none⟩ = some (.int .i64 n) := (hc2 _ _ (by first | omega | (simp; done) | (simp; omega))).trans (by first | assumption | simp [go_sem] | simp [go_sem, *])
        have g2x1 : w2.cell? ⟨w.heap.size, 1, none⟩ = some (.bool l) := (hc2 _ _ (by first | omega | (simp; done) | (simp; omega))).trans (by first | assumption | simp [go_sem] | simp [go_sem, *])
        go_wp2_with fail
        refine (HRa.out _).mono ?_
        rintro e w3 ⟨rfl, hb3⟩
        obtain ⟨hc3, hf3⟩ := bcell hb3
        have hz3 := hb3.size
        try simp at hz3
        have hs3x0 : w.heap.size < w3.heap.size := by omega
        have hs3x1 : w2.heap.size < w3.heap.size := by omega
        have g3x0 : w3.cell? ⟨w.heap.size, 0, none⟩ = some (.int .i64 n) := (hc3 _ _ (by first | omega | (simp; done) | (simp; omega))).trans (by first | assumption | simp [go_sem] | simp [go_sem, *])
        have g3x1 : w3.cell? ⟨w.heap.size, 1, none⟩ = some (.bool l) := (hc3 _ _ (by first | omega | (simp; done) | (simp; omega))).trans (by first | assumption | simp [go_sem] | simp [go_sem, *])
        have g3x2 : w3.cell? ⟨w2.heap.size, 0, none⟩ = some (.int .i64 0) := (hc3 _ _ (by first | omega | (simp; done) | (simp; omega))).trans (by first | assumption | simp [go_sem] | simp [go_sem, *])
        have g3x3 : w3.cell? ⟨w2.heap.size, 1, none⟩ = some (.bool false) := (hc3 _ _ (by first | omega | (simp; done) | (simp; omega))).trans (by first | assumption | simp [go_sem] | simp [go_sem, *])
        go_wp2_with fail
        refine (HO1.out _).mono ?_
        rintro e w4 ⟨rfl, hb4⟩
        obtain ⟨hc4, hf4⟩ := bcell hb4
        have hz4 := hb4.size
        try simp at hz4
        have hs4x0 : w.heap.size < w4.heap.size := by omega
        have hs4x1 : w2.heap.size < w4.heap.size := by omega
        have g4x0 : w4.cell? ⟨w.heap.size, 0, none⟩ = some (.int .i64 n) := (hc4 _ _ (by first | omega | (simp; done) | (simp; omega))).trans (by first | assumption | simp [go_sem] | simp [go_sem, *])
        have g4x1 : w4.cell? ⟨w.heap.size, 1, none⟩ = some (.bool l) := (hc4 _ _ (by first | omega | (simp; done) | (simp; omega))).trans (by first | assumption | simp [go_sem] | simp [go_sem, *])
        have g4x2 : w4.cell? ⟨w2.heap.size, 0, none⟩ = some (.int .i64 0) := (hc4 _ _ (by first | omega | (simp; done) | (simp; omega))).trans (by first | assumption | simp [go_sem] | simp [go_sem, *])
        have g4x3 : w4.cell? ⟨w2.heap.size, 1, none⟩ = some (.bool false) := (hc4 _ _ (by first | omega | (simp; done) | (simp; omega))).trans (by first | assumption | simp [go_sem] | simp [go_sem, *])
        go_wp2_with fail
        refine (HP.out _).mono ?_
        rintro e w5 ⟨rfl, hb5⟩
        obtain ⟨hc5, hf5⟩ := bcell hb5
        have hz5 := hb5.size
        try simp at hz5
        have hs5x0 : w4.heap.size < w5.heap.size := by omega
        have g5x0 : w5.cell? ⟨w4.heap.size, 0, none⟩ = some (.int .i64 cn) := (hc5 _ _ (by first | omega | (simp; done) | (simp; omega))).trans (by first | assumption | simp [go_sem] | simp [go_sem, *])
        have g5x1 : w5.cell? ⟨w4.heap.size, 1, none⟩ = some (.bool cl) := (hc5 _ _ (by first | omega | (simp; done) | (simp; omega))).trans (by first | assumption | simp [go_sem] | simp [go_sem, *])
        go_wp2_with fail
        refine (HO2.out _).mono ?_
        rintro e w6 ⟨rfl, hb6⟩
        obtain ⟨hc6, hf6⟩ := bcell hb6
        have hz6 := hb6.size
        try simp at hz6
        have hs6x0 : w4.heap.size < w6.heap.size := by omega
        have g6x0 : w6.cell? ⟨w4.heap.size, 0, none⟩ = some (.int .i64 cn) := (hc6 _ _ (by first | omega | (simp; done) | (simp; omega))).trans (by first | assumption | simp [go_sem] | simp [go_sem, *])
        have g6x1 : w6.cell? ⟨w4.heap.size, 1, none⟩ = some (.bool cl) := (hc6 _ _ (by first | omega | (simp; done) | (simp; omega))).trans (by first | assumption | simp [go_sem] | simp [go_sem, *])
        go_wp2_with fail
        refine (awake9 _).mono ?_
        rintro e w7 ⟨rfl, hb7⟩
        obtain ⟨hc7, hf7⟩ := bcell hb7
        have hz7 := hb7.size
        try simp at hz7
        have hs7x0 : w4.heap.size < w7.heap.size := by omega
        have hs7x1 : w6.heap.size < w7.heap.size := by omega
        have g7x0 : w7.cell? ⟨w4.heap.size, 0, none⟩ = some (.int .i64 cn) := (hc7 _ _ (by first | omega | (simp; done) | (simp; omega))).trans (by first | assumption | simp [go_sem] | simp [go_sem, *])
        have g7x1 : w7.cell? ⟨w4.heap.size, 1, none⟩ = some (.bool cl) := (hc7 _ _ (by first | omega | (simp; done) | (simp; omega))).trans (by first | assumption | simp [go_sem] | simp [go_sem, *])
        have g7x2 : w7.cell? ⟨w6.heap.size, 0, none⟩ = some (.int .i64 dn) := (hc7 _ _ (by first | omega | (simp; done) | (simp; omega))).trans (by first | assumption | simp [go_sem] | simp [go_sem, *])
        have g7x3 : w7.cell? ⟨w6.heap.size, 1, none⟩ = some (.bool dl) := (hc7 _ _ (by first | omega | (simp; done) | (simp; omega))).trans (by first | assumption | simp [go_sem] | simp [go_sem, *])
        go_wp2_with fail
        refine (HRt.out _).mono ?_
        rintro e w8 ⟨rfl, hb8⟩
        obtain ⟨hc8, hf8⟩ := bcell hb8
        have hz8 := hb8.size
        try simp at hz8
        have hs8x0 : w4.heap.size < w8.heap.size := by omega
        have hs8x1 : w6.heap.size < w8.heap.size := by omega
        have g8x0 : w8.cell? ⟨w4.heap.size, 0, none⟩ = some (.int .i64 cn) := (hc8 _ _ (by first | omega | (simp; done) | (simp; omega))).trans (by first | assumption | simp [go_sem] | simp [go_sem, *])
        have g8x1 : w8.cell? ⟨w4.heap.size, 1, none⟩ = some (.bool cl) := (hc8 _ _ (by first | omega | (simp; done) | (simp; omega))).trans (by first | assumption | simp [go_sem] | simp [go_sem, *])
        have g8x2 : w8.cell? ⟨w6.heap.size, 0, none⟩ = some (.int .i64 dn) := (hc8 _ _ (by first | omega | (simp; done) | (simp; omega))).trans (by first | assumption | simp [go_sem] | simp [go_sem, *])
        have g8x3 : w8.cell? ⟨w6.heap.size, 1, none⟩ = some (.bool dl) := (hc8 _ _ (by first | omega | (simp; done) | (simp; omega))).trans (by first | assumption | simp [go_sem] | simp [go_sem, *])
        go_wp2_with fail
        refine (HL1.out _).mono ?_
        rintro e w9 ⟨rfl, hb9⟩
        obtain ⟨hc9, hf9⟩ := bcell hb9
        have hz9 := hb9.size
        try simp at hz9
        have hs9x0 : w4.heap.size < w9.heap.size := by omega
        have hs9x1 : w6.heap.size < w9.heap.size := by omega
        have g9x0 : w9.cell? ⟨w4.heap.size, 0, none⟩ = some (.int .i64 cn) := (hc9 _ _ (by first | omega | (simp; done) | (simp; omega))).trans (by first | assumption | simp [go_sem] | simp [go_sem, *])
        have g9x1 : w9.cell? ⟨w4.heap.size, 1, none⟩ = some (.bool cl) := (hc9 _ _ (by first | omega | (simp; done) | (simp; omega))).trans (by first | assumption | simp [go_sem] | simp [go_sem, *])
        have g9x2 : w9.cell? ⟨w6.heap.size, 0, none⟩ = some (.int .i64 dn) := (hc9 _ _ (by first | omega | (simp; done) | (simp; omega))).trans (by first | assumption | simp [go_sem] | simp [go_sem, *])
        have g9x3 : w9.cell? ⟨w6.heap.size, 1, none⟩ = some (.bool dl) := (hc9 _ _ (by first | omega | (simp; done) | (simp; omega))).trans (by first | assumption | simp [go_sem] | simp [go_sem, *])
        go_wp2_with fail
        refine (HL2.out _).mono ?_
        rintro e w10 ⟨rfl, hb10⟩
        obtain ⟨hc10, hf10⟩ := bcell hb10
        have hz10 := hb10.size
        try simp at hz10
        have hs10x0 : w4.heap.size < w10.heap.size := by omega
        have hs10x1 : w6.heap.size < w10.heap.size := by omega
        have g10x0 : w10.cell? ⟨w4.heap.size, 0, none⟩ = some (.int .i64 cn) := (hc10 _ _ (by first | omega | (simp; done) | (simp; omega))).trans (by first | assumption | simp [go_sem] | simp [go_sem, *])
        have g10x1 : w10.cell? ⟨w4.heap.size, 1, none⟩ = some (.bool cl) := (hc10 _ _ (by first | omega | (simp; done) | (simp; omega))).trans (by first | assumption | simp [go_sem] | simp [go_sem, *])
        have g10x2 : w10.cell? ⟨w6.heap.size, 0, none⟩ = some (.int .i64 dn) := (hc10 _ _ (by first | omega | (simp; done) | (simp; omega))).trans (by first | assumption | simp [go_sem] | simp [go_sem, *])
        have g10x3 : w10.cell? ⟨w6.heap.size, 1, none⟩ = some (.bool dl) := (hc10 _ _ (by first | omega | (simp; done) | (simp; omega))).trans (by first | assumption | simp [go_sem] | simp [go_sem, *])
        go_wp2_with fail
        go_ret
        refine ⟨rfl, ?_⟩
        repeat (first | exact Below.refl _ _ | assumption | (with_reducible refine bdrew ?_) | (with_reducible refine baa ?_ _) | (with_reducible refine bs ?_ (by first | exact Nat.le_refl _ | omega | (simp; omega)) _) | (with_reducible refine bt ?_ (by assumption)))
      · have d1 : 1 + m % 14 ≤ 13 := hd
        have d2 : decide (1 + m % 14 ≤ 13) = true := by simpa using d1
        clear hd
        go_enter Try.func4, Try.ntmps4
        go_wp2_with fail
        refine (HT.out _).mono ?_
        rintro e w1 ⟨rfl, hb1⟩
        obtain ⟨hc1, hf1⟩ := bcell hb1
        have hz1 := hb1.size
        try simp at hz1
        have hs1x0 : w.heap.size < w1.heap.size := by omega
        have g1x0 : w1.cell? ⟨w.heap.size, 0, none⟩ = some (.int .i64 n) := (hc1 _ _ (by first | omega | (simp; done) | (simp; omega))).trans (by first | assumption | simp [go_sem] | simp [go_sem, *])
        have g1x1 : w1.cell? ⟨w.heap.size, 1, none⟩ = some (.bool l) := (hc1 _ _ (by first | omega | (simp; done) | (simp; omega))).trans (by first | assumption | simp [go_sem] | simp [go_sem, *])
        go_wp2_with fail
        refine (HRd.out _).mono ?_
        rintro e w2 ⟨rfl, hb2⟩
        obtain ⟨hc2, hf2⟩ := bcell hb2
        have hz2 := hb2.size
        try simp at hz2
        have hs2x0 : w.heap.size < w2.heap.size := by omega
        have g2x0 : w2.cell? ⟨w.heap.size, 0, none⟩ = some (.int .i64 n) := (hc2 _ _ (by first | omega | (simp; done) | (simp; omega))).trans (by first | assumption | simp [go_sem] | simp [go_sem, *])
        have g2x1 : w2.cell? ⟨w.heap.size, 1, none⟩ = some (.bool l) := (hc2 _ _ (by first | omega | (simp; done) | (simp; omega))).trans (by first | assumption | simp [go_sem] | simp [go_sem, *])
        go_wp2_with fail
        refine (HRa.out _).mono ?_
        rintro e w3 ⟨rfl, hb3⟩
        obtain ⟨hc3, hf3⟩ := bcell hb3
        have hz3 := hb3.size
        try simp at hz3
        have hs3x0 : w.heap.size < w3.heap.size := by omega
        have hs3x1 : w2.heap.size < w3.heap.size := by omega
        have g3x0 : w3.cell? ⟨w.heap.size, 0, none⟩ = some (.int .i64 n) := (hc3 _ _ (by first | omega | (simp; done) | (simp; omega))).trans (by first | assumption | simp [go_sem] | simp [go_sem, *])
        have g3x1 : w3.cell? ⟨w.heap.size, 1, none⟩ = some (.bool l) := (hc3 _ _ (by first | omega | (simp; done) | (simp; omega))).trans (by first | assumption | simp [go_sem] | simp [go_sem, *])
        have g3x2 : w3.cell? ⟨w2.heap.size, 0, none⟩ = some (.int .i64 0) := (hc3 _ _ (by first | omega | (simp; done) | (simp; omega))).trans (by first | assumption | simp [go_sem] | simp [go_sem, *])
        have g3x3 : w3.cell? ⟨w2.heap.size, 1, none⟩ = some (.bool false) := (hc3 _ _ (by first | omega | (simp; done) | (simp; omega))).trans (by first | assumption | simp [go_sem] | simp [go_sem, *])
        go_wp2_with fail
        refine (HO1.out _).mono ?_
        rintro e w4 ⟨rfl, hb4⟩
        obtain ⟨hc4, hf4⟩ := bcell hb4
        have hz4 := hb4.size
        try simp at hz4
        have hs4x0 : w.heap.size < w4.heap.size := by omega
        have hs4x1 : w2.heap.size < w4.heap.size := by omega
        have g4x0 : w4.cell? ⟨w.heap.size, 0, none⟩ = some (.int .i64 n) := (hc4 _ _ (by first | omega | (simp; done) | (simp; omega))).trans (by first | assumption | simp [go_sem] | simp [go_sem, *])
        have g4x1 : w4.cell? ⟨w.heap.size, 1, none⟩ = some (.bool l) := (hc4 _ _ (by first | omega | (simp; done) | (simp; omega))).trans (by first | assumption | simp [go_sem] | simp [go_sem, *])
        have g4x2 : w4.cell? ⟨w2.heap.size, 0, none⟩ = some (.int .i64 0) := (hc4 _ _ (by first | omega | (simp; done) | (simp; omega))).trans (by first | assumption | simp [go_sem] | simp [go_sem, *])
        have g4x3 : w4.cell? ⟨w2.heap.size, 1, none⟩ = some (.bool false) := (hc4 _ _ (by first | omega | (simp; done) | (simp; omega))).trans (by first | assumption | simp [go_sem] | simp [go_sem, *])
        go_wp2_with fail
        refine (HP.out _).mono ?_
        rintro e w5 ⟨rfl, hb5⟩
        obtain ⟨hc5, hf5⟩ := bcell hb5
        have hz5 := hb5.size
        try simp at hz5
        have hs5x0 : w4.heap.size < w5.heap.size := by omega
        have g5x0 : w5.cell? ⟨w4.heap.size, 0, none⟩ = some (.int .i64 cn) := (hc5 _ _ (by first | omega | (simp; done) | (simp; omega))).trans (by first | assumption | simp [go_sem] | simp [go_sem, *])
        have g5x1 : w5.cell? ⟨w4.heap.size, 1, none⟩ = some (.bool cl) := (hc5 _ _ (by first | omega | (simp; done) | (simp; omega))).trans (by first | assumption | simp [go_sem] | simp [go_sem, *])
        go_wp2_with fail
        refine (HO2.out _).mono ?_
        rintro e w6 ⟨rfl, hb6⟩
        obtain ⟨hc6, hf6⟩ := bcell hb6
        have hz6 := hb6.size
        try simp at hz6
        have hs6x0 : w4.heap.size < w6.heap.size := by omega
        have g6x0 : w6.cell? ⟨w4.heap.size, 0, none⟩ = some (.int .i64 cn) := (hc6 _ _ (by first | omega | (simp; done) | (simp; omega))).trans (by first | assumption | simp [go_sem] | simp [go_sem, *])
        have g6x1 : w6.cell? ⟨w4.heap.size, 1, none⟩ = some (.bool cl) := (hc6 _ _ (by first | omega | (simp; done) | (simp; omega))).trans (by first | assumption | simp [go_sem] | simp [go_sem, *])
        go_wp2_with fail
        refine (awake9 _).mono ?_
        rintro e w7 ⟨rfl, hb7⟩
        obtain ⟨hc7, hf7⟩ := bcell hb7
        have hz7 := hb7.size
        try simp at hz7
        have hs7x0 : w4.heap.size < w7.heap.size := by omega
        have hs7x1 : w6.heap.size < w7.heap.size := by omega
        have g7x0 : w7.cell? ⟨w4.heap.size, 0, none⟩ = some (.int .i64 cn) := (hc7 _ _ (by first | omega | (simp; done) | (simp; omega))).trans (by first | assumption | simp [go_sem] | simp [go_sem, *])
        have g7x1 : w7.cell? ⟨w4.heap.size, 1, none⟩ = some (.bool cl) := (hc7 _ _ (by first | omega | (simp; done) | (simp; omega))).trans (by first | assumption | simp [go_sem] | simp [go_sem, *])
        have g7x2 : w7.cell? ⟨w6.heap.size, 0, none⟩ = some (.int .i64 dn) := (hc7 _ _ (by first | omega | (simp; done) | (simp; omega))).trans (by first | assumption | simp [go_sem] | simp [go_sem, *])
        have g7x3 : w7.cell? ⟨w6.heap.size, 1, none⟩ = some (.bool dl) := (hc7 _ _ (by first | omega | (simp; done) | (simp; omega))).trans (by first | assumption | simp [go_sem] | simp [go_sem, *])
        go_wp2_with fail
        refine (HRt.out _).mono ?_
        rintro e w8 ⟨rfl, hb8⟩
        obtain ⟨hc8, hf8⟩ := bcell hb8
        have hz8 := hb8.size
        try simp at hz8
        have hs8x0 : w4.heap.size < w8.heap.size := by omega
        have hs8x1 : w6.heap.size < w8.heap.size := by omega
        have g8x0 : w8.cell? ⟨w4.heap.size, 0, none⟩ = some (.int .i64 cn) := (hc8 _ _ (by first | omega | (simp; done) | (simp; omega))).trans (by first | assumption | simp [go_sem] | simp [go_sem, *])
        have g8x1 : w8.cell? ⟨w4.heap.size, 1, none⟩ = some (.bool cl) := (hc8 _ _ (by first | omega | (simp; done) | (simp; omega))).trans (by first | assumption | simp [go_sem] | simp [go_sem, *])
        have g8x2 : w8.cell? ⟨w6.heap.size, 0, none⟩ = some (.int .i64 dn) := (hc8 _ _ (by first | omega | (simp; done) | (simp; omega))).trans (by first | assumption | simp [go_sem] | simp [go_sem, *])
        have g8x3 : w8.cell? ⟨w6.heap.size, 1, none⟩ = some (.bool dl) := (hc8 _ _ (by first | omega | (simp; done) | (simp; omega))).trans (by first | assumption | simp [go_sem] | simp [go_sem, *])
        go_wp2_with fail
        refine (HL1.out _).mono ?_
        rintro e w9 ⟨rfl, hb9⟩
        obtain ⟨hc9, hf9⟩ := bcell hb9
        have hz9 := hb9.size
        try simp at hz9
        have hs9x0 : w4.heap.size < w9.heap.size := by omega
        have hs9x1 : w6.heap.size < w9.heap.size := by omega
        have g9x0 : w9.cell? ⟨w4.heap.size, 0, none⟩ = some (.int .i64 cn) := (hc9 _ _ (by first | omega | (simp; done) | (simp; omega))).trans (by first | assumption | simp [go_sem] | simp [go_sem, *])
        have g9x1 : w9.cell? ⟨w4.heap.size, 1, none⟩ = some (.bool cl) := (hc9 _ _ (by first | omega | (simp; done) | (simp; omega))).trans (by first | assumption | simp [go_sem] | simp [go_sem, *])
        have g9x2 : w9.cell? ⟨w6.heap.size, 0, none⟩ = some (.int .i64 dn) := (hc9 _ _ (by first | omega | (simp; done) | (simp; omega))).trans (by first | assumption | simp [go_sem] | simp [go_sem, *])
        have g9x3 : w9.cell? ⟨w6.heap.size, 1, none⟩ = some (.bool dl) := (hc9 _ _ (by first | omega | (simp; done) | (simp; omega))).trans (by first | assumption | simp [go_sem] | simp [go_sem, *])
        go_wp2_with fail
        refine (HL2.out _).mono ?_
        rintro e w10 ⟨rfl, hb10⟩
        obtain ⟨hc10, hf10⟩ := bcell hb10
        have hz10 := hb10.size
        try simp at hz10
        have hs10x0 : w4.heap.size < w10.heap.size := by omega
        have hs10x1 : w6.heap.size < w10.heap.size := by omega
        have g10x0 : w10.cell? ⟨w4.heap.size, 0, none⟩ = some (.int .i64 cn) := (hc10 _ _ (by first | omega | (simp; done) | (simp; omega))).trans (by first | assumption | simp [go_sem] | simp [go_sem, *])
        have g10x1 : w10.cell? ⟨w4.heap.size, 1, none⟩ = some (.bool cl) := (hc10 _ _ (by first | omega | (simp; done) | (simp; omega))).trans (by first | assumption | simp [go_sem] | simp [go_sem, *])
        have g10x2 : w10.cell? ⟨w6.heap.size, 0, none⟩ = some (.int .i64 dn) := (hc10 _ _ (by first | omega | (simp; done) | (simp; omega))).trans (by first | assumption | simp [go_sem] | simp [go_sem, *])
        have g10x3 : w10.cell? ⟨w6.heap.size, 1, none⟩ = some (.bool dl) := (hc10 _ _ (by first | omega | (simp; done) | (simp; omega))).trans (by first | assumption | simp [go_sem] | simp [go_sem, *])
        go_wp2_with fail
        go_ret
        refine ⟨rfl, ?_⟩
        repeat (first | exact Below.refl _ _ | assumption | (with_reducible refine bdrew ?_) | (with_reducible refine baa ?_ _) | (with_reducible refine bs ?_ (by first | exact Nat.le_refl _ | omega | (simp; omega)) _) | (with_reducible refine bt ?_ (by assumption)))
    · simp only [if_true, Bool.true_and] at hRd
      have HT := Lib.hid hT
      have HRa := Lib.hid hRa
      have HRd := Lib.hid hRd
      clear hT hRa hRd hr
      cases lp
      · have d1 : 1 + m % 14 ≤ 12 := hd
        have d2 : decide (1 + m % 14 ≤ 12) = true := by simpa using d1
        clear hd
        go_enter Try.func4, Try.ntmps4
        go_wp2_with fail
        refine (HT.out _).mono ?_
        rintro e w1 ⟨rfl, hb1⟩
        obtain ⟨hc1, hf1⟩ := bcell hb1
        have hz1 := hb1.size
        try simp at hz1
        have hs1x0 : w.heap.size < w1.heap.size := by omega
        have g1x0 : w1.cell? ⟨w.heap.size, 0, none⟩ = some (.int .i64 n) := (hc1 _ _ (by first | omega | (simp; done) | (simp; omega))).trans (by first | assumption | simp [go_sem] | simp [go_sem, *])
        have g1x1 : w1.cell? ⟨w.heap.size, 1, none⟩ = some (.bool l) := (hc1 _ _ (by first | omega | (simp; done) | (simp; omega))).trans (by first | assumption | simp [go_sem] | simp [go_sem, *])
        go_wp2_with fail
        refine (HRd.out _).mono ?_
        rintro e w2 ⟨rfl, hb2⟩
        obtain ⟨hc2, hf2⟩ := bcell hb2
        have hz2 := hb2.size
        try simp at hz2
        have hs2x0 : w.heap.size < w2.heap.size := by omega
        have g2x0 : w2.cell? ⟨w.heap.size, 0, none⟩ = some (.int .i64 n) := (hc2 _ _ (by first | omega | (simp; done) | (simp; omega))).trans (by first | assumption | simp [go_sem] | simp [go_sem, *])
        have g2x1 : w2.cell? ⟨w.heap.size, 1, none⟩ = some (.bool l) := (hc2 _ _ (by first | omega | (simp; done) | (simp; omega))).trans (by first | assumption | simp [go_sem] | simp [go_sem, *])
        go_wp2_with fail
        refine (HRa.out _).mono ?_
        rintro e w3 ⟨rfl, hb3⟩
        obtain ⟨hc3, hf3⟩ := bcell hb3
        have hz3 := hb3.size
        try simp at hz3
        have hs3x0 : w.heap.size < w3.heap.size := by omega
        have hs3x1 : w2.heap.size < w3.heap.size := by omega
        have g3x0 : w3.cell? ⟨w.heap.size, 0, none⟩ = some (.int .i64 n) := (hc3 _ _ (by first | omega | (simp; done) | (simp; omega))).trans (by first | assumption | simp [go_sem] | simp [go_sem, *])
        have g3x1 : w3.cell? ⟨w.heap.size, 1, none⟩ = some (.bool l) := (hc3 _ _ (by first | omega | (simp; done) | (simp; omega))).trans (by first | assumption | simp [go_sem] | simp [go_sem, *])
        have g3x2 : w3.cell? ⟨w2.heap.size, 0, none⟩ = some (.int .i64 n) := (hc3 _ _ (by first | omega | (simp; done) | (simp; omega))).trans (by first | assumption | simp [go_sem] | simp [go_sem, *])
        have g3x3 : w3.cell? ⟨w2.heap.size, 1, none⟩ = some (.bool l) := (hc3 _ _ (by first | omega | (simp; done) | (simp; omega))).trans (by first | assumption | simp [go_sem] | simp [go_sem, *])
        go_wp2_with fail
        refine (HO1.out _).mono ?_
        rintro e w4 ⟨rfl, hb4⟩
        obtain ⟨hc4, hf4⟩ := bcell hb4
        have hz4 := hb4.size
        try simp at hz4
        have hs4x0 : w.heap.size < w4.heap.size := by omega
        have hs4x1 : w2.heap.size < w4.heap.size := by omega
        have g4x0 : w4.cell? ⟨w.heap.size, 0, none⟩ = some (.int .i64 n) := (hc4 _ _ (by first | omega | (simp; done) | (simp; omega))).trans (by first | assumption | simp [go_sem] | simp [go_sem, *])
        have g4x1 : w4.cell? ⟨w.heap.size, 1, none⟩ = some (.bool l) := (hc4 _ _ (by first | omega | (simp; done) | (simp; omega))).trans (by first | assumption | simp [go_sem] | simp [go_sem, *])
        have g4x2 : w4.cell? ⟨w2.heap.size, 0, none⟩ = some (.int .i64 n) := (hc4 _ _ (by first | omega | (simp; done) | (simp; omega))).trans (by first | assumption | simp [go_sem] | simp [go_sem, *])
        have g4x3 : w4.cell? ⟨w2.heap.size, 1, none⟩ = some (.bool l) := (hc4 _ _ (by first | omega | (simp; done) | (simp; omega))).trans (by first | assumption | simp [go_sem] | simp [go_sem, *])
        go_wp2_with fail
        refine (HP.out _).mono ?_
        rintro e w5 ⟨rfl, hb5⟩
        obtain ⟨hc5, hf5⟩ := bcell hb5
        have hz5 := hb5.size
        try simp at hz5
        have hs5x0 : w4.heap.size < w5.heap.size := by omega
        have g5x0 : w5.cell? ⟨w4.heap.size, 0, none⟩ = some (.int .i64 cn) := (hc5 _ _ (by first | omega | (simp; done) | (simp; omega))).trans (by first | assumption | simp [go_sem] | simp [go_sem, *])
        have g5x1 : w5.cell? ⟨w4.heap.size, 1, none⟩ = some (.bool cl) := (hc5 _ _ (by first | omega | (simp; done) | (simp; omega))).trans (by first | assumption | simp [go_sem] | simp [go_sem, *])
        go_wp2_with fail
        refine (HO2.out _).mono ?_
        rintro e w6 ⟨rfl, hb6⟩
        obtain ⟨hc6, hf6⟩ := bcell hb6
        have hz6 := hb6.size
        try simp at hz6
        have hs6x0 : w4.heap.size < w6.heap.size := by omega
        have g6x0 : w6.cell? ⟨w4.heap.size, 0, none⟩ = some (.int .i64 cn) := (hc6 _ _ (by first | omega | (simp; done) | (simp; omega))).trans (by first | assumption | simp [go_sem] | simp [go_sem, *])
        have g6x1 : w6.cell? ⟨w4.heap.size, 1, none⟩ = some (.bool cl) := (hc6 _ _ (by first | omega | (simp; done) | (simp; omega))).trans (by first | assumption | simp [go_sem] | simp [go_sem, *])
        go_wp2_with fail
        refine (awake9 _).mono ?_
        rintro e w7 ⟨rfl, hb7⟩
        obtain ⟨hc7, hf7⟩ := bcell hb7
        have hz7 := hb7.size
        try simp at hz7
        have hs7x0 : w4.heap.size < w7.heap.size := by omega
        have hs7x1 : w6.heap.size < w7.heap.size := by omega
        have g7x0 : w7.cell? ⟨w4.heap.size, 0, none⟩ = some (.int .i64 cn) := (hc7 _ _ (by first | omega | (simp; done) | (simp; omega))).trans (by first | assumption | simp [go_sem] | simp [go_sem, *])
        have g7x1 : w7.cell? ⟨w4.heap.size, 1, none⟩ = some (.bool cl) := (hc7 _ _ (by first | omega | (simp; done) | (simp; omega))).trans (by first | assumption | simp [go_sem] | simp [go_sem, *])
        have g7x2 : w7.cell? ⟨w6.heap.size, 0, none⟩ = some (.int .i64 dn) := (hc7 _ _ (by first | omega | (simp; done) | (simp; omega))).trans (by first | assumption | simp [go_sem] | simp [go_sem, *])
        have g7x3 : w7.cell? ⟨w6.heap.size, 1, none⟩ = some (.bool dl) := (hc7 _ _ (by first | omega | (simp; done) | (simp; omega))).trans (by first | assumption | simp [go_sem] | simp [go_sem, *])
        go_wp2_with fail
        refine (HRt.out _).mono ?_
        rintro e w8 ⟨rfl, hb8⟩
        obtain ⟨hc8, hf8⟩ := bcell hb8
        have hz8 := hb8.size
        try simp at hz8
        have hs8x0 : w4.heap.size < w8.heap.size := by omega
        have hs8x1 : w6.heap.size < w8.heap.size := by omega
        have g8x0 : w8.cell? ⟨w4.heap.size, 0, none⟩ = some (.int .i64 cn) := (hc8 _ _ (by first | omega | (simp; done) | (simp; omega))).trans (by first | assumption | simp [go_sem] | simp [go_sem, *])
        have g8x1 : w8.cell? ⟨w4.heap.size, 1, none⟩ = some (.bool cl) := (hc8 _ _ (by first | omega | (simp; done) | (simp; omega))).trans (by first | assumption | simp [go_sem] | simp [go_sem, *])
        have g8x2 : w8.cell? ⟨w6.heap.size, 0, none⟩ = some (.int .i64 dn) := (hc8 _ _ (by first | omega | (simp; done) | (simp; omega))).trans (by first | assumption | simp [go_sem] | simp [go_sem, *])
        have g8x3 : w8.cell? ⟨w6.heap.size, 1, none⟩ = some (.bool dl) := (hc8 _ _ (by first | omega | (simp; done) | (simp; omega))).trans (by first | assumption | simp [go_sem] | simp [go_sem, *])
        go_wp2_with fail
        refine (HL1.out _).mono ?_
        rintro e w9 ⟨rfl, hb9⟩
        obtain ⟨hc9, hf9⟩ := bcell hb9
        have hz9 := hb9.size
        try simp at hz9
        have hs9x0 : w4.heap.size < w9.heap.size := by omega
        have hs9x1 : w6.heap.size < w9.heap.size := by omega
        have g9x0 : w9.cell? ⟨w4.heap.size, 0, none⟩ = some (.int .i64 cn) := (hc9 _ _ (by first | omega | (simp; done) | (simp; omega))).trans (by first | assumption | simp [go_sem] | simp [go_sem, *])
        have g9x1 : w9.cell? ⟨w4.heap.size, 1, none⟩ = some (.bool cl) := (hc9 _ _ (by first | omega | (simp; done) | (simp; omega))).trans (by first | assumption | simp [go_sem] | simp [go_sem, *])
        have g9x2 : w9.cell? ⟨w6.heap.size, 0, none⟩ = some (.int .i64 dn) := (hc9 _ _ (by first | omega | (simp; done) | (simp; omega))).trans (by first | assumption | simp [go_sem] | simp [go_sem, *])
        have g9x3 : w9.cell? ⟨w6.heap.size, 1, none⟩ = some (.bool dl) := (hc9 _ _ (by first | omega | (simp; done) | (simp; omega))).trans (by first | assumption | simp [go_sem] | simp [go_sem, *])
        go_wp2_with fail
        refine (HL2.out _).mono ?_
        rintro e w10 ⟨rfl, hb10⟩
        obtain ⟨hc10, hf10⟩ := bcell hb10
        have hz10 := hb10.size
        try simp at hz10
        have hs10x0 : w4.heap.size < w10.heap.size := by omega
        have hs10x1 : w6.heap.size < w10.heap.size := by omega
        have g10x0 : w10.cell? ⟨w4.heap.size, 0, none⟩ = some (.int .i64 cn) := (hc10 _ _ (by first | omega | (simp; done) | (simp; omega))).trans (by first | assumption | simp [go_sem] | simp [go_sem, *])
        have g10x1 : w10.cell? ⟨w4.heap.size, 1, none⟩ = some (.bool cl) := (hc10 _ _ (by first | omega | (simp; done) | (simp; omega))).trans (by first | assumption | simp [go_sem] | simp [go_sem, *])
        have g10x2 : w10.cell? ⟨w6.heap.size, 0, none⟩ = some (.int .i64 dn) := (hc10 _ _ (by first | omega | (simp; done) | (simp; omega))).trans (by first | assumption | simp [go_sem] | simp [go_sem, *])
        have g10x3 : w10.cell? ⟨w6.heap.size, 1, none⟩ = some (.bool dl) := (hc10 _ _ (by first | omega | (simp; done) | (simp; omega))).trans (by first | assumption | simp [go_sem] | simp [go_sem, *])
        go_wp2_with fail
        go_ret
        refine ⟨rfl, ?_⟩
        repeat (first | exact Below.refl _ _ | assumption | (with_reducible refine bdrew ?_) | (with_reducible refine baa ?_ _) | (with_reducible refine bs ?_ (by first | exact Nat.le_refl _ | omega | (simp; omega)) _) | (with_reducible refine bt ?_ (by assumption)))
      · have d1 : 1 + m % 14 ≤ 13 := hd
        have d2 : decide (1 + m % 14 ≤ 13) = true := by simpa using d1
        clear hd
        go_enter Try.func4, Try.ntmps4
        go_wp2_with fail
        refine (HT.out _).mono ?_
        rintro e w1 ⟨rfl, hb1⟩
        obtain ⟨hc1, hf1⟩ := bcell hb1
        have hz1 := hb1.size
        try simp at hz1
        have hs1x0 : w.heap.size < w1.heap.size := by omega
        have g1x0 : w1.cell? ⟨w.heap.size, 0, none⟩ = some (.int .i64 n) := (hc1 _ _ (by first | omega | (simp; done) | (simp; omega))).trans (by first | assumption | simp [go_sem] | simp [go_sem, *])
        have g1x1 : w1.cell? ⟨w.heap.size, 1, none⟩ = some (.bool l) := (hc1 _ _ (by first | omega | (simp; done) | (simp; omega))).trans (by first | assumption | simp [go_sem] | simp [go_sem, *])
        go_wp2_with fail
        refine (HRd.out _).mono ?_
        rintro e w2 ⟨rfl, hb2⟩
        obtain ⟨hc2, hf2⟩ := bcell hb2
        have hz2 := hb2.size
        try simp at hz2
        have hs2x0 : w.heap.size < w2.heap.size := by omega
        have g2x0 : w2.cell? ⟨w.heap.size, 0, none⟩ = some (.int .i64 n) := (hc2 _ _ (by first | omega | (simp; done) | (simp; omega))).trans (by first | assumption | simp [go_sem] | simp [go_sem, *])
        have g2x1 : w2.cell? ⟨w.heap.size, 1, none⟩ = some (.bool l) := (hc2 _ _ (by first | omega | (simp; done) | (simp; omega))).trans (by first | assumption | simp [go_sem] | simp [go_sem, *])
        go_wp2_with fail
        refine (HRa.out _).mono ?_
        rintro e w3 ⟨rfl, hb3⟩
        obtain ⟨hc3, hf3⟩ := bcell hb3
        have hz3 := hb3.size
        try simp at hz3
        have hs3x0 : w.heap.size < w3.heap.size := by omega
        have hs3x1 : w2.heap.size < w3.heap.size := by omega
        have g3x0 : w3.cell? ⟨w.heap.size, 0, none⟩ = some (.int .i64 n) := (hc3 _ _ (by first | omega | (simp; done) | (simp; omega))).trans (by first | assumption | simp [go_sem] | simp [go_sem, *])
        have g3x1 : w3.cell? ⟨w.heap.size, 1, none⟩ = some (.bool l) := (hc3 _ _ (by first | omega | (simp; done) | (simp; omega))).trans (by first | assumption | simp [go_sem] | simp [go_sem, *])
        have g3x2 : w3.cell? ⟨w2.heap.size, 0, none⟩ = some (.int .i64 n) := (hc3 _ _ (by first | omega | (simp; done) | (simp; omega))).trans (by first | assumption | simp [go_sem] | simp [go_sem, *])
        have g3x3 : w3.cell? ⟨w2.heap.size, 1, none⟩ = some (.bool l) := (hc3 _ _ (by first | omega | (simp; done) | (simp; omega))).trans (by first | assumption | simp [go_sem] | simp [go_sem, *])
        go_wp2_with fail
        refine (HO1.out _).mono ?_
        rintro e w4 ⟨rfl, hb4⟩
        obtain ⟨hc4, hf4⟩ := bcell hb4
        have hz4 := hb4.size
        try simp at hz4
        have hs4x0 : w.heap.size < w4.heap.size := by omega
        have hs4x1 : w2.heap.size < w4.heap.size := by omega
        have g4x0 : w4.cell? ⟨w.heap.size, 0, none⟩ = some (.int .i64 n) := (hc4 _ _ (by first | omega | (simp; done) | (simp; omega))).trans (by first | assumption | simp [go_sem] | simp [go_sem, *])
        have g4x1 : w4.cell? ⟨w.heap.size, 1, none⟩ = some (.bool l) := (hc4 _ _ (by first | omega | (simp; done) | (simp; omega))).trans (by first | assumption | simp [go_sem] | simp [go_sem, *])
        have g4x2 : w4.cell? ⟨w2.heap.size, 0, none⟩ = some (.int .i64 n) := (hc4 _ _ (by first | omega | (simp; done) | (simp; omega))).trans (by first | assumption | simp [go_sem] | simp [go_sem, *])
        have g4x3 : w4.cell? ⟨w2.heap.size, 1, none⟩ = some (.bool l) := (hc4 _ _ (by first | omega | (simp; done) | (simp; omega))).trans (by first | assumption | simp [go_sem] | simp [go_sem, *])
        go_wp2_with fail
        refine (HP.out _).mono ?_
        rintro e w5 ⟨rfl, hb5⟩
        obtain ⟨hc5, hf5⟩ := bcell hb5
        have hz5 := hb5.size
        try simp at hz5
        have hs5x0 : w4.heap.size < w5.heap.size := by omega
        have g5x0 : w5.cell? ⟨w4.heap.size, 0, none⟩ = some (.int .i64 cn) := (hc5 _ _ (by first | omega | (simp; done) | (simp; omega))).trans (by first | assumption | simp [go_sem] | simp [go_sem, *])
        have g5x1 : w5.cell? ⟨w4.heap.size, 1, none⟩ = some (.bool cl) := (hc5 _ _ (by first | omega | (simp; done) | (simp; omega))).trans (by first | assumption | simp [go_sem] | simp [go_sem, *])
        go_wp2_with fail
        refine (HO2.out _).mono ?_
        rintro e w6 ⟨rfl, hb6⟩
        obtain ⟨hc6, hf6⟩ := bcell hb6
        have hz6 := hb6.size
        try simp at hz6
        have hs6x0 : w4.heap.size < w6.heap.size := by omega
        have g6x0 : w6.cell? ⟨w4.heap.size, 0, none⟩ = some (.int .i64 cn) := (hc6 _ _ (by first | omega | (simp; done) | (simp; omega))).trans (by first | assumption | simp [go_sem] | simp [go_sem, *])
        have g6x1 : w6.cell? ⟨w4.heap.size, 1, none⟩ = some (.bool cl) := (hc6 _ _ (by first | omega | (simp; done) | (simp; omega))).trans (by first | assumption | simp [go_sem] | simp [go_sem, *])
        go_wp2_with fail
        refine (awake9 _).mono ?_
        rintro e w7 ⟨rfl, hb7⟩
        obtain ⟨hc7, hf7⟩ := bcell hb7
        have hz7 := hb7.size
        try simp at hz7
        have hs7x0 : w4.heap.size < w7.heap.size := by omega
        have hs7x1 : w6.heap.size < w7.heap.size := by omega
        have g7x0 : w7.cell? ⟨w4.heap.size, 0, none⟩ = some (.int .i64 cn) := (hc7 _ _ (by first | omega | (simp; done) | (simp; omega))).trans (by first | assumption | simp [go_sem] | simp [go_sem, *])
        have g7x1 : w7.cell? ⟨w4.heap.size, 1, none⟩ = some (.bool cl) := (hc7 _ _ (by first | omega | (simp; done) | (simp; omega))).trans (by first | assumption | simp [go_sem] | simp [go_sem, *])
        have g7x2 : w7.cell? ⟨w6.heap.size, 0, none⟩ = some (.int .i64 dn) := (hc7 _ _ (by first | omega | (simp; done) | (simp; omega))).trans (by first | assumption | simp [go_sem] | simp [go_sem, *])
        have g7x3 : w7.cell? ⟨w6.heap.size, 1, none⟩ = some (.bool dl) := (hc7 _ _ (by first | omega | (simp; done) | (simp; omega))).trans (by first | assumption | simp [go_sem] | simp [go_sem, *])
        go_wp2_with fail
        refine (HRt.out _).mono ?_
        rintro e w8 ⟨rfl, hb8⟩
        obtain ⟨hc8, hf8⟩ := bcell hb8
        have hz8 := hb8.size
        try simp at hz8
        have hs8x0 : w4.heap.size < w8.heap.size := by omega
        have hs8x1 : w6.heap.size < w8.heap.size := by omega
        have g8x0 : w8.cell? ⟨w4.heap.size, 0, none⟩ = some (.int .i64 cn) := (hc8 _ _ (by first | omega | (simp; done) | (simp; omega))).trans (by first | assumption | simp [go_sem] | simp [go_sem, *])
        have g8x1 : w8.cell? ⟨w4.heap.size, 1, none⟩ = some (.bool cl) := (hc8 _ _ (by first | omega | (simp; done) | (simp; omega))).trans (by first | assumption | simp [go_sem] | simp [go_sem, *])
        have g8x2 : w8.cell? ⟨w6.heap.size, 0, none⟩ = some (.int .i64 dn) := (hc8 _ _ (by first | omega | (simp; done) | (simp; omega))).trans (by first | assumption | simp [go_sem] | simp [go_sem, *])
        have g8x3 : w8.cell? ⟨w6.heap.size, 1, none⟩ = some (.bool dl) := (hc8 _ _ (by first | omega | (simp; done) | (simp; omega))).trans (by first | assumption | simp [go_sem] | simp [go_sem, *])
        go_wp2_with fail
        refine (HL1.out _).mono ?_
        rintro e w9 ⟨rfl, hb9⟩
        obtain ⟨hc9, hf9⟩ := bcell hb9
        have hz9 := hb9.size
        try simp at hz9
        have hs9x0 : w4.heap.size < w9.heap.size := by omega
        have hs9x1 : w6.heap.size < w9.heap.size := by omega
        have g9x0 : w9.cell? ⟨w4.heap.size, 0, none⟩ = some (.int .i64 cn) := (hc9 _ _ (by first | omega | (simp; done) | (simp; omega))).trans (by first | assumption | simp [go_sem] | simp [go_sem, *])
        have g9x1 : w9.cell? ⟨w4.heap.size, 1, none⟩ = some (.bool cl) := (hc9 _ _ (by first | omega | (simp; done) | (simp; omega))).trans (by first | assumption | simp [go_sem] | simp [go_sem, *])
        have g9x2 : w9.cell? ⟨w6.heap.size, 0, none⟩ = some (.int .i64 dn) := (hc9 _ _ (by first | omega | (simp; done) | (simp; omega))).trans (by first | assumption | simp [go_sem] | simp [go_sem, *])
        have g9x3 : w9.cell? ⟨w6.heap.size, 1, none⟩ = some (.bool dl) := (hc9 _ _ (by first | omega | (simp; done) | (simp; omega))).trans (by first | assumption | simp [go_sem] | simp [go_sem, *])
        go_wp2_with fail
        refine (HL2.out _).mono ?_
        rintro e w10 ⟨rfl, hb10⟩
        obtain ⟨hc10, hf10⟩ := bcell hb10
        have hz10 := hb10.size
        try simp at hz10
        have hs10x0 : w4.heap.size < w10.heap.size := by omega
        have hs10x1 : w6.heap.size < w10.heap.size := by omega
        have g10x0 : w10.cell? ⟨w4.heap.size, 0, none⟩ = some (.int .i64 cn) := (hc10 _ _ (by first | omega | (simp; done) | (simp; omega))).trans (by first | assumption | simp [go_sem] | simp [go_sem, *])
        have g10x1 : w10.cell? ⟨w4.heap.size, 1, none⟩ = some (.bool cl) := (hc10 _ _ (by first | omega | (simp; done) | (simp; omega))).trans (by first | assumption | simp [go_sem] | simp [go_sem, *])
        have g10x2 : w10.cell? ⟨w6.heap.size, 0, none⟩ = some (.int .i64 dn) := (hc10 _ _ (by first | omega | (simp; done) | (simp; omega))).trans (by first | assumption | simp [go_sem] | simp [go_sem, *])
        have g10x3 : w10.cell? ⟨w6.heap.size, 1, none⟩ = some (.bool dl) := (hc10 _ _ (by first | omega | (simp; done) | (simp; omega))).trans (by first | assumption | simp [go_sem] | simp [go_sem, *])
        go_wp2_with fail
        go_ret
        refine ⟨rfl, ?_⟩
        repeat (first | exact Below.refl _ _ | assumption | (with_reducible refine bdrew ?_) | (with_reducible refine baa ?_ _) | (with_reducible refine bs ?_ (by first | exact Nat.le_refl _ | omega | (simp; omega)) _) | (with_reducible refine bt ?_ (by assumption)))
  · obtain ⟨e1, e2, e3, e4⟩ := of_in lp (1 + m % 14) (by omega) (by omega)
    obtain ⟨e5, e6, e7⟩ := of_out lp (1 + m % 14 + 1) (by omega)
    rw [e1] at hO1
    rw [e2, e3] at hP
    rw [e4] at hRt
    rw [e5, e6, e7] at hO2
    have hd : 1 + m % 14 ≤ Cal.most lp := by omega
    have HO1 := Lib.hid hO1
    have HO2 := Lib.hid hO2
    have HP := Lib.hid hP
    have HRt := Lib.hid hRt
    have HL1 := Lib.hid hL1
    have HL2 := Lib.hid hL2
    clear hO1 hO2 hP hRt hL1 hL2 c
    clear e1 e2 e3 e4 e5 e6 e7
    generalize Cal.ofN lp (1 + m % 14) = cn at *
    generalize Cal.ofL lp (1 + m % 14) = cl at *
    cases hr : Cal.right n l <;> rw [hr] at hT hRa hRd
    · simp only [Bool.false_eq_true, if_false, Bool.false_and] at hRd
      have HT := Lib.hid hT
      have HRa := Lib.hid hRa
      have HRd := Lib.hid hRd
      clear hT hRa hRd hr
      cases lp
      · have d1 : 1 + m % 14 ≤ 12 := hd
        have d2 : decide (1 + m % 14 ≤ 12) = true := by simpa using d1
        clear hd
        go_enter Try.func4, Try.ntmps4
        go_wp2_with fail
        refine (HT.out _).mono ?_
        rintro e w1 ⟨rfl, hb1⟩
        obtain ⟨hc1, hf1⟩ := bcell hb1
        have hz1 := hb1.size
        try simp at hz1
        have hs1x0 : w.heap.size < w1.heap.size := by omega
        have g1x0 : w1.cell? ⟨w.heap.size, 0, none⟩ = some (.int .i64 n) := (hc1 _ _ (by first | omega | (simp; done) | (simp; omega))).trans (by first | assumption | simp [go_sem] | simp [go_sem, *])
        have g1x1 : w1.cell? ⟨w.heap.size, 1, none⟩ = some (.bool l) := (hc1 _ _ (by first | omega | (simp; done) | (simp; omega))).trans (by first | assumption | simp [go_sem] | simp [go_sem, *])
        go_wp2_with fail
        refine (HRd.out _).mono ?_
        rintro e w2 ⟨rfl, hb2⟩
        obtain ⟨hc2, hf2⟩ := bcell hb2
        have hz2 := hb2.size
        try simp at hz2
        have hs2x0 : w.heap.size < w2.heap.size := by omega
        have g2x0 : w2.cell? ⟨w.heap.size, 0, none⟩ = some (.int .i64 n) := (hc2 _ _ (by first | omega | (simp; done) | (simp; omega))).trans (by first | assumption | simp [go_sem] | simp [go_sem, *])
        have g2x1 : w2.cell? ⟨w.heap.size, 1, none⟩ = some (.bool l) := (hc2 _ _ (by first | omega | (simp; done) | (simp; omega))).trans (by first | assumption | simp [go_sem] | simp [go_sem, *])
        go_wp2_with fail
        refine (HRa.out _).mono ?_
        rintro e w3 ⟨rfl, hb3⟩
        obtain ⟨hc3, hf3⟩ := bcell hb3
        have hz3 := hb3.size
        try simp at hz3
        have hs3x0 : w.heap.size < w3.heap.size := by omega
        have hs3x1 : w2.heap.size < w3.heap.size := by omega
        have g3x0 : w3.cell? ⟨w.heap.size, 0, none⟩ = some (.int .i64 n) := (hc3 _ _ (by first | omega | (simp; done) | (simp; omega))).trans (by first | assumption | simp [go_sem] | simp [go_sem, *])
        have g3x1 : w3.cell? ⟨w.heap.size, 1, none⟩ = some (.bool l) := (hc3 _ _ (by first | omega | (simp; done) | (simp; omega))).trans (by first | assumption | simp [go_sem] | simp [go_sem, *])
        have g3x2 : w3.cell? ⟨w2.heap.size, 0, none⟩ = some (.int .i64 0) := (hc3 _ _ (by first | omega | (simp; done) | (simp; omega))).trans (by first | assumption | simp [go_sem] | simp [go_sem, *])
        have g3x3 : w3.cell? ⟨w2.heap.size, 1, none⟩ = some (.bool false) := (hc3 _ _ (by first | omega | (simp; done) | (simp; omega))).trans (by first | assumption | simp [go_sem] | simp [go_sem, *])
        go_wp2_with fail
        refine (HO1.out _).mono ?_
        rintro e w4 ⟨rfl, hb4⟩
        obtain ⟨hc4, hf4⟩ := bcell hb4
        have hz4 := hb4.size
        try simp at hz4
        have hs4x0 : w.heap.size < w4.heap.size := by omega
        have hs4x1 : w2.heap.size < w4.heap.size := by omega
        have g4x0 : w4.cell? ⟨w.heap.size, 0, none⟩ = some (.int .i64 n) := (hc4 _ _ (by first | omega | (simp; done) | (simp; omega))).trans (by first | assumption | simp [go_sem] | simp [go_sem, *])
        have g4x1 : w4.cell? ⟨w.heap.size, 1, none⟩ = some (.bool l) := (hc4 _ _ (by first | omega | (simp; done) | (simp; omega))).trans (by first | assumption | simp [go_sem] | simp [go_sem, *])
        have g4x2 : w4.cell? ⟨w2.heap.size, 0, none⟩ = some (.int .i64 0) := (hc4 _ _ (by first | omega | (simp; done) | (simp; omega))).trans (by first | assumption | simp [go_sem] | simp [go_sem, *])
        have g4x3 : w4.cell? ⟨w2.heap.size, 1, none⟩ = some (.bool false) := (hc4 _ _ (by first | omega | (simp; done) | (simp; omega))).trans (by first | assumption | simp [go_sem] | simp [go_sem, *])
        go_wp2_with fail
        refine (HP.out _).mono ?_
        rintro e w5 ⟨rfl, hb5⟩
        obtain ⟨hc5, hf5⟩ := bcell hb5
        have hz5 := hb5.size
        try simp at hz5
        have hs5x0 : w4.heap.size < w5.heap.size := by omega
        have g5x0 : w5.cell? ⟨w4.heap.size, 0, none⟩ = some (.int .i64 cn) := (hc5 _ _ (by first | omega | (simp; done) | (simp; omega))).trans (by first | assumption | simp [go_sem] | simp [go_sem, *])
        have g5x1 : w5.cell? ⟨w4.heap.size, 1, none⟩ = some (.bool cl) := (hc5 _ _ (by first | omega | (simp; done) | (simp; omega))).trans (by first | assumption | simp [go_sem] | simp [go_sem, *])
        go_wp2_with fail
        refine (HO2.out _).mono ?_
        rintro e w6 ⟨rfl, hb6⟩
        obtain ⟨hc6, hf6⟩ := bcell hb6
        have hz6 := hb6.size
        try simp at hz6
        have hs6x0 : w4.heap.size < w6.heap.size := by omega
        have g6x0 : w6.cell? ⟨w4.heap.size, 0, none⟩ = some (.int .i64 cn) := (hc6 _ _ (by first | omega | (simp; done) | (simp; omega))).trans (by first | assumption | simp [go_sem] | simp [go_sem, *])
        have g6x1 : w6.cell? ⟨w4.heap.size, 1, none⟩ = some (.bool cl) := (hc6 _ _ (by first | omega | (simp; done) | (simp; omega))).trans (by first | assumption | simp [go_sem] | simp [go_sem, *])
        go_wp2_with fail
        refine (awake9 _).mono ?_
        rintro e w7 ⟨rfl, hb7⟩
        obtain ⟨hc7, hf7⟩ := bcell hb7
        have hz7 := hb7.size
        try simp at hz7
        have hs7x0 : w4.heap.size < w7.heap.size := by omega
        have hs7x1 : w6.heap.size < w7.heap.size := by omega
        have g7x0 : w7.cell? ⟨w4.heap.size, 0, none⟩ = some (.int .i64 cn) := (hc7 _ _ (by first | omega | (simp; done) | (simp; omega))).trans (by first | assumption | simp [go_sem] | simp [go_sem, *])
        have g7x1 : w7.cell? ⟨w4.heap.size, 1, none⟩ = some (.bool cl) := (hc7 _ _ (by first | omega | (simp; done) | (simp; omega))).trans (by first | assumption | simp [go_sem] | simp [go_sem, *])
        have g7x2 : w7.cell? ⟨w6.heap.size, 0, none⟩ = some (.int .i64 0) := (hc7 _ _ (by first | omega | (simp; done) | (simp; omega))).trans (by first | assumption | simp [go_sem] | simp [go_sem, *])
        have g7x3 : w7.cell? ⟨w6.heap.size, 1, none⟩ = some (.bool false) := (hc7 _ _ (by first | omega | (simp; done) | (simp; omega))).trans (by first | assumption | simp [go_sem] | simp [go_sem, *])
        go_wp2_with fail
        refine (HRt.out _).mono ?_
        rintro e w8 ⟨rfl, hb8⟩
        obtain ⟨hc8, hf8⟩ := bcell hb8
        have hz8 := hb8.size
        try simp at hz8
        have hs8x0 : w4.heap.size < w8.heap.size := by omega
        have hs8x1 : w6.heap.size < w8.heap.size := by omega
        have g8x0 : w8.cell? ⟨w4.heap.size, 0, none⟩ = some (.int .i64 cn) := (hc8 _ _ (by first | omega | (simp; done) | (simp; omega))).trans (by first | assumption | simp [go_sem] | simp [go_sem, *])
        have g8x1 : w8.cell? ⟨w4.heap.size, 1, none⟩ = some (.bool cl) := (hc8 _ _ (by first | omega | (simp; done) | (simp; omega))).trans (by first | assumption | simp [go_sem] | simp [go_sem, *])
        have g8x2 : w8.cell? ⟨w6.heap.size, 0, none⟩ = some (.int .i64 0) := (hc8 _ _ (by first | omega | (simp; done) | (simp; omega))).trans (by first | assumption | simp [go_sem] | simp [go_sem, *])
        have g8x3 : w8.cell? ⟨w6.heap.size, 1, none⟩ = some (.bool false) := (hc8 _ _ (by first | omega | (simp; done) | (simp; omega))).trans (by first | assumption | simp [go_sem] | simp [go_sem, *])
        go_wp2_with fail
        go_ret
        refine ⟨rfl, ?_⟩
        repeat (first | exact Below.refl _ _ | assumption | (with_reducible refine bdrew ?_) | (with_reducible refine baa ?_ _) | (with_reducible refine bs ?_ (by first | exact Nat.le_refl _ | omega | (simp; omega)) _) | (with_reducible refine bt ?_ (by assumption)))
      · have d1 : 1 + m % 14 ≤ 13 := hd
        have d2 : decide (1 + m % 14 ≤ 13) = true := by simpa using d1
        clear hd
        go_enter Try.func4, Try.ntmps4
        go_wp2_with fail
        refine (HT.out _).mono ?_
        rintro e w1 ⟨rfl, hb1⟩
        obtain ⟨hc1, hf1⟩ := bcell hb1
        have hz1 := hb1.size
        try simp at hz1
        have hs1x0 : w.heap.size < w1.heap.size := by omega
        have g1x0 : w1.cell? ⟨w.heap.size, 0, none⟩ = some (.int .i64 n) := (hc1 _ _ (by first | omega | (simp; done) | (simp; omega))).trans (by first | assumption | simp [go_sem] | simp [go_sem, *])
        have g1x1 : w1.cell? ⟨w.heap.size, 1, none⟩ = some (.bool l) := (hc1 _ _ (by first | omega | (simp; done) | (simp; omega))).trans (by first | assumption | simp [go_sem] | simp [go_sem, *])
        go_wp2_with fail
        refine (HRd.out _).mono ?_
        rintro e w2 ⟨rfl, hb2⟩
        obtain ⟨hc2, hf2⟩ := bcell hb2
        have hz2 := hb2.size
        try simp at hz2
        have hs2x0 : w.heap.size < w2.heap.size := by omega
        have g2x0 : w2.cell? ⟨w.heap.size, 0, none⟩ = some (.int .i64 n) := (hc2 _ _ (by first | omega | (simp; done) | (simp; omega))).trans (by first | assumption | simp [go_sem] | simp [go_sem, *])
        have g2x1 : w2.cell? ⟨w.heap.size, 1, none⟩ = some (.bool l) := (hc2 _ _ (by first | omega | (simp; done) | (simp; omega))).trans (by first | assumption | simp [go_sem] | simp [go_sem, *])
        go_wp2_with fail
        refine (HRa.out _).mono ?_
        rintro e w3 ⟨rfl, hb3⟩
        obtain ⟨hc3, hf3⟩ := bcell hb3
        have hz3 := hb3.size
        try simp at hz3
        have hs3x0 : w.heap.size < w3.heap.size := by omega
        have hs3x1 : w2.heap.size < w3.heap.size := by omega
        have g3x0 : w3.cell? ⟨w.heap.size, 0, none⟩ = some (.int .i64 n) := (hc3 _ _ (by first | omega | (simp; done) | (simp; omega))).trans (by first | assumption | simp [go_sem] | simp [go_sem, *])
        have g3x1 : w3.cell? ⟨w.heap.size, 1, none⟩ = some (.bool l) := (hc3 _ _ (by first | omega | (simp; done) | (simp; omega))).trans (by first | assumption | simp [go_sem] | simp [go_sem, *])
        have g3x2 : w3.cell? ⟨w2.heap.size, 0, none⟩ = some (.int .i64 0) := (hc3 _ _ (by first | omega | (simp; done) | (simp; omega))).trans (by first | assumption | simp [go_sem] | simp [go_sem, *])
        have g3x3 : w3.cell? ⟨w2.heap.size, 1, none⟩ = some (.bool false) := (hc3 _ _ (by first | omega | (simp; done) | (simp; omega))).trans (by first | assumption | simp [go_sem] | simp [go_sem, *])
        go_wp2_with fail
        refine (HO1.out _).mono ?_
        rintro e w4 ⟨rfl, hb4⟩
        obtain ⟨hc4, hf4⟩ := bcell hb4
        have hz4 := hb4.size
        try simp at hz4
        have hs4x0 : w.heap.size < w4.heap.size := by omega
        have hs4x1 : w2.heap.size < w4.heap.size := by omega
        have g4x0 : w4.cell? ⟨w.heap.size, 0, none⟩ = some (.int .i64 n) := (hc4 _ _ (by first | omega | (simp; done) | (simp; omega))).trans (by first | assumption | simp [go_sem] | simp [go_sem, *])
        have g4x1 : w4.cell? ⟨w.heap.size, 1, none⟩ = some (.bool l) := (hc4 _ _ (by first | omega | (simp; done) | (simp; omega))).trans (by first | assumption | simp [go_sem] | simp [go_sem, *])
        have g4x2 : w4.cell? ⟨w2.heap.size, 0, none⟩ = some (.int .i64 0) := (hc4 _ _ (by first | omega | (simp; done) | (simp; omega))).trans (by first | assumption | simp [go_sem] | simp [go_sem, *])
        have g4x3 : w4.cell? ⟨w2.heap.size, 1, none⟩ = some (.bool false) := (hc4 _ _ (by first | omega | (simp; done) | (simp; omega))).trans (by first | assumption | simp [go_sem] | simp [go_sem, *])
        go_wp2_with fail
        refine (HP.out _).mono ?_
        rintro e w5 ⟨rfl, hb5⟩
        obtain ⟨hc5, hf5⟩ := bcell hb5
        have hz5 := hb5.size
        try simp at hz5
        have hs5x0 : w4.heap.size < w5.heap.size := by omega
        have g5x0 : w5.cell? ⟨w4.heap.size, 0, none⟩ = some (.int .i64 cn) := (hc5 _ _ (by first | omega | (simp; done) | (simp; omega))).trans (by first | assumption | simp [go_sem] | simp [go_sem, *])
        have g5x1 : w5.cell? ⟨w4.heap.size, 1, none⟩ = some (.bool cl) := (hc5 _ _ (by first | omega | (simp; done) | (simp; omega))).trans (by first | assumption | simp [go_sem] | simp [go_sem, *])
        go_wp2_with fail
        refine (HO2.out _).mono ?_
        rintro e w6 ⟨rfl, hb6⟩
        obtain ⟨hc6, hf6⟩ := bcell hb6
        have hz6 := hb6.size
        try simp at hz6
        have hs6x0 : w4.heap.size < w6.heap.size := by omega
        have g6x0 : w6.cell? ⟨w4.heap.size, 0, none⟩ = some (.int .i64 cn) := (hc6 _ _ (by first | omega | (simp; done) | (simp; omega))).trans (by first | assumption | simp [go_sem] | simp [go_sem, *])
        have g6x1 : w6.cell? ⟨w4.heap.size, 1, none⟩ = some (.bool cl) := (hc6 _ _ (by first | omega | (simp; done) | (simp; omega))).trans (by first | assumption | simp [go_sem] | simp [go_sem, *])
        go_wp2_with fail
        refine (awake9 _).mono ?_
        rintro e w7 ⟨rfl, hb7⟩
        obtain ⟨hc7, hf7⟩ := bcell hb7
        have hz7 := hb7.size
        try simp at hz7
        have hs7x0 : w4.heap.size < w7.heap.size := by omega
        have hs7x1 : w6.heap.size < w7.heap.size := by omega
        have g7x0 : w7.cell? ⟨w4.heap.size, 0, none⟩ = some (.int .i64 cn) := (hc7 _ _ (by first | omega | (simp; done) | (simp; omega))).trans (by first | assumption | simp [go_sem] | simp [go_sem, *])
        have g7x1 : w7.cell? ⟨w4.heap.size, 1, none⟩ = some (.bool cl) := (hc7 _ _ (by first | omega | (simp; done) | (simp; omega))).trans (by first | assumption | simp [go_sem] | simp [go_sem, *])
        have g7x2 : w7.cell? ⟨w6.heap.size, 0, none⟩ = some (.int .i64 0) := (hc7 _ _ (by first | omega | (simp; done) | (simp; omega))).trans (by first | assumption | simp [go_sem] | simp [go_sem, *])
        have g7x3 : w7.cell? ⟨w6.heap.size, 1, none⟩ = some (.bool false) := (hc7 _ _ (by first | omega | (simp; done) | (simp; omega))).trans (by first | assumption | simp [go_sem] | simp [go_sem, *])
        go_wp2_with fail
        refine (HRt.out _).mono ?_
        rintro e w8 ⟨rfl, hb8⟩
        obtain ⟨hc8, hf8⟩ := bcell hb8
        have hz8 := hb8.size
        try simp at hz8
        have hs8x0 : w4.heap.size < w8.heap.size := by omega
        have hs8x1 : w6.heap.size < w8.heap.size := by omega
        have g8x0 : w8.cell? ⟨w4.heap.size, 0, none⟩ = some (.int .i64 cn) := (hc8 _ _ (by first | omega | (simp; done) | (simp; omega))).trans (by first | assumption | simp [go_sem] | simp [go_sem, *])
        have g8x1 : w8.cell? ⟨w4.heap.size, 1, none⟩ = some (.bool cl) := (hc8 _ _ (by first | omega | (simp; done) | (simp; omega))).trans (by first | assumption | simp [go_sem] | simp [go_sem, *])
        have g8x2 : w8.cell? ⟨w6.heap.size, 0, none⟩ = some (.int .i64 0) := (hc8 _ _ (by first | omega | (simp; done) | (simp; omega))).trans (by first | assumption | simp [go_sem] | simp [go_sem, *])
        have g8x3 : w8.cell? ⟨w6.heap.size, 1, none⟩ = some (.bool false) := (hc8 _ _ (by first | omega | (simp; done) | (simp; omega))).trans (by first | assumption | simp [go_sem] | simp [go_sem, *])
        go_wp2_with fail
        go_ret
        refine ⟨rfl, ?_⟩
        repeat (first | exact Below.refl _ _ | assumption | (with_reducible refine bdrew ?_) | (with_reducible refine baa ?_ _) | (with_reducible refine bs ?_ (by first | exact Nat.le_refl _ | omega | (simp; omega)) _) | (with_reducible refine bt ?_ (by assumption)))
    · simp only [if_true, Bool.true_and] at hRd
      have HT := Lib.hid hT
      have HRa := Lib.hid hRa
      have HRd := Lib.hid hRd
      clear hT hRa hRd hr
      cases lp
      · have d1 : 1 + m % 14 ≤ 12 := hd
        have d2 : decide (1 + m % 14 ≤ 12) = true := by simpa using d1
        clear hd
        go_enter Try.func4, Try.ntmps4
        go_wp2_with fail
        refine (HT.out _).mono ?_
        rintro e w1 ⟨rfl, hb1⟩
        obtain ⟨hc1, hf1⟩ := bcell hb1
        have hz1 := hb1.size
        try simp at hz1
        have hs1x0 : w.heap.size < w1.heap.size := by omega
        have g1x0 : w1.cell? ⟨w.heap.size, 0, none⟩ = some (.int .i64 n) := (hc1 _ _ (by first | omega | (simp; done) | (simp; omega))).trans (by first | assumption | simp [go_sem] | simp [go_sem, *])
        have g1x1 : w1.cell? ⟨w.heap.size, 1, none⟩ = some (.bool l) := (hc1 _ _ (by first | omega | (simp; done) | (simp; omega))).trans (by first | assumption | simp [go_sem] | simp [go_sem, *])
        go_wp2_with fail
        refine (HRd.out _).mono ?_
        rintro e w2 ⟨rfl, hb2⟩
        obtain ⟨hc2, hf2⟩ := bcell hb2
        have hz2 := hb2.size
        try simp at hz2
        have hs2x0 : w.heap.size < w2.heap.size := by omega
        have g2x0 : w2.cell? ⟨w.heap.size, 0, none⟩ = some (.int .i64 n) := (hc2 _ _ (by first | omega | (simp; done) | (simp; omega))).trans (by first | assumption | simp [go_sem] | simp [go_sem, *])
        have g2x1 : w2.cell? ⟨w.heap.size, 1, none⟩ = some (.bool l) := (hc2 _ _ (by first | omega | (simp; done) | (simp; omega))).trans (by first | assumption | simp [go_sem] | simp [go_sem, *])
        go_wp2_with fail
        refine (HRa.out _).mono ?_
        rintro e w3 ⟨rfl, hb3⟩
        obtain ⟨hc3, hf3⟩ := bcell hb3
        have hz3 := hb3.size
        try simp at hz3
        have hs3x0 : w.heap.size < w3.heap.size := by omega
        have hs3x1 : w2.heap.size < w3.heap.size := by omega
        have g3x0 : w3.cell? ⟨w.heap.size, 0, none⟩ = some (.int .i64 n) := (hc3 _ _ (by first | omega | (simp; done) | (simp; omega))).trans (by first | assumption | simp [go_sem] | simp [go_sem, *])
        have g3x1 : w3.cell? ⟨w.heap.size, 1, none⟩ = some (.bool l) := (hc3 _ _ (by first | omega | (simp; done) | (simp; omega))).trans (by first | assumption | simp [go_sem] | simp [go_sem, *])
        have g3x2 : w3.cell? ⟨w2.heap.size, 0, none⟩ = some (.int .i64 n) := (hc3 _ _ (by first | omega | (simp; done) | (simp; omega))).trans (by first | assumption | simp [go_sem] | simp [go_sem, *])
        have g3x3 : w3.cell? ⟨w2.heap.size, 1, none⟩ = some (.bool l) := (hc3 _ _ (by first | omega | (simp; done) | (simp; omega))).trans (by first | assumption | simp [go_sem] | simp [go_sem, *])
        go_wp2_with fail
        refine (HO1.out _).mono ?_
        rintro e w4 ⟨rfl, hb4⟩
        obtain ⟨hc4, hf4⟩ := bcell hb4
        have hz4 := hb4.size
        try simp at hz4
        have hs4x0 : w.heap.size < w4.heap.size := by omega
        have hs4x1 : w2.heap.size < w4.heap.size := by omega
        have g4x0 : w4.cell? ⟨w.heap.size, 0, none⟩ = some (.int .i64 n) := (hc4 _ _ (by first | omega | (simp; done) | (simp; omega))).trans (by first | assumption | simp [go_sem] | simp [go_sem, *])
        have g4x1 : w4.cell? ⟨w.heap.size, 1, none⟩ = some (.bool l) := (hc4 _ _ (by first | omega | (simp; done) | (simp; omega))).trans (by first | assumption | simp [go_sem] | simp [go_sem, *])
        have g4x2 : w4.cell? ⟨w2.heap.size, 0, none⟩ = some (.int .i64 n) := (hc4 _ _ (by first | omega | (simp; done) | (simp; omega))).trans (by first | assumption | simp [go_sem] | simp [go_sem, *])
        have g4x3 : w4.cell? ⟨w2.heap.size, 1, none⟩ = some (.bool l) := (hc4 _ _ (by first | omega | (simp; done) | (simp; omega))).trans (by first | assumption | simp [go_sem] | simp [go_sem, *])
        go_wp2_with fail
        refine (HP.out _).mono ?_
        rintro e w5 ⟨rfl, hb5⟩
        obtain ⟨hc5, hf5⟩ := bcell hb5
        have hz5 := hb5.size
        try simp at hz5
        have hs5x0 : w4.heap.size < w5.heap.size := by omega
        have g5x0 : w5.cell? ⟨w4.heap.size, 0, none⟩ = some (.int .i64 cn) := (hc5 _ _ (by first | omega | (simp; done) | (simp; omega))).trans (by first | assumption | simp [go_sem] | simp [go_sem, *])
        have g5x1 : w5.cell? ⟨w4.heap.size, 1, none⟩ = some (.bool cl) := (hc5 _ _ (by first | omega | (simp; done) | (simp; omega))).trans (by first | assumption | simp [go_sem] | simp [go_sem, *])
        go_wp2_with fail
        refine (HO2.out _).mono ?_
        rintro e w6 ⟨rfl, hb6⟩
        obtain ⟨hc6, hf6⟩ := bcell hb6
        have hz6 := hb6.size
        try simp at hz6
        have hs6x0 : w4.heap.size < w6.heap.size := by omega
        have g6x0 : w6.cell? ⟨w4.heap.size, 0, none⟩ = some (.int .i64 cn) := (hc6 _ _ (by first | omega | (simp; done) | (simp; omega))).trans (by first | assumption | simp [go_sem] | simp [go_sem, *])
        have g6x1 : w6.cell? ⟨w4.heap.size, 1, none⟩ = some (.bool cl) := (hc6 _ _ (by first | omega | (simp; done) | (simp; omega))).trans (by first | assumption | simp [go_sem] | simp [go_sem, *])
        go_wp2_with fail
        refine (awake9 _).mono ?_
        rintro e w7 ⟨rfl, hb7⟩
        obtain ⟨hc7, hf7⟩ := bcell hb7
        have hz7 := hb7.size
        try simp at hz7
        have hs7x0 : w4.heap.size < w7.heap.size := by omega
        have hs7x1 : w6.heap.size < w7.heap.size := by omega
        have g7x0 : w7.cell? ⟨w4.heap.size, 0, none⟩ = some (.int .i64 cn) := (hc7 _ _ (by first | omega | (simp; done) | (simp; omega))).trans (by first | assumption | simp [go_sem] | simp [go_sem, *])
        have g7x1 : w7.cell? ⟨w4.heap.size, 1, none⟩ = some (.bool cl) := (hc7 _ _ (by first | omega | (simp; done) | (simp; omega))).trans (by first | assumption | simp [go_sem] | simp [go_sem, *])
        have g7x2 : w7.cell? ⟨w6.heap.size, 0, none⟩ = some (.int .i64 0) := (hc7 _ _ (by first | omega | (simp; done) | (simp; omega))).trans (by first | assumption | simp [go_sem] | simp [go_sem, *])
        have g7x3 : w7.cell? ⟨w6.heap.size, 1, none⟩ = some (.bool false) := (hc7 _ _ (by first | omega | (simp; done) | (simp; omega))).trans (by first | assumption | simp [go_sem] | simp [go_sem, *])
        go_wp2_with fail
        refine (HRt.out _).mono ?_
        rintro e w8 ⟨rfl, hb8⟩
        obtain ⟨hc8, hf8⟩ := bcell hb8
        have hz8 := hb8.size
        try simp at hz8
        have hs8x0 : w4.heap.size < w8.heap.size := by omega
        have hs8x1 : w6.heap.size < w8.heap.size := by omega
        have g8x0 : w8.cell? ⟨w4.heap.size, 0, none⟩ = some (.int .i64 cn) := (hc8 _ _ (by first | omega | (simp; done) | (simp; omega))).trans (by first | assumption | simp [go_sem] | simp [go_sem, *])
        have g8x1 : w8.cell? ⟨w4.heap.size, 1, none⟩ = some (.bool cl) := (hc8 _ _ (by first | omega | (simp; done) | (simp; omega))).trans (by first | assumption | simp [go_sem] | simp [go_sem, *])
        have g8x2 : w8.cell? ⟨w6.heap.size, 0, none⟩ = some (.int .i64 0) := (hc8 _ _ (by first | omega | (simp; done) | (simp; omega))).trans (by first | assumption | simp [go_sem] | simp [go_sem, *])
        have g8x3 : w8.cell? ⟨w6.heap.size, 1, none⟩ = some (.bool false) := (hc8 _ _ (by first | omega | (simp; done) | (simp; omega))).trans (by first | assumption | simp [go_sem] | simp [go_sem, *])
        go_wp2_with fail
        go_ret
        refine ⟨rfl, ?_⟩
        repeat (first | exact Below.refl _ _ | assumption | (with_reducible refine bdrew ?_) | (with_reducible refine baa ?_ _) | (with_reducible refine bs ?_ (by first | exact Nat.le_refl _ | omega | (simp; omega)) _) | (with_reducible refine bt ?_ (by assumption)))
      · have d1 : 1 + m % 14 ≤ 13 := hd
        have d2 : decide (1 + m % 14 ≤ 13) = true := by simpa using d1
        clear hd
        go_enter Try.func4, Try.ntmps4
        go_wp2_with fail
        refine (HT.out _).mono ?_
        rintro e w1 ⟨rfl, hb1⟩
        obtain ⟨hc1, hf1⟩ := bcell hb1
        have hz1 := hb1.size
        try simp at hz1
        have hs1x0 : w.heap.size < w1.heap.size := by omega
        have g1x0 : w1.cell? ⟨w.heap.size, 0, none⟩ = some (.int .i64 n) := (hc1 _ _ (by first | omega | (simp; done) | (simp; omega))).trans (by first | assumption | simp [go_sem] | simp [go_sem, *])
        have g1x1 : w1.cell? ⟨w.heap.size, 1, none⟩ = some (.bool l) := (hc1 _ _ (by first | omega | (simp; done) | (simp; omega))).trans (by first | assumption | simp [go_sem] | simp [go_sem, *])
        go_wp2_with fail
        refine (HRd.out _).mono ?_
        rintro e w2 ⟨rfl, hb2⟩
        obtain ⟨hc2, hf2⟩ := bcell hb2
        have hz2 := hb2.size
        try simp at hz2
        have hs2x0 : w.heap.size < w2.heap.size := by omega
        have g2x0 : w2.cell? ⟨w.heap.size, 0, none⟩ = some (.int .i64 n) := (hc2 _ _ (by first | omega | (simp; done) | (simp; omega))).trans (by first | assumption | simp [go_sem] | simp [go_sem, *])
        have g2x1 : w2.cell? ⟨w.heap.size, 1, none⟩ = some (.bool l) := (hc2 _ _ (by first | omega | (simp; done) | (simp; omega))).trans (by first | assumption | simp [go_sem] | simp [go_sem, *])
        go_wp2_with fail
        refine (HRa.out _).mono ?_
        rintro e w3 ⟨rfl, hb3⟩
        obtain ⟨hc3, hf3⟩ := bcell hb3
        have hz3 := hb3.size
        try simp at hz3
        have hs3x0 : w.heap.size < w3.heap.size := by omega
        have hs3x1 : w2.heap.size < w3.heap.size := by omega
        have g3x0 : w3.cell? ⟨w.heap.size, 0, none⟩ = some (.int .i64 n) := (hc3 _ _ (by first | omega | (simp; done) | (simp; omega))).trans (by first | assumption | simp [go_sem] | simp [go_sem, *])
        have g3x1 : w3.cell? ⟨w.heap.size, 1, none⟩ = some (.bool l) := (hc3 _ _ (by first | omega | (simp; done) | (simp; omega))).trans (by first | assumption | simp [go_sem] | simp [go_sem, *])
        have g3x2 : w3.cell? ⟨w2.heap.size, 0, none⟩ = some (.int .i64 n) := (hc3 _ _ (by first | omega | (simp; done) | (simp; omega))).trans (by first | assumption | simp [go_sem] | simp [go_sem, *])
        have g3x3 : w3.cell? ⟨w2.heap.size, 1, none⟩ = some (.bool l) := (hc3 _ _ (by first | omega | (simp; done) | (simp; omega))).trans (by first | assumption | simp [go_sem] | simp [go_sem, *])
        go_wp2_with fail
        refine (HO1.out _).mono ?_
        rintro e w4 ⟨rfl, hb4⟩
        obtain ⟨hc4, hf4⟩ := bcell hb4
        have hz4 := hb4.size
        try simp at hz4
        have hs4x0 : w.heap.size < w4.heap.size := by omega
        have hs4x1 : w2.heap.size < w4.heap.size := by omega
        have g4x0 : w4.cell? ⟨w.heap.size, 0, none⟩ = some (.int .i64 n) := (hc4 _ _ (by first | omega | (simp; done) | (simp; omega))).trans (by first | assumption | simp [go_sem] | simp [go_sem, *])
        have g4x1 : w4.cell? ⟨w.heap.size, 1, none⟩ = some (.bool l) := (hc4 _ _ (by first | omega | (simp; done) | (simp; omega))).trans (by first | assumption | simp [go_sem] | simp [go_sem, *])
        have g4x2 : w4.cell? ⟨w2.heap.size, 0, none⟩ = some (.int .i64 n) := (hc4 _ _ (by first | omega | (simp; done) | (simp; omega))).trans (by first | assumption | simp [go_sem] | simp [go_sem, *])
        have g4x3 : w4.cell? ⟨w2.heap.size, 1, none⟩ = some (.bool l) := (hc4 _ _ (by first | omega | (simp; done) | (simp; omega))).trans (by first | assumption | simp [go_sem] | simp [go_sem, *])
        go_wp2_with fail
        refine (HP.out _).mono ?_
        rintro e w5 ⟨rfl, hb5⟩
        obtain ⟨hc5, hf5⟩ := bcell hb5
        have hz5 := hb5.size
        try simp at hz5
        have hs5x0 : w4.heap.size < w5.heap.size := by omega
        have g5x0 : w5.cell? ⟨w4.heap.size, 0, none⟩ = some (.int .i64 cn) := (hc5 _ _ (by first | omega | (simp; done) | (simp; omega))).trans (by first | assumption | simp [go_sem] | simp [go_sem, *])
        have g5x1 : w5.cell? ⟨w4.heap.size, 1, none⟩ = some (.bool cl) := (hc5 _ _ (by first | omega | (simp; done) | (simp; omega))).trans (by first | assumption | simp [go_sem] | simp [go_sem, *])
        go_wp2_with fail
        refine (HO2.out _).mono ?_
        rintro e w6 ⟨rfl, hb6⟩
        obtain ⟨hc6, hf6⟩ := bcell hb6
        have hz6 := hb6.size
        try simp at hz6
        have hs6x0 : w4.heap.size < w6.heap.size := by omega
        have g6x0 : w6.cell? ⟨w4.heap.size, 0, none⟩ = some (.int .i64 cn) := (hc6 _ _ (by first | omega | (simp; done) | (simp; omega))).trans (by first | assumption | simp [go_sem] | simp [go_sem, *])
        have g6x1 : w6.cell? ⟨w4.heap.size, 1, none⟩ = some (.bool cl) := (hc6 _ _ (by first | omega | (simp; done) | (simp; omega))).trans (by first | assumption | simp [go_sem] | simp [go_sem, *])
        go_wp2_with fail
        refine (awake9 _).mono ?_
        rintro e w7 ⟨rfl, hb7⟩
        obtain ⟨hc7, hf7⟩ := bcell hb7
        have hz7 := hb7.size
        try simp at hz7
        have hs7x0 : w4.heap.size < w7.heap.size := by omega
        have hs7x1 : w6.heap.size < w7.heap.size := by omega
        have g7x0 : w7.cell? ⟨w4.heap.size, 0, none⟩ = some (.int .i64 cn) := (hc7 _ _ (by first | omega | (simp; done) | (simp; omega))).trans (by first | assumption | simp [go_sem] | simp [go_sem, *])
        have g7x1 : w7.cell? ⟨w4.heap.size, 1, none⟩ = some (.bool cl) := (hc7 _ _ (by first | omega | (simp; done) | (simp; omega))).trans (by first | assumption | simp [go_sem] | simp [go_sem, *])
        have g7x2 : w7.cell? ⟨w6.heap.size, 0, none⟩ = some (.int .i64 0) := (hc7 _ _ (by first | omega | (simp; done) | (simp; omega))).trans (by first | assumption | simp [go_sem] | simp [go_sem, *])
        have g7x3 : w7.cell? ⟨w6.heap.size, 1, none⟩ = some (.bool false) := (hc7 _ _ (by first | omega | (simp; done) | (simp; omega))).trans (by first | assumption | simp [go_sem] | simp [go_sem, *])
        go_wp2_with fail
        refine (HRt.out _).mono ?_
        rintro e w8 ⟨rfl, hb8⟩
        obtain ⟨hc8, hf8⟩ := bcell hb8
        have hz8 := hb8.size
        try simp at hz8
        have hs8x0 : w4.heap.size < w8.heap.size := by omega
        have hs8x1 : w6.heap.size < w8.heap.size := by omega
        have g8x0 : w8.cell? ⟨w4.heap.size, 0, none⟩ = some (.int .i64 cn) := (hc8 _ _ (by first | omega | (simp; done) | (simp; omega))).trans (by first | assumption | simp [go_sem] | simp [go_sem, *])
        have g8x1 : w8.cell? ⟨w4.heap.size, 1, none⟩ = some (.bool cl) := (hc8 _ _ (by first | omega | (simp; done) | (simp; omega))).trans (by first | assumption | simp [go_sem] | simp [go_sem, *])
        have g8x2 : w8.cell? ⟨w6.heap.size, 0, none⟩ = some (.int .i64 0) := (hc8 _ _ (by first | omega | (simp; done) | (simp; omega))).trans (by first | assumption | simp [go_sem] | simp [go_sem, *])
        have g8x3 : w8.cell? ⟨w6.heap.size, 1, none⟩ = some (.bool false) := (hc8 _ _ (by first | omega | (simp; done) | (simp; omega))).trans (by first | assumption | simp [go_sem] | simp [go_sem, *])
        go_wp2_with fail
        go_ret
        refine ⟨rfl, ?_⟩
        repeat (first | exact Below.refl _ _ | assumption | (with_reducible refine bdrew ?_) | (with_reducible refine baa ?_ _) | (with_reducible refine bs ?_ (by first | exact Nat.le_refl _ | omega | (simp; omega)) _) | (with_reducible refine bt ?_ (by assumption)))
  · obtain ⟨e1, e2, e3⟩ := of_out lp (1 + m % 14) (by omega)
    obtain ⟨e5, e6, e7⟩ := of_out lp (1 + m % 14 + 1) (by omega)
    obtain ⟨e8, e9⟩ := plOk_no lp 0 false (by decide)
    rw [e1, e2, e3] at hO1
    rw [e2, e3, e8, e9] at hP
    rw [e5, e6, e7] at hO2
    have hd : Cal.most lp < 1 + m % 14 := by omega
    have HO1 := Lib.hid hO1
    have HO2 := Lib.hid hO2
    have HP := Lib.hid hP
    have HRt := Lib.hid hRt
    have HL1 := Lib.hid hL1
    have HL2 := Lib.hid hL2
    clear hO1 hO2 hP hRt hL1 hL2 c
    clear e1 e2 e3 e5 e6 e7 e8 e9
    cases hr : Cal.right n l <;> rw [hr] at hT hRa hRd
    · simp only [Bool.false_eq_true, if_false, Bool.false_and] at hRd
      have HT := Lib.hid hT
      have HRa := Lib.hid hRa
      have HRd := Lib.hid hRd
      clear hT hRa hRd hr
      cases lp
      · have d1 : 12 < 1 + m % 14 := hd
        have d2 : decide (1 + m % 14 ≤ 12) = false := by simpa using d1
        clear hd
        go_enter Try.func4, Try.ntmps4
        go_wp2_with fail
        refine (HT.out _).mono ?_
        rintro e w1 ⟨rfl, hb1⟩
        obtain ⟨hc1, hf1⟩ := bcell hb1
        have hz1 := hb1.size
        try simp at hz1
        have hs1x0 : w.heap.size < w1.heap.size := by omega
        have g1x0 : w1.cell? ⟨w.heap.size, 0, none⟩ = some (.int .i64 n) := (hc1 _ _ (by first | omega | (simp; done) | (simp; omega))).trans (by first | assumption | simp [go_sem] | simp [go_sem, *])
        have g1x1 : w1.cell? ⟨w.heap.size, 1, none⟩ = some (.bool l) := (hc1 _ _ (by first | omega | (simp; done) | (simp; omega))).trans (by first | assumption | simp [go_sem] | simp [go_sem, *])
        go_wp2_with fail
        refine (HRd.out _).mono ?_
        rintro e w2 ⟨rfl, hb2⟩
        obtain ⟨hc2, hf2⟩ := bcell hb2
        have hz2 := hb2.size
        try simp at hz2
        have hs2x0 : w.heap.size < w2.heap.size := by omega
        have g2x0 : w2.cell? ⟨w.heap.size, 0, none⟩ = some (.int .i64 n) := (hc2 _ _ (by first | omega | (simp; done) | (simp; omega))).trans (by first | assumption | simp [go_sem] | simp [go_sem, *])
        have g2x1 : w2.cell? ⟨w.heap.size, 1, none⟩ = some (.bool l) := (hc2 _ _ (by first | omega | (simp; done) | (simp; omega))).trans (by first | assumption | simp [go_sem] | simp [go_sem, *])
        go_wp2_with fail
        refine (HRa.out _).mono ?_
        rintro e w3 ⟨rfl, hb3⟩
        obtain ⟨hc3, hf3⟩ := bcell hb3
        have hz3 := hb3.size
        try simp at hz3
        have hs3x0 : w.heap.size < w3.heap.size := by omega
        have hs3x1 : w2.heap.size < w3.heap.size := by omega
        have g3x0 : w3.cell? ⟨w.heap.size, 0, none⟩ = some (.int .i64 n) := (hc3 _ _ (by first | omega | (simp; done) | (simp; omega))).trans (by first | assumption | simp [go_sem] | simp [go_sem, *])
        have g3x1 : w3.cell? ⟨w.heap.size, 1, none⟩ = some (.bool l) := (hc3 _ _ (by first | omega | (simp; done) | (simp; omega))).trans (by first | assumption | simp [go_sem] | simp [go_sem, *])
        have g3x2 : w3.cell? ⟨w2.heap.size, 0, none⟩ = some (.int .i64 0) := (hc3 _ _ (by first | omega | (simp; done) | (simp; omega))).trans (by first | assumption | simp [go_sem] | simp [go_sem, *])
        have g3x3 : w3.cell? ⟨w2.heap.size, 1, none⟩ = some (.bool false) := (hc3 _ _ (by first | omega | (simp; done) | (simp; omega))).trans (by first | assumption | simp [go_sem] | simp [go_sem, *])
        go_wp2_with fail
        refine (HO1.out _).mono ?_
        rintro e w4 ⟨rfl, hb4⟩
        obtain ⟨hc4, hf4⟩ := bcell hb4
        have hz4 := hb4.size
        try simp at hz4
        have hs4x0 : w.heap.size < w4.heap.size := by omega
        have hs4x1 : w2.heap.size < w4.heap.size := by omega
        have g4x0 : w4.cell? ⟨w.heap.size, 0, none⟩ = some (.int .i64 n) := (hc4 _ _ (by first | omega | (simp; done) | (simp; omega))).trans (by first | assumption | simp [go_sem] | simp [go_sem, *])
        have g4x1 : w4.cell? ⟨w.heap.size, 1, none⟩ = some (.bool l) := (hc4 _ _ (by first | omega | (simp; done) | (simp; omega))).trans (by first | assumption | simp [go_sem] | simp [go_sem, *])
        have g4x2 : w4.cell? ⟨w2.heap.size, 0, none⟩ = some (.int .i64 0) := (hc4 _ _ (by first | omega | (simp; done) | (simp; omega))).trans (by first | assumption | simp [go_sem] | simp [go_sem, *])
        have g4x3 : w4.cell? ⟨w2.heap.size, 1, none⟩ = some (.bool false) := (hc4 _ _ (by first | omega | (simp; done) | (simp; omega))).trans (by first | assumption | simp [go_sem] | simp [go_sem, *])
        go_wp2_with fail
        refine (HP.out _).mono ?_
        rintro e w5 ⟨rfl, hb5⟩
        obtain ⟨hc5, hf5⟩ := bcell hb5
        have hz5 := hb5.size
        try simp at hz5
        have hs5x0 : w4.heap.size < w5.heap.size := by omega
        have g5x0 : w5.cell? ⟨w4.heap.size, 0, none⟩ = some (.int .i64 0) := (hc5 _ _ (by first | omega | (simp; done) | (simp; omega))).trans (by first | assumption | simp [go_sem] | simp [go_sem, *])
        have g5x1 : w5.cell? ⟨w4.heap.size, 1, none⟩ = some (.bool false) := (hc5 _ _ (by first | omega | (simp; done) | (simp; omega))).trans (by first | assumption | simp [go_sem] | simp [go_sem, *])
        go_wp2_with fail
        refine (HO2.out _).mono ?_
        rintro e w6 ⟨rfl, hb6⟩
        obtain ⟨hc6, hf6⟩ := bcell hb6
        have hz6 := hb6.size
        try simp at hz6
        have hs6x0 : w4.heap.size < w6.heap.size := by omega
        have g6x0 : w6.cell? ⟨w4.heap.size, 0, none⟩ = some (.int .i64 0) := (hc6 _ _ (by first | omega | (simp; done) | (simp; omega))).trans (by first | assumption | simp [go_sem] | simp [go_sem, *])
        have g6x1 : w6.cell? ⟨w4.heap.size, 1, none⟩ = some (.bool false) := (hc6 _ _ (by first | omega | (simp; done) | (simp; omega))).trans (by first | assumption | simp [go_sem] | simp [go_sem, *])
        go_wp2_with fail
        refine (awake9 _).mono ?_
        rintro e w7 ⟨rfl, hb7⟩
        obtain ⟨hc7, hf7⟩ := bcell hb7
        have hz7 := hb7.size
        try simp at hz7
        have hs7x0 : w4.heap.size < w7.heap.size := by omega
        have hs7x1 : w6.heap.size < w7.heap.size := by omega
        have g7x0 : w7.cell? ⟨w4.heap.size, 0, none⟩ = some (.int .i64 0) := (hc7 _ _ (by first | omega | (simp; done) | (simp; omega))).trans (by first | assumption | simp [go_sem] | simp [go_sem, *])
        have g7x1 : w7.cell? ⟨w4.heap.size, 1, none⟩ = some (.bool false) := (hc7 _ _ (by first | omega | (simp; done) | (simp; omega))).trans (by first | assumption | simp [go_sem] | simp [go_sem, *])
        have g7x2 : w7.cell? ⟨w6.heap.size, 0, none⟩ = some (.int .i64 0) := (hc7 _ _ (by first | omega | (simp; done) | (simp; omega))).trans (by first | assumption | simp [go_sem] | simp [go_sem, *])
        have g7x3 : w7.cell? ⟨w6.heap.size, 1, none⟩ = some (.bool false) := (hc7 _ _ (by first | omega | (simp; done) | (simp; omega))).trans (by first | assumption | simp [go_sem] | simp [go_sem, *])
        go_wp2_with fail
        go_ret
        refine ⟨rfl, ?_⟩
        repeat (first | exact Below.refl _ _ | assumption | (with_reducible refine bdrew ?_) | (with_reducible refine baa ?_ _) | (with_reducible refine bs ?_ (by first | exact Nat.le_refl _ | omega | (simp; omega)) _) | (with_reducible refine bt ?_ (by assumption)))
      · have d1 : 13 < 1 + m % 14 := hd
        have d2 : decide (1 + m % 14 ≤ 13) = false := by simpa using d1
        clear hd
        go_enter Try.func4, Try.ntmps4
        go_wp2_with fail
        refine (HT.out _).mono ?_
        rintro e w1 ⟨rfl, hb1⟩
        obtain ⟨hc1, hf1⟩ := bcell hb1
        have hz1 := hb1.size
        try simp at hz1
        have hs1x0 : w.heap.size < w1.heap.size := by omega
        have g1x0 : w1.cell? ⟨w.heap.size, 0, none⟩ = some (.int .i64 n) := (hc1 _ _ (by first | omega | (simp; done) | (simp; omega))).trans (by first | assumption | simp [go_sem] | simp [go_sem, *])
        have g1x1 : w1.cell? ⟨w.heap.size, 1, none⟩ = some (.bool l) := (hc1 _ _ (by first | omega | (simp; done) | (simp; omega))).trans (by first | assumption | simp [go_sem] | simp [go_sem, *])
        go_wp2_with fail
        refine (HRd.out _).mono ?_
        rintro e w2 ⟨rfl, hb2⟩
        obtain ⟨hc2, hf2⟩ := bcell hb2
        have hz2 := hb2.size
        try simp at hz2
        have hs2x0 : w.heap.size < w2.heap.size := by omega
        have g2x0 : w2.cell? ⟨w.heap.size, 0, none⟩ = some (.int .i64 n) := (hc2 _ _ (by first | omega | (simp; done) | (simp; omega))).trans (by first | assumption | simp [go_sem] | simp [go_sem, *])
        have g2x1 : w2.cell? ⟨w.heap.size, 1, none⟩ = some (.bool l) := (hc2 _ _ (by first | omega | (simp; done) | (simp; omega))).trans (by first | assumption | simp [go_sem] | simp [go_sem, *])
        go_wp2_with fail
        refine (HRa.out _).mono ?_
        rintro e w3 ⟨rfl, hb3⟩
        obtain ⟨hc3, hf3⟩ := bcell hb3
        have hz3 := hb3.size
        try simp at hz3
        have hs3x0 : w.heap.size < w3.heap.size := by omega
        have hs3x1 : w2.heap.size < w3.heap.size := by omega
        have g3x0 : w3.cell? ⟨w.heap.size, 0, none⟩ = some (.int .i64 n) := (hc3 _ _ (by first | omega | (simp; done) | (simp; omega))).trans (by first | assumption | simp [go_sem] | simp [go_sem, *])
        have g3x1 : w3.cell? ⟨w.heap.size, 1, none⟩ = some (.bool l) := (hc3 _ _ (by first | omega | (simp; done) | (simp; omega))).trans (by first | assumption | simp [go_sem] | simp [go_sem, *])
        have g3x2 : w3.cell? ⟨w2.heap.size, 0, none⟩ = some (.int .i64 0) := (hc3 _ _ (by first | omega | (simp; done) | (simp; omega))).trans (by first | assumption | simp [go_sem] | simp [go_sem, *])
        have g3x3 : w3.cell? ⟨w2.heap.size, 1, none⟩ = some (.bool false) := (hc3 _ _ (by first | omega | (simp; done) | (simp; omega))).trans (by first | assumption | simp [go_sem] | simp [go_sem, *])
        go_wp2_with fail
        refine (HO1.out _).mono ?_
        rintro e w4 ⟨rfl, hb4⟩
        obtain ⟨hc4, hf4⟩ := bcell hb4
        have hz4 := hb4.size
        try simp at hz4
        have hs4x0 : w.heap.size < w4.heap.size := by omega
        have hs4x1 : w2.heap.size < w4.heap.size := by omega
        have g4x0 : w4.cell? ⟨w.heap.size, 0, none⟩ = some (.int .i64 n) := (hc4 _ _ (by first | omega | (simp; done) | (simp; omega))).trans (by first | assumption | simp [go_sem] | simp [go_sem, *])
        have g4x1 : w4.cell? ⟨w.heap.size, 1, none⟩ = some (.bool l) := (hc4 _ _ (by first | omega | (simp; done) | (simp; omega))).trans (by first | assumption | simp [go_sem] | simp [go_sem, *])
        have g4x2 : w4.cell? ⟨w2.heap.size, 0, none⟩ = some (.int .i64 0) := (hc4 _ _ (by first | omega | (simp; done) | (simp; omega))).trans (by first | assumption | simp [go_sem] | simp [go_sem, *])
        have g4x3 : w4.cell? ⟨w2.heap.size, 1, none⟩ = some (.bool false) := (hc4 _ _ (by first | omega | (simp; done) | (simp; omega))).trans (by first | assumption | simp [go_sem] | simp [go_sem, *])
        go_wp2_with fail
        refine (HP.out _).mono ?_
        rintro e w5 ⟨rfl, hb5⟩
        obtain ⟨hc5, hf5⟩ := bcell hb5
        have hz5 := hb5.size
        try simp at hz5
        have hs5x0 : w4.heap.size < w5.heap.size := by omega
        have g5x0 : w5.cell? ⟨w4.heap.size, 0, none⟩ = some (.int .i64 0) := (hc5 _ _ (by first | omega | (simp; done) | (simp; omega))).trans (by first | assumption | simp [go_sem] | simp [go_sem, *])
        have g5x1 : w5.cell? ⟨w4.heap.size, 1, none⟩ = some (.bool false) := (hc5 _ _ (by first | omega | (simp; done) | (simp; omega))).trans (by first | assumption | simp [go_sem] | simp [go_sem, *])
        go_wp2_with fail
        refine (HO2.out _).mono ?_
        rintro e w6 ⟨rfl, hb6⟩
        obtain ⟨hc6, hf6⟩ := bcell hb6
        have hz6 := hb6.size
        try simp at hz6
        have hs6x0 : w4.heap.size < w6.heap.size := by omega
        have g6x0 : w6.cell? ⟨w4.heap.size, 0, none⟩ = some (.int .i64 0) := (hc6 _ _ (by first | omega | (simp; done) | (simp; omega))).trans (by first | assumption | simp [go_sem] | simp [go_sem, *])
        have g6x1 : w6.cell? ⟨w4.heap.size, 1, none⟩ = some (.bool false) := (hc6 _ _ (by first | omega | (simp; done) | (simp; omega))).trans (by first | assumption | simp [go_sem] | simp [go_sem, *])
        go_wp2_with fail
        refine (awake9 _).mono ?_
        rintro e w7 ⟨rfl, hb7⟩
        obtain ⟨hc7, hf7⟩ := bcell hb7
        have hz7 := hb7.size
        try simp at hz7
        have hs7x0 : w4.heap.size < w7.heap.size := by omega
        have hs7x1 : w6.heap.size < w7.heap.size := by omega
        have g7x0 : w7.cell? ⟨w4.heap.size, 0, none⟩ = some (.int .i64 0) := (hc7 _ _ (by first | omega | (simp; done) | (simp; omega))).trans (by first | assumption | simp [go_sem] | simp [go_sem, *])
        have g7x1 : w7.cell? ⟨w4.heap.size, 1, none⟩ = some (.bool false) := (hc7 _ _ (by first | omega | (simp; done) | (simp; omega))).trans (by first | assumption | simp [go_sem] | simp [go_sem, *])
        have g7x2 : w7.cell? ⟨w6.heap.size, 0, none⟩ = some (.int .i64 0) := (hc7 _ _ (by first | omega | (simp; done) | (simp; omega))).trans (by first | assumption | simp [go_sem] | simp [go_sem, *])
        have g7x3 : w7.cell? ⟨w6.heap.size, 1, none⟩ = some (.bool false) := (hc7 _ _ (by first | omega | (simp; done) | (simp; omega))).trans (by first | assumption | simp [go_sem] | simp [go_sem, *])
        go_wp2_with fail
        go_ret
        refine ⟨rfl, ?_⟩
        repeat (first | exact Below.refl _ _ | assumption | (with_reducible refine bdrew ?_) | (with_reducible refine baa ?_ _) | (with_reducible refine bs ?_ (by first | exact Nat.le_refl _ | omega | (simp; omega)) _) | (with_reducible refine bt ?_ (by assumption)))
    · simp only [if_true, Bool.true_and] at hRd
      have HT := Lib.hid hT
      have HRa := Lib.hid hRa
      have HRd := Lib.hid hRd
      clear hT hRa hRd hr
      cases lp
      · have d1 : 12 < 1 + m % 14 := hd
        have d2 : decide (1 + m % 14 ≤ 12) = false := by simpa using d1
        clear hd
        go_enter Try.func4, Try.ntmps4
        go_wp2_with fail
        refine (HT.out _).mono ?_
        rintro e w1 ⟨rfl, hb1⟩
        obtain ⟨hc1, hf1⟩ := bcell hb1
        have hz1 := hb1.size
        try simp at hz1
        have hs1x0 : w.heap.size < w1.heap.size := by omega
        have g1x0 : w1.cell? ⟨w.heap.size, 0, none⟩ = some (.int .i64 n) := (hc1 _ _ (by first | omega | (simp; done) | (simp; omega))).trans (by first | assumption | simp [go_sem] | simp [go_sem, *])
        have g1x1 : w1.cell? ⟨w.heap.size, 1, none⟩ = some (.bool l) := (hc1 _ _ (by first | omega | (simp; done) | (simp; omega))).trans (by first | assumption | simp [go_sem] | simp [go_sem, *])
        go_wp2_with fail
        refine (HRd.out _).mono ?_
        rintro e w2 ⟨rfl, hb2⟩
        obtain ⟨hc2, hf2⟩ := bcell hb2
        have hz2 := hb2.size
        try simp at hz2
        have hs2x0 : w.heap.size < w2.heap.size := by omega
        have g2x0 : w2.cell? ⟨w.heap.size, 0, none⟩ = some (.int .i64 n) := (hc2 _ _ (by first | omega | (simp; done) | (simp; omega))).trans (by first | assumption | simp [go_sem] | simp [go_sem, *])
        have g2x1 : w2.cell? ⟨w.heap.size, 1, none⟩ = some (.bool l) := (hc2 _ _ (by first | omega | (simp; done) | (simp; omega))).trans (by first | assumption | simp [go_sem] | simp [go_sem, *])
        go_wp2_with fail
        refine (HRa.out _).mono ?_
        rintro e w3 ⟨rfl, hb3⟩
        obtain ⟨hc3, hf3⟩ := bcell hb3
        have hz3 := hb3.size
        try simp at hz3
        have hs3x0 : w.heap.size < w3.heap.size := by omega
        have hs3x1 : w2.heap.size < w3.heap.size := by omega
        have g3x0 : w3.cell? ⟨w.heap.size, 0, none⟩ = some (.int .i64 n) := (hc3 _ _ (by first | omega | (simp; done) | (simp; omega))).trans (by first | assumption | simp [go_sem] | simp [go_sem, *])
        have g3x1 : w3.cell? ⟨w.heap.size, 1, none⟩ = some (.bool l) := (hc3 _ _ (by first | omega | (simp; done) | (simp; omega))).trans (by first | assumption | simp [go_sem] | simp [go_sem, *])
        have g3x2 : w3.cell? ⟨w2.heap.size, 0, none⟩ = some (.int .i64 n) := (hc3 _ _ (by first | omega | (simp; done) | (simp; omega))).trans (by first | assumption | simp [go_sem] | simp [go_sem, *])
        have g3x3 : w3.cell? ⟨w2.heap.size, 1, none⟩ = some (.bool l) := (hc3 _ _ (by first | omega | (simp; done) | (simp; omega))).trans (by first | assumption | simp [go_sem] | simp [go_sem, *])
        go_wp2_with fail
        refine (HO1.out _).mono ?_
        rintro e w4 ⟨rfl, hb4⟩
        obtain ⟨hc4, hf4⟩ := bcell hb4
        have hz4 := hb4.size
        try simp at hz4
        have hs4x0 : w.heap.size < w4.heap.size := by omega
        have hs4x1 : w2.heap.size < w4.heap.size := by omega
        have g4x0 : w4.cell? ⟨w.heap.size, 0, none⟩ = some (.int .i64 n) := (hc4 _ _ (by first | omega | (simp; done) | (simp; omega))).trans (by first | assumption | simp [go_sem] | simp [go_sem, *])
        have g4x1 : w4.cell? ⟨w.heap.size, 1, none⟩ = some (.bool l) := (hc4 _ _ (by first | omega | (simp; done) | (simp; omega))).trans (by first | assumption | simp [go_sem] | simp [go_sem, *])
        have g4x2 : w4.cell? ⟨w2.heap.size, 0, none⟩ = some (.int .i64 n) := (hc4 _ _ (by first | omega | (simp; done) | (simp; omega))).trans (by first | assumption | simp [go_sem] | simp [go_sem, *])
        have g4x3 : w4.cell? ⟨w2.heap.size, 1, none⟩ = some (.bool l) := (hc4 _ _ (by first | omega | (simp; done) | (simp; omega))).trans (by first | assumption | simp [go_sem] | simp [go_sem, *])
        go_wp2_with fail
        refine (HP.out _).mono ?_
        rintro e w5 ⟨rfl, hb5⟩
        obtain ⟨hc5, hf5⟩ := bcell hb5
        have hz5 := hb5.size
        try simp at hz5
        have hs5x0 : w4.heap.size < w5.heap.size := by omega
        have g5x0 : w5.cell? ⟨w4.heap.size, 0, none⟩ = some (.int .i64 0) := (hc5 _ _ (by first | omega | (simp; done) | (simp; omega))).trans (by first | assumption | simp [go_sem] | simp [go_sem, *])
        have g5x1 : w5.cell? ⟨w4.heap.size, 1, none⟩ = some (.bool false) := (hc5 _ _ (by first | omega | (simp; done) | (simp; omega))).trans (by first | assumption | simp [go_sem] | simp [go_sem, *])
        go_wp2_with fail
        refine (HO2.out _).mono ?_
        rintro e w6 ⟨rfl, hb6⟩
        obtain ⟨hc6, hf6⟩ := bcell hb6
        have hz6 := hb6.size
        try simp at hz6
        have hs6x0 : w4.heap.size < w6.heap.size := by omega
        have g6x0 : w6.cell? ⟨w4.heap.size, 0, none⟩ = some (.int .i64 0) := (hc6 _ _ (by first | omega | (simp; done) | (simp; omega))).trans (by first | assumption | simp [go_sem] | simp [go_sem, *])
        have g6x1 : w6.cell? ⟨w4.heap.size, 1, none⟩ = some (.bool false) := (hc6 _ _ (by first | omega | (simp; done) | (simp; omega))).trans (by first | assumption | simp [go_sem] | simp [go_sem, *])
        go_wp2_with fail
        refine (awake9 _).mono ?_
        rintro e w7 ⟨rfl, hb7⟩
        obtain ⟨hc7, hf7⟩ := bcell hb7
        have hz7 := hb7.size
        try simp at hz7
        have hs7x0 : w4.heap.size < w7.heap.size := by omega
        have hs7x1 : w6.heap.size < w7.heap.size := by omega
        have g7x0 : w7.cell? ⟨w4.heap.size, 0, none⟩ = some (.int .i64 0) := (hc7 _ _ (by first | omega | (simp; done) | (simp; omega))).trans (by first | assumption | simp [go_sem] | simp [go_sem, *])
        have g7x1 : w7.cell? ⟨w4.heap.size, 1, none⟩ = some (.bool false) := (hc7 _ _ (by first | omega | (simp; done) | (simp; omega))).trans (by first | assumption | simp [go_sem] | simp [go_sem, *])
        have g7x2 : w7.cell? ⟨w6.heap.size, 0, none⟩ = some (.int .i64 0) := (hc7 _ _ (by first | omega | (simp; done) | (simp; omega))).trans (by first | assumption | simp [go_sem] | simp [go_sem, *])
        have g7x3 : w7.cell? ⟨w6.heap.size, 1, none⟩ = some (.bool false) := (hc7 _ _ (by first | omega | (simp; done) | (simp; omega))).trans (by first | assumption | simp [go_sem] | simp [go_sem, *])
        go_wp2_with fail
        go_ret
        refine ⟨rfl, ?_⟩
        repeat (first | exact Below.refl _ _ | assumption | (with_reducible refine bdrew ?_) | (with_reducible refine baa ?_ _) | (with_reducible refine bs ?_ (by first | exact Nat.le_refl _ | omega | (simp; omega)) _) | (with_reducible refine bt ?_ (by assumption)))
      · have d1 : 13 < 1 + m % 14 := hd
        have d2 : decide (1 + m % 14 ≤ 13) = false := by simpa using d1
        clear hd
        go_enter Try.func4, Try.ntmps4
        go_wp2_with fail
        refine (HT.out _).mono ?_
        rintro e w1 ⟨rfl, hb1⟩
        obtain ⟨hc1, hf1⟩ := bcell hb1
        have hz1 := hb1.size
        try simp at hz1
        have hs1x0 : w.heap.size < w1.heap.size := by omega
        have g1x0 : w1.cell? ⟨w.heap.size, 0, none⟩ = some (.int .i64 n) := (hc1 _ _ (by first | omega | (simp; done) | (simp; omega))).trans (by first | assumption | simp [go_sem] | simp [go_sem, *])
        have g1x1 : w1.cell? ⟨w.heap.size, 1, none⟩ = some (.bool l) := (hc1 _ _ (by first | omega | (simp; done) | (simp; omega))).trans (by first | assumption | simp [go_sem] | simp [go_sem, *])
        go_wp2_with fail
        refine (HRd.out _).mono ?_
        rintro e w2 ⟨rfl, hb2⟩
        obtain ⟨hc2, hf2⟩ := bcell hb2
        have hz2 := hb2.size
        try simp at hz2
        have hs2x0 : w.heap.size < w2.heap.size := by omega
        have g2x0 : w2.cell? ⟨w.heap.size, 0, none⟩ = some (.int .i64 n) := (hc2 _ _ (by first | omega | (simp; done) | (simp; omega))).trans (by first | assumption | simp [go_sem] | simp [go_sem, *])
        have g2x1 : w2.cell? ⟨w.heap.size, 1, none⟩ = some (.bool l) := (hc2 _ _ (by first | omega | (simp; done) | (simp; omega))).trans (by first | assumption | simp [go_sem] | simp [go_sem, *])
        go_wp2_with fail
        refine (HRa.out _).mono ?_
        rintro e w3 ⟨rfl, hb3⟩
        obtain ⟨hc3, hf3⟩ := bcell hb3
        have hz3 := hb3.size
        try simp at hz3
        have hs3x0 : w.heap.size < w3.heap.size := by omega
        have hs3x1 : w2.heap.size < w3.heap.size := by omega
        have g3x0 : w3.cell? ⟨w.heap.size, 0, none⟩ = some (.int .i64 n) := (hc3 _ _ (by first | omega | (simp; done) | (simp; omega))).trans (by first | assumption | simp [go_sem] | simp [go_sem, *])
        have g3x1 : w3.cell? ⟨w.heap.size, 1, none⟩ = some (.bool l) := (hc3 _ _ (by first | omega | (simp; done) | (simp; omega))).trans (by first | assumption | simp [go_sem] | simp [go_sem, *])
        have g3x2 : w3.cell? ⟨w2.heap.size, 0, none⟩ = some (.int .i64 n) := (hc3 _ _ (by first | omega | (simp; done) | (simp; omega))).trans (by first | assumption | simp [go_sem] | simp [go_sem, *])
        have g3x3 : w3.cell? ⟨w2.heap.size, 1, none⟩ = some (.bool l) := (hc3 _ _ (by first | omega | (simp; done) | (simp; omega))).trans (by first | assumption | simp [go_sem] | simp [go_sem, *])
        go_wp2_with fail
        refine (HO1.out _).mono ?_
        rintro e w4 ⟨rfl, hb4⟩
        obtain ⟨hc4, hf4⟩ := bcell hb4
        have hz4 := hb4.size
        try simp at hz4
        have hs4x0 : w.heap.size < w4.heap.size := by omega
        have hs4x1 : w2.heap.size < w4.heap.size := by omega
        have g4x0 : w4.cell? ⟨w.heap.size, 0, none⟩ = some (.int .i64 n) := (hc4 _ _ (by first | omega | (simp; done) | (simp; omega))).trans (by first | assumption | simp [go_sem] | simp [go_sem, *])
        have g4x1 : w4.cell? ⟨w.heap.size, 1, none⟩ = some (.bool l) := (hc4 _ _ (by first | omega | (simp; done) | (simp; omega))).trans (by first | assumption | simp [go_sem] | simp [go_sem, *])
        have g4x2 : w4.cell? ⟨w2.heap.size, 0, none⟩ = some (.int .i64 n) := (hc4 _ _ (by first | omega | (simp; done) | (simp; omega))).trans (by first | assumption | simp [go_sem] | simp [go_sem, *])
        have g4x3 : w4.cell? ⟨w2.heap.size, 1, none⟩ = some (.bool l) := (hc4 _ _ (by first | omega | (simp; done) | (simp; omega))).trans (by first | assumption | simp [go_sem] | simp [go_sem, *])
        go_wp2_with fail
        refine (HP.out _).mono ?_
        rintro e w5 ⟨rfl, hb5⟩
        obtain ⟨hc5, hf5⟩ := bcell hb5
        have hz5 := hb5.size
        try simp at hz5
        have hs5x0 : w4.heap.size < w5.heap.size := by omega
        have g5x0 : w5.cell? ⟨w4.heap.size, 0, none⟩ = some (.int .i64 0) := (hc5 _ _ (by first | omega | (simp; done) | (simp; omega))).trans (by first | assumption | simp [go_sem] | simp [go_sem, *])
        have g5x1 : w5.cell? ⟨w4.heap.size, 1, none⟩ = some (.bool false) := (hc5 _ _ (by first | omega | (simp; done) | (simp; omega))).trans (by first | assumption | simp [go_sem] | simp [go_sem, *])
        go_wp2_with fail
        refine (HO2.out _).mono ?_
        rintro e w6 ⟨rfl, hb6⟩
        obtain ⟨hc6, hf6⟩ := bcell hb6
        have hz6 := hb6.size
        try simp at hz6
        have hs6x0 : w4.heap.size < w6.heap.size := by omega
        have g6x0 : w6.cell? ⟨w4.heap.size, 0, none⟩ = some (.int .i64 0) := (hc6 _ _ (by first | omega | (simp; done) | (simp; omega))).trans (by first | assumption | simp [go_sem] | simp [go_sem, *])
        have g6x1 : w6.cell? ⟨w4.heap.size, 1, none⟩ = some (.bool false) := (hc6 _ _ (by first | omega | (simp; done) | (simp; omega))).trans (by first | assumption | simp [go_sem] | simp [go_sem, *])
        go_wp2_with fail
        refine (awake9 _).mono ?_
        rintro e w7 ⟨rfl, hb7⟩
        obtain ⟨hc7, hf7⟩ := bcell hb7
        have hz7 := hb7.size
        try simp at hz7
        have hs7x0 : w4.heap.size < w7.heap.size := by omega
        have hs7x1 : w6.heap.size < w7.heap.size := by omega
        have g7x0 : w7.cell? ⟨w4.heap.size, 0, none⟩ = some (.int .i64 0) := (hc7 _ _ (by first | omega | (simp; done) | (simp; omega))).trans (by first | assumption | simp [go_sem] | simp [go_sem, *])
        have g7x1 : w7.cell? ⟨w4.heap.size, 1, none⟩ = some (.bool false) := (hc7 _ _ (by first | omega | (simp; done) | (simp; omega))).trans (by first | assumption | simp [go_sem] | simp [go_sem, *])
        have g7x2 : w7.cell? ⟨w6.heap.size, 0, none⟩ = some (.int .i64 0) := (hc7 _ _ (by first | omega | (simp; done) | (simp; omega))).trans (by first | assumption | simp [go_sem] | simp [go_sem, *])
        have g7x3 : w7.cell? ⟨w6.heap.size, 1, none⟩ = some (.bool false) := (hc7 _ _ (by first | omega | (simp; done) | (simp; omega))).trans (by first | assumption | simp [go_sem] | simp [go_sem, *])
        go_wp2_with fail
        go_ret
        refine ⟨rfl, ?_⟩
        repeat (first | exact Below.refl _ _ | assumption | (with_reducible refine bdrew ?_) | (with_reducible refine baa ?_ _) | (with_reducible refine bs ?_ (by first | exact Nat.le_refl _ | omega | (simp; omega)) _) | (with_reducible refine bt ?_ (by assumption)))
end Go.Proofs.Ytinpdamfdaefmaa
