/- Layer 1: the walks of its laws. -/
import Derived.Test.YtemkngkaaabghaaMul
namespace Go.Proofs.Ytemkngkaaabghaa
open Go.ChangeShapes Go.WideShapes Go.ChangeAt Go.RowKit
set_option linter.unusedVariables false

theorem awake1 (w : World) : Calls Try.prog 30 #[] w fun e w' => e = .returned (.bool true) ∧ w = w' := by
  have e1 : Cal.divV (-7) 2 = -4 := by decide
  have e2 : Cal.divE 2 = 0 := by decide
  have e3 : Cal.modV (-7) 2 = 1 := by decide
  have e4 : Cal.addE 9223372036854775807 1 = 6 := by decide
  have e5 : Cal.mulE 4294967296 2147483648 = 6 := by decide
  go_enter Try.func30, Try.ntmps30
  go_wp2_with fail
  refine (exact_Div _ _ _ (by constructor <;> omega) (by constructor <;> omega)).mono ?_
  rintro e w' ⟨rfl, rfl⟩
  go_wp2_with fail
  refine (exact_Mod _ _ _ (by constructor <;> omega) (by constructor <;> omega)).mono ?_
  rintro e w' ⟨rfl, rfl⟩
  go_wp2_with fail
  refine (exact_Add _ _ _ (by constructor <;> omega) (by constructor <;> omega)).mono ?_
  rintro e w' ⟨rfl, rfl⟩
  go_wp2_with fail
  refine (exact_Mul _ _ _ (by constructor <;> omega) (by constructor <;> omega)).mono ?_
  rintro e w' ⟨rfl, rfl⟩
  go_wp2_with fail
  go_ret
  exact ⟨rfl, rfl⟩

theorem ExactTells_walk (a b : Int) (ha : I64 a) (hb : I64 b) (w : World) :
    Calls Try.prog 3 #[.int .i64 a, .int .i64 b] w fun e w' => e = .returned (.bool true) ∧ Below w.heap.size w w' := by
  go_enter Try.func3, Try.ntmps3
  go_wp2_with fail
  refine (exact_Add a b _ ha hb).mono ?_
  rintro e w' ⟨rfl, rfl⟩
  go_wp2_with fail
  refine (ref_Add a b _ ha hb).mono ?_
  rintro e w' ⟨rfl, rfl⟩
  go_wp2_with fail
  refine (exact_Mul a b _ ha hb).mono ?_
  rintro e w' ⟨rfl, rfl⟩
  go_wp2_with fail
  refine (ref_Mul a b _ ha hb).mono ?_
  rintro e w' ⟨rfl, rfl⟩
  go_wp2_with fail
  refine (exact_Div a b _ ha hb).mono ?_
  rintro e w' ⟨rfl, rfl⟩
  go_wp2_with fail
  refine (ref_Div a b _ ha hb).mono ?_
  rintro e w' ⟨rfl, rfl⟩
  go_wp2_with fail
  refine (exact_Mod a b _ ha hb).mono ?_
  rintro e w' ⟨rfl, rfl⟩
  go_wp2_with fail
  refine (ref_Mod a b _ ha hb).mono ?_
  rintro e w' ⟨rfl, rfl⟩
  go_wp2_with fail
  refine (awake1 _).mono ?_
  rintro e w' ⟨rfl, rfl⟩
  go_wp2_with fail
  go_ret
  exact ⟨rfl, Below.refl _ _⟩

/-! Contracts by case. -/
theorem exact_Mul_ok (a b : Int) (w : World) (ha : I64 a) (hb : I64 b) (h : Cal.fits (a * b) = true) :
    Calls Try.prog 24 #[.int .i64 a, .int .i64 b] w fun e w' => e = .returned (.tuple #[.int .i64 (a * b), .int .i64 0]) ∧ w = w' := by
  have := exact_Mul a b w ha hb
  rwa [← (mul_yes a b h).1, ← (mul_yes a b h).2] at this
theorem exact_Mul_no (a b : Int) (w : World) (ha : I64 a) (hb : I64 b) (h : Cal.fits (a * b) = false) :
    Calls Try.prog 24 #[.int .i64 a, .int .i64 b] w fun e w' => e = .returned (.tuple #[.int .i64 0, .int .i64 6]) ∧ w = w' := by
  have := exact_Mul a b w ha hb
  rwa [← (mul_no a b h).1, ← (mul_no a b h).2] at this
theorem ref_Mul_ok (a b : Int) (w : World) (ha : I64 a) (hb : I64 b) (h : Cal.fits (a * b) = true) :
    Calls Try.prog 25 #[.int .i64 a, .int .i64 b] w fun e w' => e = .returned (.tuple #[.int .i64 (a * b), .int .i64 0]) ∧ w = w' := by
  have := ref_Mul a b w ha hb
  rwa [← (mul_yes a b h).1, ← (mul_yes a b h).2] at this
theorem ref_Mul_no (a b : Int) (w : World) (ha : I64 a) (hb : I64 b) (h : Cal.fits (a * b) = false) :
    Calls Try.prog 25 #[.int .i64 a, .int .i64 b] w fun e w' => e = .returned (.tuple #[.int .i64 0, .int .i64 6]) ∧ w = w' := by
  have := ref_Mul a b w ha hb
  rwa [← (mul_no a b h).1, ← (mul_no a b h).2] at this
theorem addV_ok (a b : Int) (h : Cal.fits (a + b) = true) : Cal.addV a b = a + b ∧ Cal.addE a b = 0 := by rw [Cal.addV, Cal.addE, h]; exact ⟨rfl, rfl⟩
theorem addV_no (a b : Int) (h : Cal.fits (a + b) = false) : Cal.addV a b = 0 ∧ Cal.addE a b = 6 := by rw [Cal.addV, Cal.addE, h]; exact ⟨rfl, rfl⟩
theorem exact_Add_ok (a b : Int) (w : World) (ha : I64 a) (hb : I64 b) (h : Cal.fits (a + b) = true) :
    Calls Try.prog 22 #[.int .i64 a, .int .i64 b] w fun e w' => e = .returned (.tuple #[.int .i64 (a + b), .int .i64 0]) ∧ w = w' := by
  have := exact_Add a b w ha hb
  rwa [(addV_ok a b h).1, (addV_ok a b h).2] at this
theorem exact_Add_no (a b : Int) (w : World) (ha : I64 a) (hb : I64 b) (h : Cal.fits (a + b) = false) :
    Calls Try.prog 22 #[.int .i64 a, .int .i64 b] w fun e w' => e = .returned (.tuple #[.int .i64 0, .int .i64 6]) ∧ w = w' := by
  have := exact_Add a b w ha hb
  rwa [(addV_no a b h).1, (addV_no a b h).2] at this
theorem ref_Add_ok (a b : Int) (w : World) (ha : I64 a) (hb : I64 b) (h : Cal.fits (a + b) = true) :
    Calls Try.prog 23 #[.int .i64 a, .int .i64 b] w fun e w' => e = .returned (.tuple #[.int .i64 (a + b), .int .i64 0]) ∧ w = w' := by
  have := ref_Add a b w ha hb
  rwa [(addV_ok a b h).1, (addV_ok a b h).2] at this
theorem ref_Add_no (a b : Int) (w : World) (ha : I64 a) (hb : I64 b) (h : Cal.fits (a + b) = false) :
    Calls Try.prog 23 #[.int .i64 a, .int .i64 b] w fun e w' => e = .returned (.tuple #[.int .i64 0, .int .i64 6]) ∧ w = w' := by
  have := ref_Add a b w ha hb
  rwa [(addV_no a b h).1, (addV_no a b h).2] at this
theorem divV_pos (a b : Int) (h : 0 < b) : Cal.divV a b = a / b ∧ Cal.modV a b = a % b ∧ Cal.divE b = 0 := by
  rw [Cal.divV, Cal.modV, Cal.divE, if_neg (by omega), if_neg (by omega), if_neg (by omega)]; exact ⟨rfl, rfl, rfl⟩
theorem exact_Div_pos (a b : Int) (w : World) (ha : I64 a) (hb : I64 b) (h : 0 < b) :
    Calls Try.prog 26 #[.int .i64 a, .int .i64 b] w fun e w' => e = .returned (.tuple #[.int .i64 (a / b), .int .i64 0]) ∧ w = w' := by
  have := exact_Div a b w ha hb
  rwa [(divV_pos a b h).1, (divV_pos a b h).2.2] at this
theorem exact_Mod_pos (a b : Int) (w : World) (ha : I64 a) (hb : I64 b) (h : 0 < b) :
    Calls Try.prog 28 #[.int .i64 a, .int .i64 b] w fun e w' => e = .returned (.tuple #[.int .i64 (a % b), .int .i64 0]) ∧ w = w' := by
  have := exact_Mod a b w ha hb
  rwa [(divV_pos a b h).2.1, (divV_pos a b h).2.2] at this
theorem ref_Down_pos (a b : Int) (w : World) (ha : I64 a) (h : 0 < b) :
    Calls Try.prog 74 #[.int .i64 a, .int .i64 b] w fun e w' => e = .returned (.int .i64 (a / b)) ∧ w = w' := by
  have := ref_Down a b w ha h
  rwa [(divV_pos a b h).1] at this
theorem ref_Left_pos (a b : Int) (w : World) (hb : I64 b) (h : 0 < b) :
    Calls Try.prog 75 #[.int .i64 a, .int .i64 b] w fun e w' => e = .returned (.int .i64 (a % b)) ∧ w = w' := by
  have := ref_Left a b w hb h
  rwa [(divV_pos a b h).2.1] at this

theorem ExactLeft_walk (a b : Int) (ha : I64 a) (hb : I64 b) (w : World) :
    Calls Try.prog 4 #[.int .i64 a, .int .i64 b] w fun e w' => e = .returned (.bool true) ∧ Below w.heap.size w w' := by
  by_cases h : b ≤ 0
  · have hD : ∀ w, Calls Try.prog 26 #[.int .i64 a, .int .i64 b] w fun e w' => e = .returned (.tuple #[.int .i64 0, .int .i64 1]) ∧ w = w' := fun w => by
      have := exact_Div a b w ha hb
      rwa [← div_no a b h, ← dive_no b h] at this
    have hM : ∀ w, Calls Try.prog 28 #[.int .i64 a, .int .i64 b] w fun e w' => e = .returned (.tuple #[.int .i64 0, .int .i64 1]) ∧ w = w' := fun w => by
      have := exact_Mod a b w ha hb
      rwa [← mod_no a b h, ← dive_no b h] at this
    have HD := Lib.hid hD
    have HM := Lib.hid hM
    clear hD hM
    go_enter Try.func4, Try.ntmps4
    go_wp2_with fail
    refine (HD.out _).mono ?_
    rintro e w' ⟨rfl, rfl⟩
    go_wp2_with fail
    refine (HM.out _).mono ?_
    rintro e w' ⟨rfl, rfl⟩
    go_wp2_with fail
    refine (awake1 _).mono ?_
    rintro e w' ⟨rfl, rfl⟩
    go_wp2_with fail
    go_ret
    exact ⟨rfl, Below.refl _ _⟩
  · have HD := Lib.hid (fun w => exact_Div_pos a b w ha hb (by omega))
    have HM := Lib.hid (fun w => exact_Mod_pos a b w ha hb (by omega))
    have h1 := Int.emod_nonneg a (show b ≠ 0 by omega)
    have h2 := Int.emod_lt_of_pos a (show 0 < b by omega)
    have h3 : a / b * b + a % b = a := by rw [Int.mul_comm]; exact Int.mul_ediv_add_emod a b
    have h4 : (wrap64 (wrap64 (a / b * b) + a % b) == a) = true := by
      rw [beq_iff_eq]
      obtain ⟨ha1, ha2⟩ := ha
      generalize a / b * b = q at *
      generalize a % b = r at *
      unfold wrap64
      omega
    have h0 : 0 < b := by omega
    generalize a / b = q at *
    generalize a % b = r at *
    have H3 := Lib.hid h3
    clear h3 h ha
    go_enter Try.func4, Try.ntmps4
    go_wp2_with fail
    refine (HD.out _).mono ?_
    rintro e w' ⟨rfl, rfl⟩
    go_wp2_with fail
    refine (HM.out _).mono ?_
    rintro e w' ⟨rfl, rfl⟩
    go_wp2_with fail
    refine (awake1 _).mono ?_
    rintro e w' ⟨rfl, rfl⟩
    go_wp2_with fail
    go_ret
    exact ⟨rfl, Below.refl _ _⟩

theorem ExactTurned_walk (a b : Int) (ha : I64 a) (hb : I64 b) (w : World) :
    Calls Try.prog 5 #[.int .i64 a, .int .i64 b] w fun e w' => e = .returned (.bool true) ∧ Below w.heap.size w w' := by
  have hA := fun w => exact_Add a b w ha hb
  have hB : ∀ w, Calls Try.prog 22 #[.int .i64 b, .int .i64 a] w fun e w' => e = .returned (.tuple #[.int .i64 (Cal.addV a b), .int .i64 (Cal.addE a b)]) ∧ w = w' := fun w => by
    have := exact_Add b a w hb ha
    rwa [show Cal.addV b a = Cal.addV a b by unfold Cal.addV; rw [Int.add_comm], show Cal.addE b a = Cal.addE a b by unfold Cal.addE; rw [Int.add_comm]] at this
  have hC := fun w => exact_Mul a b w ha hb
  have hD : ∀ w, Calls Try.prog 24 #[.int .i64 b, .int .i64 a] w fun e w' => e = .returned (.tuple #[.int .i64 (Cal.mulV a b), .int .i64 (Cal.mulE a b)]) ∧ w = w' := fun w => by
    have := exact_Mul b a w hb ha
    rwa [show Cal.mulV b a = Cal.mulV a b by unfold Cal.mulV; rw [Int.mul_comm], show Cal.mulE b a = Cal.mulE a b by unfold Cal.mulE; rw [Int.mul_comm]] at this
  by_cases hs : (-1073741824 ≤ a ∧ a ≤ 1073741824) ∧ (-1073741824 ≤ b ∧ b ≤ 1073741824)
  · obtain ⟨⟨a1, a2⟩, b1, b2⟩ := hs
    have hm : -1152921504606846976 ≤ a * b ∧ a * b ≤ 1152921504606846976 := by
      have k1 : (a * b).natAbs ≤ 1152921504606846976 := by
        rw [Int.natAbs_mul]
        exact Nat.le_trans (Nat.mul_le_mul (show a.natAbs ≤ 1073741824 by omega) (show b.natAbs ≤ 1073741824 by omega)) (by decide)
      omega
    have f1 := addV_ok a b (fits_yes (by omega) (by omega))
    have f2 := mul_yes a b (fits_yes (by omega) (by omega))
    have f3 : wrap64 (a * b) = a * b := IntWalk.wrap64_in _ ⟨by omega, by omega⟩
    rw [f1.1, f1.2] at hA hB
    rw [← f2.1, ← f2.2] at hC hD
    have HA := Lib.hid hA
    have HB := Lib.hid hB
    have HC := Lib.hid hC
    have HD := Lib.hid hD
    have h4 : (a * b == wrap64 (a * b)) = true := by rw [f3]; simp
    clear hA hB hC hD f1 f2 f3 ha hb
    go_enter Try.func5, Try.ntmps5
    go_wp2_with fail
    refine (HA.out _).mono ?_
    rintro e w' ⟨rfl, rfl⟩
    go_wp2_with fail
    refine (HB.out _).mono ?_
    rintro e w' ⟨rfl, rfl⟩
    go_wp2_with fail
    refine (HC.out _).mono ?_
    rintro e w' ⟨rfl, rfl⟩
    go_wp2_with fail
    refine (HD.out _).mono ?_
    rintro e w' ⟨rfl, rfl⟩
    go_wp2_with fail
    refine (awake1 _).mono ?_
    rintro e w' ⟨rfl, rfl⟩
    go_wp2_with fail
    go_ret
    exact ⟨rfl, Below.refl _ _⟩
  · have HA := Lib.hid hA
    have HB := Lib.hid hB
    have HC := Lib.hid hC
    have HD := Lib.hid hD
    have hs' : a < -1073741824 ∨ (-1073741824 ≤ a ∧ 1073741824 < a) ∨ ((-1073741824 ≤ a ∧ a ≤ 1073741824) ∧ b < -1073741824) ∨ ((-1073741824 ≤ a ∧ a ≤ 1073741824) ∧ -1073741824 ≤ b ∧ 1073741824 < b) := by omega
    clear hA hB hC hD hs ha hb
    rcases hs' with c | ⟨c1, c⟩ | ⟨⟨c1, c2⟩, c⟩ | ⟨⟨c1, c2⟩, c3, c⟩
    all_goals
     go_enter Try.func5, Try.ntmps5
     go_wp2_with fail
     refine (HA.out _).mono ?_
     rintro e w' ⟨rfl, rfl⟩
     go_wp2_with fail
     refine (HB.out _).mono ?_
     rintro e w' ⟨rfl, rfl⟩
     go_wp2_with fail
     refine (HC.out _).mono ?_
     rintro e w' ⟨rfl, rfl⟩
     go_wp2_with fail
     refine (HD.out _).mono ?_
     rintro e w' ⟨rfl, rfl⟩
     go_wp2_with fail
     refine (awake1 _).mono ?_
     rintro e w' ⟨rfl, rfl⟩
     go_wp2_with fail
     go_ret
     exact ⟨rfl, Below.refl _ _⟩

theorem ExactAway_walk (a b : Int) (ha : I64 a) (hb : I64 b) (w : World) :
    Calls Try.prog 6 #[.int .i64 a, .int .i64 b] w fun e w' => e = .returned (.bool true) ∧ Below w.heap.size w w' := by
  have tailOk : ∀ W : World, True := fun _ => trivial
  have hN : -9223372036854775808 < b → Cal.fits (a + b) = true → ∀ w, Calls Try.prog 22 #[.int .i64 (a + b), .int .i64 (-b)] w fun e w' => e = .returned (.tuple #[.int .i64 a, .int .i64 0]) ∧ w = w' := fun h1 h2 w => by
    simp only [Cal.fits, Bool.and_eq_true, decide_eq_true_eq] at h2
    obtain ⟨ha1, ha2⟩ := ha
    obtain ⟨hb1, hb2⟩ := hb
    have := exact_Add_ok (a + b) (-b) w h2 ⟨by omega, by omega⟩ (fits_yes (by omega) (by omega))
    rwa [show a + b + -b = a by omega] at this
  have hq : 0 < b → Cal.fits (a * b) = true → ∀ w, Calls Try.prog 26 #[.int .i64 (a * b), .int .i64 b] w fun e w' => e = .returned (.tuple #[.int .i64 a, .int .i64 0]) ∧ w = w' := fun h1 h2 w => by
    simp only [Cal.fits, Bool.and_eq_true, decide_eq_true_eq] at h2
    have := exact_Div_pos (a * b) b w h2 hb h1
    rwa [Int.mul_ediv_cancel _ (show b ≠ 0 by omega)] at this
  have hr : 0 < b → Cal.fits (a * b) = true → ∀ w, Calls Try.prog 28 #[.int .i64 (a * b), .int .i64 b] w fun e w' => e = .returned (.tuple #[.int .i64 0, .int .i64 0]) ∧ w = w' := fun h1 h2 w => by
    simp only [Cal.fits, Bool.and_eq_true, decide_eq_true_eq] at h2
    have := exact_Mod_pos (a * b) b w h2 hb h1
    rwa [Int.mul_emod_left] at this
  have hb' : -b = -b := rfl
  have hw : -9223372036854775808 < b → wrap64 (-b) = -b := fun h => by obtain ⟨hb1, hb2⟩ := hb; exact IntWalk.wrap64_in _ ⟨by omega, by omega⟩
  by_cases c1 : Cal.fits (a + b) = true <;> by_cases c2 : Cal.fits (a * b) = true
  · have HA := Lib.hid (fun w => exact_Add_ok a b w ha hb c1)
    have HM := Lib.hid (fun w => exact_Mul_ok a b w ha hb c2)
    obtain ⟨hb1, hb2⟩ := hb
    rcases (show b = -9223372036854775808 ∨ (-9223372036854775808 < b ∧ b ≤ 0) ∨ 0 < b by omega) with c | ⟨c3, c4⟩ | c
    · subst c
      clear hN hq hr hw hb' tailOk c1 c2
      go_enter Try.func6, Try.ntmps6
      go_wp2_with fail
      refine (HA.out _).mono ?_
      rintro e w' ⟨rfl, rfl⟩
      go_wp2_with fail
      refine (HM.out _).mono ?_
      rintro e w' ⟨rfl, rfl⟩
      go_wp2_with fail
      refine (awake1 _).mono ?_
      rintro e w' ⟨rfl, rfl⟩
      go_wp2_with fail
      go_ret
      exact ⟨rfl, Below.refl _ _⟩
    · have HN := Lib.hid (hN c3 c1)
      clear hN hq hr hw hb' tailOk c1 c2
      go_enter Try.func6, Try.ntmps6
      go_wp2_with fail
      refine (HA.out _).mono ?_
      rintro e w' ⟨rfl, rfl⟩
      go_wp2_with fail
      refine (HN.out _).mono ?_
      rintro e w' ⟨rfl, rfl⟩
      go_wp2_with fail
      refine (HM.out _).mono ?_
      rintro e w' ⟨rfl, rfl⟩
      go_wp2_with fail
      refine (awake1 _).mono ?_
      rintro e w' ⟨rfl, rfl⟩
      go_wp2_with fail
      go_ret
      exact ⟨rfl, Below.refl _ _⟩
    · have HN := Lib.hid (hN (by omega) c1)
      have HQ := Lib.hid (hq c c2)
      have HR := Lib.hid (hr c c2)
      clear hN hq hr hw hb' tailOk c1 c2
      go_enter Try.func6, Try.ntmps6
      go_wp2_with fail
      refine (HA.out _).mono ?_
      rintro e w' ⟨rfl, rfl⟩
      go_wp2_with fail
      refine (HN.out _).mono ?_
      rintro e w' ⟨rfl, rfl⟩
      go_wp2_with fail
      refine (HM.out _).mono ?_
      rintro e w' ⟨rfl, rfl⟩
      go_wp2_with fail
      refine (HQ.out _).mono ?_
      rintro e w' ⟨rfl, rfl⟩
      go_wp2_with fail
      refine (HR.out _).mono ?_
      rintro e w' ⟨rfl, rfl⟩
      go_wp2_with fail
      refine (awake1 _).mono ?_
      rintro e w' ⟨rfl, rfl⟩
      go_wp2_with fail
      go_ret
      exact ⟨rfl, Below.refl _ _⟩
  · have HA := Lib.hid (fun w => exact_Add_ok a b w ha hb c1)
    have HM := Lib.hid (fun w => exact_Mul_no a b w ha hb (by simpa using c2))
    obtain ⟨hb1, hb2⟩ := hb
    rcases (show b = -9223372036854775808 ∨ -9223372036854775808 < b by omega) with c | c3
    · subst c
      clear hN hq hr hw hb' tailOk c1 c2
      go_enter Try.func6, Try.ntmps6
      go_wp2_with fail
      refine (HA.out _).mono ?_
      rintro e w' ⟨rfl, rfl⟩
      go_wp2_with fail
      refine (HM.out _).mono ?_
      rintro e w' ⟨rfl, rfl⟩
      go_wp2_with fail
      refine (awake1 _).mono ?_
      rintro e w' ⟨rfl, rfl⟩
      go_wp2_with fail
      go_ret
      exact ⟨rfl, Below.refl _ _⟩
    · have HN := Lib.hid (hN c3 c1)
      clear hN hq hr hw hb' tailOk c1 c2
      go_enter Try.func6, Try.ntmps6
      go_wp2_with fail
      refine (HA.out _).mono ?_
      rintro e w' ⟨rfl, rfl⟩
      go_wp2_with fail
      refine (HN.out _).mono ?_
      rintro e w' ⟨rfl, rfl⟩
      go_wp2_with fail
      refine (HM.out _).mono ?_
      rintro e w' ⟨rfl, rfl⟩
      go_wp2_with fail
      refine (awake1 _).mono ?_
      rintro e w' ⟨rfl, rfl⟩
      go_wp2_with fail
      go_ret
      exact ⟨rfl, Below.refl _ _⟩
  · have HA := Lib.hid (fun w => exact_Add_no a b w ha hb (by simpa using c1))
    have HM := Lib.hid (fun w => exact_Mul_ok a b w ha hb c2)
    by_cases c : 0 < b
    · have HQ := Lib.hid (hq c c2)
      have HR := Lib.hid (hr c c2)
      clear hN hq hr hw hb' tailOk c1 c2 ha hb
      go_enter Try.func6, Try.ntmps6
      go_wp2_with fail
      refine (HA.out _).mono ?_
      rintro e w' ⟨rfl, rfl⟩
      go_wp2_with fail
      refine (HM.out _).mono ?_
      rintro e w' ⟨rfl, rfl⟩
      go_wp2_with fail
      refine (HQ.out _).mono ?_
      rintro e w' ⟨rfl, rfl⟩
      go_wp2_with fail
      refine (HR.out _).mono ?_
      rintro e w' ⟨rfl, rfl⟩
      go_wp2_with fail
      refine (awake1 _).mono ?_
      rintro e w' ⟨rfl, rfl⟩
      go_wp2_with fail
      go_ret
      exact ⟨rfl, Below.refl _ _⟩
    · clear hN hq hr hw hb' tailOk c1 c2 ha hb
      go_enter Try.func6, Try.ntmps6
      go_wp2_with fail
      refine (HA.out _).mono ?_
      rintro e w' ⟨rfl, rfl⟩
      go_wp2_with fail
      refine (HM.out _).mono ?_
      rintro e w' ⟨rfl, rfl⟩
      go_wp2_with fail
      refine (awake1 _).mono ?_
      rintro e w' ⟨rfl, rfl⟩
      go_wp2_with fail
      go_ret
      exact ⟨rfl, Below.refl _ _⟩
  · have HA := Lib.hid (fun w => exact_Add_no a b w ha hb (by simpa using c1))
    have HM := Lib.hid (fun w => exact_Mul_no a b w ha hb (by simpa using c2))
    clear hN hq hr hw hb' tailOk c1 c2 ha hb
    go_enter Try.func6, Try.ntmps6
    go_wp2_with fail
    refine (HA.out _).mono ?_
    rintro e w' ⟨rfl, rfl⟩
    go_wp2_with fail
    refine (HM.out _).mono ?_
    rintro e w' ⟨rfl, rfl⟩
    go_wp2_with fail
    refine (awake1 _).mono ?_
    rintro e w' ⟨rfl, rfl⟩
    go_wp2_with fail
    go_ret
    exact ⟨rfl, Below.refl _ _⟩
end Go.Proofs.Ytemkngkaaabghaa
