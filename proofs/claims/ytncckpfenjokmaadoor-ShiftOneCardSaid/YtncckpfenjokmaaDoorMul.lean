/- Layer 1: the product by 128 bits. -/
import Derived.Test.YtncckpfenjokmaaDoorExact
namespace Go.Proofs.YtncckpfenjokmaaDoor
open Go.ChangeShapes Go.WideShapes Go.ChangeAt Go.RowKit
set_option linter.unusedVariables false

theorem prod_same (a b : Int) (h : a < 0 ↔ b < 0) : a * b = ((a.natAbs * b.natAbs : Nat) : Int) := by
  rw [Int.natCast_mul]
  by_cases c : a < 0
  · rw [show ((a.natAbs : Nat) : Int) = -a by omega, show ((b.natAbs : Nat) : Int) = -b by omega, Int.neg_mul_neg]
  · rw [show ((a.natAbs : Nat) : Int) = a by omega, show ((b.natAbs : Nat) : Int) = b by omega]
theorem prod_other (a b : Int) (h : ¬(a < 0 ↔ b < 0)) : a * b = -((a.natAbs * b.natAbs : Nat) : Int) := by
  rw [Int.natCast_mul]
  by_cases c : a < 0
  · rw [show ((a.natAbs : Nat) : Int) = -a by omega, show ((b.natAbs : Nat) : Int) = b by omega, Int.neg_mul, Int.neg_neg]
  · rw [show ((a.natAbs : Nat) : Int) = a by omega, show ((b.natAbs : Nat) : Int) = -b by omega, Int.mul_neg, Int.neg_neg]

/-- What the two words of the product say of it. -/
theorem same_no (m hi lo : Int) (hm : m = hi * 18446744073709551616 + lo) (l0 : 0 ≤ lo) (l1 : lo < 18446744073709551616) (h0 : 0 ≤ hi) (h : hi ≠ 0 ∨ wrap64 lo < 0) : Cal.fits m = false := by
  unfold wrap64 at h
  exact fits_no (by omega)
theorem same_yes (m hi lo : Int) (hm : m = hi * 18446744073709551616 + lo) (l0 : 0 ≤ lo) (l1 : lo < 18446744073709551616) (h : hi = 0) (h2 : 0 ≤ wrap64 lo) : Cal.fits m = true ∧ wrap64 lo = m := by
  unfold wrap64 at h2 ⊢
  exact ⟨fits_yes (by omega) (by omega), by omega⟩
theorem other_no (m hi lo : Int) (hm : m = -(hi * 18446744073709551616 + lo)) (l0 : 0 ≤ lo) (l1 : lo < 18446744073709551616) (h0 : 0 ≤ hi) (h : hi ≠ 0 ∨ 0 < wrap64 (IntKind.u64.wrap (-lo))) : Cal.fits m = false := by
  rw [IntKind.wrap_u64] at h
  unfold wrap64 at h
  exact fits_no (by omega)
theorem other_yes (m hi lo : Int) (hm : m = -(hi * 18446744073709551616 + lo)) (l0 : 0 ≤ lo) (l1 : lo < 18446744073709551616) (h : hi = 0) (h2 : wrap64 (IntKind.u64.wrap (-lo)) ≤ 0) : Cal.fits m = true ∧ wrap64 (IntKind.u64.wrap (-lo)) = m := by
  rw [IntKind.wrap_u64] at h2 ⊢
  unfold wrap64 at h2 ⊢
  exact ⟨fits_yes (by omega) (by omega), by omega⟩

theorem mul_nn (a b x y hi lo : Int) (w : World) (a0 : a < 0) (b0 : b < 0) (hab : Hid (a * b = hi * 18446744073709551616 + lo)) (l0 : 0 ≤ lo) (l1 : lo < 18446744073709551616) (h0 : 0 ≤ hi)
    (SA : Hid (∀ w : World, Calls Tryd.prog 208 #[.int .i64 a] w fun e w' => e = .returned (.int .u64 x) ∧ w = w'))
    (SB : Hid (∀ w : World, Calls Tryd.prog 208 #[.int .i64 b] w fun e w' => e = .returned (.int .u64 y) ∧ w = w'))
    (HM : Hid (∀ w : World, Calls Tryd.prog 207 #[.int .u64 x, .int .u64 y] w fun e w' => e = .returned (.tuple #[.int .u64 hi, .int .u64 lo]) ∧ w = w')) :
    Calls Tryd.prog 205 #[.int .i64 a, .int .i64 b] w fun e w' => e = .returned (.tuple #[.int .i64 (Cal.mulV a b), .int .i64 (Cal.mulE a b)]) ∧ w = w' := by
  have da : decide (a < 0) = true := by simp; omega
  have db : decide (b < 0) = true := by simp; omega
  by_cases c1 : hi = 0
  · have c1' : (hi != 0) = false := by rw [c1]; rfl
    by_cases c2 : wrap64 lo = 0
    · have k := same_yes _ hi lo hab.out l0 l1 c1 (by omega)
      have c2' : (wrap64 lo != 0) = false := by rw [c2]; rfl
      have H := Lib.hid (mul_yes a b k.1)
      have K := Lib.hid k.2
      have C1 := Lib.hid c1
      have C2 := Lib.hid c2
      clear k c1 c2
      go_enter Tryd.func205, Tryd.ntmps205
      go_wp2_with fail
      refine (SA.out _).mono ?_
      rintro e w' ⟨rfl, rfl⟩
      go_wp2_with fail
      refine (SB.out _).mono ?_
      rintro e w' ⟨rfl, rfl⟩
      go_wp2_with fail
      refine (HM.out _).mono ?_
      rintro e w' ⟨rfl, rfl⟩
      go_wp2_with fail
      go_ret2
      first | exact ⟨ret_ii (K.out.trans H.out.1) H.out.2, rfl⟩ | exact ⟨ret_ii (C2.out.symm.trans (K.out.trans H.out.1)) H.out.2, rfl⟩
    have c2' : (wrap64 lo != 0) = true := by rw [bne_iff_ne]; exact c2
    by_cases c3 : wrap64 lo < 0
    · have c3' : decide (wrap64 lo < 0) = true := by rw [decide_eq_true_eq]; exact c3
      have H := Lib.hid (mul_no a b (same_no _ hi lo hab.out l0 l1 h0 (.inr (by omega))))
      have C1 := Lib.hid c1
      have C2 := Lib.hid c2
      have C3 := Lib.hid c3
      clear c1 c2 c3
      go_enter Tryd.func205, Tryd.ntmps205
      go_wp2_with fail
      refine (SA.out _).mono ?_
      rintro e w' ⟨rfl, rfl⟩
      go_wp2_with fail
      refine (SB.out _).mono ?_
      rintro e w' ⟨rfl, rfl⟩
      go_wp2_with fail
      refine (HM.out _).mono ?_
      rintro e w' ⟨rfl, rfl⟩
      go_wp2_with fail
      go_ret2
      exact ⟨ret_ii H.out.1 H.out.2, rfl⟩
    · have c3' : decide (wrap64 lo < 0) = false := by rw [decide_eq_false_iff_not]; exact c3
      have k := same_yes _ hi lo hab.out l0 l1 c1 (by omega)
      have H := Lib.hid (mul_yes a b k.1)
      have K := Lib.hid k.2
      have C1 := Lib.hid c1
      have C2 := Lib.hid c2
      have C3 := Lib.hid c3
      clear k c1 c2 c3
      go_enter Tryd.func205, Tryd.ntmps205
      go_wp2_with fail
      refine (SA.out _).mono ?_
      rintro e w' ⟨rfl, rfl⟩
      go_wp2_with fail
      refine (SB.out _).mono ?_
      rintro e w' ⟨rfl, rfl⟩
      go_wp2_with fail
      refine (HM.out _).mono ?_
      rintro e w' ⟨rfl, rfl⟩
      go_wp2_with fail
      go_ret2
      first | exact ⟨ret_ii (K.out.trans H.out.1) H.out.2, rfl⟩ | exact ⟨ret_ii (C2.out.symm.trans (K.out.trans H.out.1)) H.out.2, rfl⟩
  · have c1' : (hi != 0) = true := by rw [bne_iff_ne]; exact c1
    have H := Lib.hid (mul_no a b (same_no _ hi lo hab.out l0 l1 h0 (.inl c1)))
    have C1 := Lib.hid c1
    clear c1
    go_enter Tryd.func205, Tryd.ntmps205
    go_wp2_with fail
    refine (SA.out _).mono ?_
    rintro e w' ⟨rfl, rfl⟩
    go_wp2_with fail
    refine (SB.out _).mono ?_
    rintro e w' ⟨rfl, rfl⟩
    go_wp2_with fail
    refine (HM.out _).mono ?_
    rintro e w' ⟨rfl, rfl⟩
    go_wp2_with fail
    go_ret2
    exact ⟨ret_ii H.out.1 H.out.2, rfl⟩

theorem mul_pp (a b x y hi lo : Int) (w : World) (a0 : 0 ≤ a) (b0 : 0 ≤ b) (hab : Hid (a * b = hi * 18446744073709551616 + lo)) (l0 : 0 ≤ lo) (l1 : lo < 18446744073709551616) (h0 : 0 ≤ hi)
    (SA : Hid (∀ w : World, Calls Tryd.prog 208 #[.int .i64 a] w fun e w' => e = .returned (.int .u64 x) ∧ w = w'))
    (SB : Hid (∀ w : World, Calls Tryd.prog 208 #[.int .i64 b] w fun e w' => e = .returned (.int .u64 y) ∧ w = w'))
    (HM : Hid (∀ w : World, Calls Tryd.prog 207 #[.int .u64 x, .int .u64 y] w fun e w' => e = .returned (.tuple #[.int .u64 hi, .int .u64 lo]) ∧ w = w')) :
    Calls Tryd.prog 205 #[.int .i64 a, .int .i64 b] w fun e w' => e = .returned (.tuple #[.int .i64 (Cal.mulV a b), .int .i64 (Cal.mulE a b)]) ∧ w = w' := by
  have da : decide (a < 0) = false := by simp; omega
  have db : decide (b < 0) = false := by simp; omega
  by_cases c1 : hi = 0
  · have c1' : (hi != 0) = false := by rw [c1]; rfl
    by_cases c2 : wrap64 lo = 0
    · have k := same_yes _ hi lo hab.out l0 l1 c1 (by omega)
      have c2' : (wrap64 lo != 0) = false := by rw [c2]; rfl
      have H := Lib.hid (mul_yes a b k.1)
      have K := Lib.hid k.2
      have C1 := Lib.hid c1
      have C2 := Lib.hid c2
      clear k c1 c2
      go_enter Tryd.func205, Tryd.ntmps205
      go_wp2_with fail
      refine (SA.out _).mono ?_
      rintro e w' ⟨rfl, rfl⟩
      go_wp2_with fail
      refine (SB.out _).mono ?_
      rintro e w' ⟨rfl, rfl⟩
      go_wp2_with fail
      refine (HM.out _).mono ?_
      rintro e w' ⟨rfl, rfl⟩
      go_wp2_with fail
      go_ret2
      first | exact ⟨ret_ii (K.out.trans H.out.1) H.out.2, rfl⟩ | exact ⟨ret_ii (C2.out.symm.trans (K.out.trans H.out.1)) H.out.2, rfl⟩
    have c2' : (wrap64 lo != 0) = true := by rw [bne_iff_ne]; exact c2
    by_cases c3 : wrap64 lo < 0
    · have c3' : decide (wrap64 lo < 0) = true := by rw [decide_eq_true_eq]; exact c3
      have H := Lib.hid (mul_no a b (same_no _ hi lo hab.out l0 l1 h0 (.inr (by omega))))
      have C1 := Lib.hid c1
      have C2 := Lib.hid c2
      have C3 := Lib.hid c3
      clear c1 c2 c3
      go_enter Tryd.func205, Tryd.ntmps205
      go_wp2_with fail
      refine (SA.out _).mono ?_
      rintro e w' ⟨rfl, rfl⟩
      go_wp2_with fail
      refine (SB.out _).mono ?_
      rintro e w' ⟨rfl, rfl⟩
      go_wp2_with fail
      refine (HM.out _).mono ?_
      rintro e w' ⟨rfl, rfl⟩
      go_wp2_with fail
      go_ret2
      exact ⟨ret_ii H.out.1 H.out.2, rfl⟩
    · have c3' : decide (wrap64 lo < 0) = false := by rw [decide_eq_false_iff_not]; exact c3
      have k := same_yes _ hi lo hab.out l0 l1 c1 (by omega)
      have H := Lib.hid (mul_yes a b k.1)
      have K := Lib.hid k.2
      have C1 := Lib.hid c1
      have C2 := Lib.hid c2
      have C3 := Lib.hid c3
      clear k c1 c2 c3
      go_enter Tryd.func205, Tryd.ntmps205
      go_wp2_with fail
      refine (SA.out _).mono ?_
      rintro e w' ⟨rfl, rfl⟩
      go_wp2_with fail
      refine (SB.out _).mono ?_
      rintro e w' ⟨rfl, rfl⟩
      go_wp2_with fail
      refine (HM.out _).mono ?_
      rintro e w' ⟨rfl, rfl⟩
      go_wp2_with fail
      go_ret2
      first | exact ⟨ret_ii (K.out.trans H.out.1) H.out.2, rfl⟩ | exact ⟨ret_ii (C2.out.symm.trans (K.out.trans H.out.1)) H.out.2, rfl⟩
  · have c1' : (hi != 0) = true := by rw [bne_iff_ne]; exact c1
    have H := Lib.hid (mul_no a b (same_no _ hi lo hab.out l0 l1 h0 (.inl c1)))
    have C1 := Lib.hid c1
    clear c1
    go_enter Tryd.func205, Tryd.ntmps205
    go_wp2_with fail
    refine (SA.out _).mono ?_
    rintro e w' ⟨rfl, rfl⟩
    go_wp2_with fail
    refine (SB.out _).mono ?_
    rintro e w' ⟨rfl, rfl⟩
    go_wp2_with fail
    refine (HM.out _).mono ?_
    rintro e w' ⟨rfl, rfl⟩
    go_wp2_with fail
    go_ret2
    exact ⟨ret_ii H.out.1 H.out.2, rfl⟩

theorem mul_np (a b x y hi lo : Int) (w : World) (a0 : a < 0) (b0 : 0 ≤ b) (hab : Hid (a * b = -(hi * 18446744073709551616 + lo))) (l0 : 0 ≤ lo) (l1 : lo < 18446744073709551616) (h0 : 0 ≤ hi)
    (SA : Hid (∀ w : World, Calls Tryd.prog 208 #[.int .i64 a] w fun e w' => e = .returned (.int .u64 x) ∧ w = w'))
    (SB : Hid (∀ w : World, Calls Tryd.prog 208 #[.int .i64 b] w fun e w' => e = .returned (.int .u64 y) ∧ w = w'))
    (HM : Hid (∀ w : World, Calls Tryd.prog 207 #[.int .u64 x, .int .u64 y] w fun e w' => e = .returned (.tuple #[.int .u64 hi, .int .u64 lo]) ∧ w = w')) :
    Calls Tryd.prog 205 #[.int .i64 a, .int .i64 b] w fun e w' => e = .returned (.tuple #[.int .i64 (Cal.mulV a b), .int .i64 (Cal.mulE a b)]) ∧ w = w' := by
  have da : decide (a < 0) = true := by simp; omega
  have db : decide (b < 0) = false := by simp; omega
  by_cases c1 : hi = 0
  · have c1' : (hi != 0) = false := by rw [c1]; rfl
    by_cases c2 : wrap64 (IntKind.u64.wrap (-lo)) = 0
    · have k := other_yes _ hi lo hab.out l0 l1 c1 (by omega)
      have c2' : (wrap64 (IntKind.u64.wrap (-lo)) != 0) = false := by rw [c2]; rfl
      have H := Lib.hid (mul_yes a b k.1)
      have K := Lib.hid k.2
      have C1 := Lib.hid c1
      have C2 := Lib.hid c2
      clear k c1 c2
      go_enter Tryd.func205, Tryd.ntmps205
      go_wp2_with fail
      refine (SA.out _).mono ?_
      rintro e w' ⟨rfl, rfl⟩
      go_wp2_with fail
      refine (SB.out _).mono ?_
      rintro e w' ⟨rfl, rfl⟩
      go_wp2_with fail
      refine (HM.out _).mono ?_
      rintro e w' ⟨rfl, rfl⟩
      go_wp2_with fail
      go_ret2
      first | exact ⟨ret_ii (K.out.trans H.out.1) H.out.2, rfl⟩ | exact ⟨ret_ii (C2.out.symm.trans (K.out.trans H.out.1)) H.out.2, rfl⟩
    have c2' : (wrap64 (IntKind.u64.wrap (-lo)) != 0) = true := by rw [bne_iff_ne]; exact c2
    by_cases c3 : wrap64 (IntKind.u64.wrap (-lo)) < 0
    · have c3' : decide (wrap64 (IntKind.u64.wrap (-lo)) < 0) = true := by rw [decide_eq_true_eq]; exact c3
      have k := other_yes _ hi lo hab.out l0 l1 c1 (by omega)
      have H := Lib.hid (mul_yes a b k.1)
      have K := Lib.hid k.2
      have C1 := Lib.hid c1
      have C2 := Lib.hid c2
      have C3 := Lib.hid c3
      clear k c1 c2 c3
      go_enter Tryd.func205, Tryd.ntmps205
      go_wp2_with fail
      refine (SA.out _).mono ?_
      rintro e w' ⟨rfl, rfl⟩
      go_wp2_with fail
      refine (SB.out _).mono ?_
      rintro e w' ⟨rfl, rfl⟩
      go_wp2_with fail
      refine (HM.out _).mono ?_
      rintro e w' ⟨rfl, rfl⟩
      go_wp2_with fail
      go_ret2
      first | exact ⟨ret_ii (K.out.trans H.out.1) H.out.2, rfl⟩ | exact ⟨ret_ii (C2.out.symm.trans (K.out.trans H.out.1)) H.out.2, rfl⟩
    · have c3' : decide (wrap64 (IntKind.u64.wrap (-lo)) < 0) = false := by rw [decide_eq_false_iff_not]; exact c3
      have H := Lib.hid (mul_no a b (other_no _ hi lo hab.out l0 l1 h0 (.inr (by omega))))
      have C1 := Lib.hid c1
      have C2 := Lib.hid c2
      have C3 := Lib.hid c3
      clear c1 c2 c3
      go_enter Tryd.func205, Tryd.ntmps205
      go_wp2_with fail
      refine (SA.out _).mono ?_
      rintro e w' ⟨rfl, rfl⟩
      go_wp2_with fail
      refine (SB.out _).mono ?_
      rintro e w' ⟨rfl, rfl⟩
      go_wp2_with fail
      refine (HM.out _).mono ?_
      rintro e w' ⟨rfl, rfl⟩
      go_wp2_with fail
      go_ret2
      exact ⟨ret_ii H.out.1 H.out.2, rfl⟩
  · have c1' : (hi != 0) = true := by rw [bne_iff_ne]; exact c1
    have H := Lib.hid (mul_no a b (other_no _ hi lo hab.out l0 l1 h0 (.inl c1)))
    have C1 := Lib.hid c1
    clear c1
    go_enter Tryd.func205, Tryd.ntmps205
    go_wp2_with fail
    refine (SA.out _).mono ?_
    rintro e w' ⟨rfl, rfl⟩
    go_wp2_with fail
    refine (SB.out _).mono ?_
    rintro e w' ⟨rfl, rfl⟩
    go_wp2_with fail
    refine (HM.out _).mono ?_
    rintro e w' ⟨rfl, rfl⟩
    go_wp2_with fail
    go_ret2
    exact ⟨ret_ii H.out.1 H.out.2, rfl⟩

theorem mul_pn (a b x y hi lo : Int) (w : World) (a0 : 0 ≤ a) (b0 : b < 0) (hab : Hid (a * b = -(hi * 18446744073709551616 + lo))) (l0 : 0 ≤ lo) (l1 : lo < 18446744073709551616) (h0 : 0 ≤ hi)
    (SA : Hid (∀ w : World, Calls Tryd.prog 208 #[.int .i64 a] w fun e w' => e = .returned (.int .u64 x) ∧ w = w'))
    (SB : Hid (∀ w : World, Calls Tryd.prog 208 #[.int .i64 b] w fun e w' => e = .returned (.int .u64 y) ∧ w = w'))
    (HM : Hid (∀ w : World, Calls Tryd.prog 207 #[.int .u64 x, .int .u64 y] w fun e w' => e = .returned (.tuple #[.int .u64 hi, .int .u64 lo]) ∧ w = w')) :
    Calls Tryd.prog 205 #[.int .i64 a, .int .i64 b] w fun e w' => e = .returned (.tuple #[.int .i64 (Cal.mulV a b), .int .i64 (Cal.mulE a b)]) ∧ w = w' := by
  have da : decide (a < 0) = false := by simp; omega
  have db : decide (b < 0) = true := by simp; omega
  by_cases c1 : hi = 0
  · have c1' : (hi != 0) = false := by rw [c1]; rfl
    by_cases c2 : wrap64 (IntKind.u64.wrap (-lo)) = 0
    · have k := other_yes _ hi lo hab.out l0 l1 c1 (by omega)
      have c2' : (wrap64 (IntKind.u64.wrap (-lo)) != 0) = false := by rw [c2]; rfl
      have H := Lib.hid (mul_yes a b k.1)
      have K := Lib.hid k.2
      have C1 := Lib.hid c1
      have C2 := Lib.hid c2
      clear k c1 c2
      go_enter Tryd.func205, Tryd.ntmps205
      go_wp2_with fail
      refine (SA.out _).mono ?_
      rintro e w' ⟨rfl, rfl⟩
      go_wp2_with fail
      refine (SB.out _).mono ?_
      rintro e w' ⟨rfl, rfl⟩
      go_wp2_with fail
      refine (HM.out _).mono ?_
      rintro e w' ⟨rfl, rfl⟩
      go_wp2_with fail
      go_ret2
      first | exact ⟨ret_ii (K.out.trans H.out.1) H.out.2, rfl⟩ | exact ⟨ret_ii (C2.out.symm.trans (K.out.trans H.out.1)) H.out.2, rfl⟩
    have c2' : (wrap64 (IntKind.u64.wrap (-lo)) != 0) = true := by rw [bne_iff_ne]; exact c2
    by_cases c3 : wrap64 (IntKind.u64.wrap (-lo)) < 0
    · have c3' : decide (wrap64 (IntKind.u64.wrap (-lo)) < 0) = true := by rw [decide_eq_true_eq]; exact c3
      have k := other_yes _ hi lo hab.out l0 l1 c1 (by omega)
      have H := Lib.hid (mul_yes a b k.1)
      have K := Lib.hid k.2
      have C1 := Lib.hid c1
      have C2 := Lib.hid c2
      have C3 := Lib.hid c3
      clear k c1 c2 c3
      go_enter Tryd.func205, Tryd.ntmps205
      go_wp2_with fail
      refine (SA.out _).mono ?_
      rintro e w' ⟨rfl, rfl⟩
      go_wp2_with fail
      refine (SB.out _).mono ?_
      rintro e w' ⟨rfl, rfl⟩
      go_wp2_with fail
      refine (HM.out _).mono ?_
      rintro e w' ⟨rfl, rfl⟩
      go_wp2_with fail
      go_ret2
      first | exact ⟨ret_ii (K.out.trans H.out.1) H.out.2, rfl⟩ | exact ⟨ret_ii (C2.out.symm.trans (K.out.trans H.out.1)) H.out.2, rfl⟩
    · have c3' : decide (wrap64 (IntKind.u64.wrap (-lo)) < 0) = false := by rw [decide_eq_false_iff_not]; exact c3
      have H := Lib.hid (mul_no a b (other_no _ hi lo hab.out l0 l1 h0 (.inr (by omega))))
      have C1 := Lib.hid c1
      have C2 := Lib.hid c2
      have C3 := Lib.hid c3
      clear c1 c2 c3
      go_enter Tryd.func205, Tryd.ntmps205
      go_wp2_with fail
      refine (SA.out _).mono ?_
      rintro e w' ⟨rfl, rfl⟩
      go_wp2_with fail
      refine (SB.out _).mono ?_
      rintro e w' ⟨rfl, rfl⟩
      go_wp2_with fail
      refine (HM.out _).mono ?_
      rintro e w' ⟨rfl, rfl⟩
      go_wp2_with fail
      go_ret2
      exact ⟨ret_ii H.out.1 H.out.2, rfl⟩
  · have c1' : (hi != 0) = true := by rw [bne_iff_ne]; exact c1
    have H := Lib.hid (mul_no a b (other_no _ hi lo hab.out l0 l1 h0 (.inl c1)))
    have C1 := Lib.hid c1
    clear c1
    go_enter Tryd.func205, Tryd.ntmps205
    go_wp2_with fail
    refine (SA.out _).mono ?_
    rintro e w' ⟨rfl, rfl⟩
    go_wp2_with fail
    refine (SB.out _).mono ?_
    rintro e w' ⟨rfl, rfl⟩
    go_wp2_with fail
    refine (HM.out _).mono ?_
    rintro e w' ⟨rfl, rfl⟩
    go_wp2_with fail
    go_ret2
    exact ⟨ret_ii H.out.1 H.out.2, rfl⟩

theorem exact_Mul (a b : Int) (w : World) (ha : I64 a) (hb : I64 b) :
    Calls Tryd.prog 205 #[.int .i64 a, .int .i64 b] w fun e w' => e = .returned (.tuple #[.int .i64 (Cal.mulV a b), .int .i64 (Cal.mulE a b)]) ∧ w = w' := by
  have hm : ∀ w : World, Calls Tryd.prog 207 #[.int .u64 (a.natAbs : Int), .int .u64 (b.natAbs : Int)] w fun e w' =>
      e = .returned (.tuple #[.int .u64 ((a.natAbs * b.natAbs / 18446744073709551616 : Nat) : Int), .int .u64 ((a.natAbs * b.natAbs % 18446744073709551616 : Nat) : Int)]) ∧ w = w' := fun w =>
    (bits_Mul64 a.natAbs b.natAbs (by obtain ⟨h1, h2⟩ := ha; omega) (by obtain ⟨h1, h2⟩ := hb; omega) w).mono fun _ _ h => ⟨h.1, h.2.symm⟩
  have sa := fun w => exact_size a w ha
  have sb := fun w => exact_size b w hb
  have e1 := prod_same a b
  have e2 := prod_other a b
  generalize a.natAbs * b.natAbs = n at *
  by_cases a0 : a < 0 <;> by_cases b0 : b < 0
  · exact mul_nn a b _ _ _ _ w a0 b0 (Lib.hid (by rw [e1 (by omega)]; omega)) (by omega) (by omega) (by omega) (Lib.hid sa) (Lib.hid sb) (Lib.hid hm)
  · exact mul_np a b _ _ _ _ w a0 (by omega) (Lib.hid (by rw [e2 (by omega)]; omega)) (by omega) (by omega) (by omega) (Lib.hid sa) (Lib.hid sb) (Lib.hid hm)
  · exact mul_pn a b _ _ _ _ w (by omega) b0 (Lib.hid (by rw [e2 (by omega)]; omega)) (by omega) (by omega) (by omega) (Lib.hid sa) (Lib.hid sb) (Lib.hid hm)
  · exact mul_pp a b _ _ _ _ w (by omega) (by omega) (Lib.hid (by rw [e1 (by omega)]; omega)) (by omega) (by omega) (by omega) (Lib.hid sa) (Lib.hid sb) (Lib.hid hm)
end Go.Proofs.YtncckpfenjokmaaDoor
