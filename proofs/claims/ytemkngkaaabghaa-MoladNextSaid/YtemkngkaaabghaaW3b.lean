/- Layer 3: nineteen years on end. -/
import Derived.Test.YtemkngkaaabghaaW3
import Derived.LoopTactic
import Derived.Below
namespace Go.Proofs.Ytemkngkaaabghaa.C19
open Go.ChangeShapes Go.WideShapes Go.ChangeAt Go.RowKit
set_option linter.unusedVariables false
def leapsUpto (k : Int) : Nat → Int
  | 0 => 0
  | n + 1 => leapsUpto k n + if Cal.leap (k + n) then 1 else 0
theorem leaps_bd (k : Int) (n : Nat) : 0 ≤ leapsUpto k n ∧ leapsUpto k n ≤ n := by
  induction n with
  | zero => simp [leapsUpto]
  | succ n ih => unfold leapsUpto; split <;> omega
theorem leap_mod (k j : Int) : Cal.leap (k + j) = Cal.leap (k % 19 + j) := by
  unfold Cal.leap
  rw [show (7 * (k + j) + 1) % 19 = (7 * (k % 19 + j) + 1) % 19 by omega]
theorem leaps_mod (k : Int) (n : Nat) : leapsUpto k n = leapsUpto (k % 19) n := by
  induction n with
  | zero => rfl
  | succ n ih => unfold leapsUpto; rw [ih, leap_mod k n]
theorem leaps_seven (k : Int) : leapsUpto k 19 = 7 := by
  rw [leaps_mod]
  have h0 : 0 ≤ k % 19 := by omega
  have h1 : k % 19 < 19 := by omega
  generalize k % 19 = r at *
  have : r = 0 ∨ r = 1 ∨ r = 2 ∨ r = 3 ∨ r = 4 ∨ r = 5 ∨ r = 6 ∨ r = 7 ∨ r = 8 ∨ r = 9 ∨ r = 10 ∨ r = 11 ∨ r = 12 ∨ r = 13 ∨ r = 14 ∨ r = 15 ∨ r = 16 ∨ r = 17 ∨ r = 18 := by omega
  rcases this with rfl | rfl | rfl | rfl | rfl | rfl | rfl | rfl | rfl | rfl | rfl | rfl | rfl | rfl | rfl | rfl | rfl | rfl | rfl <;> decide +kernel
theorem months_bd (y : Int) : 12 ≤ Cal.months y ∧ Cal.months y ≤ 13 := by unfold Cal.months; split <;> omega
theorem before_bd (y : Int) (h0 : 0 ≤ y) (h1 : y ≤ 10001) : -13 ≤ Cal.before y ∧ Cal.before y ≤ 123700 := by unfold Cal.before; omega
theorem before_next (y : Int) : Cal.before (y + 1) = Cal.before y + Cal.months y := by
  have hq : 7 * y + 1 = 19 * ((7 * y + 1) / 19) + (7 * y + 1) % 19 := by omega
  have r0 : 0 ≤ (7 * y + 1) % 19 := by omega
  have r1 : (7 * y + 1) % 19 < 19 := by omega
  unfold Cal.before Cal.months Cal.leap
  generalize (7 * y + 1) / 19 = q at *
  generalize (7 * y + 1) % 19 = r at *
  have e1 : 235 * y - 234 = (r + 12) + 19 * (12 * y + q - 13) := by omega
  have e2 : 235 * (y + 1) - 234 = r + 19 * (12 * y + q) := by omega
  rw [e1, e2, Int.add_mul_ediv_left _ _ (by decide), Int.add_mul_ediv_left _ _ (by decide)]
  by_cases h : r < 7
  · rw [decide_eq_true h, if_pos rfl]; clear hq e1 e2; omega
  · rw [decide_eq_false h, if_neg (by decide)]; clear hq e1 e2; omega
theorem before_19 (y : Int) : Cal.before (y + 19) = Cal.before y + 235 := by unfold Cal.before; omega
theorem leapsUpto_zero (k : Int) : leapsUpto k 0 = 0 := rfl
theorem leapsUpto_no (k : Int) (n : Nat) (h : Cal.leap (k + n) = false) : leapsUpto k (n + 1) = leapsUpto k n := by rw [leapsUpto, h]; simp
theorem leapsUpto_yes (k : Int) (n : Nat) (h : Cal.leap (k + n) = true) : leapsUpto k (n + 1) = leapsUpto k n + 1 := by rw [leapsUpto, h]; simp
attribute [irreducible] leapsUpto

set_option maxHeartbeats 1000000 in
theorem CycleNext_walk (y : Int) (hy : 0 ≤ y ∧ y ≤ 65535) (w : World) :
    Calls Try.prog 11 #[.int .u16 y] w fun e w' => e = .returned (.bool true) ∧ Below w.heap.size w w' := by
  obtain ⟨y0, y1⟩ := hy
  have k1 : 0 ≤ y % 9900 := by omega
  have k2 : y % 9900 < 9900 := by omega
  have HB := Lib.hid (fun w => cycle_Before_ok (y % 9900) w (by omega) (by omega))
  have HI := Lib.hid (fun w => cycle_In_ok (y % 9900) w (by omega) (by omega))
  have hB1 := fun w => cycle_Before_ok (y % 9900 + 1) w (by omega) (by omega)
  have hB19 := fun w => cycle_Before_ok (y % 9900 + 19) w (by omega) (by omega)
  rw [before_next] at hB1
  rw [before_19] at hB19
  have HB1 := Lib.hid hB1
  have HB19 := Lib.hid hB19
  clear hB1 hB19
  have HL : Hid (∀ (i : Nat) (w : World), i < 19 → Calls Try.prog 42 #[.int .i64 (y % 9900 + i)] w fun e w' => e = .returned (.tuple #[.bool (Cal.leap (y % 9900 + i)), .int .i64 0]) ∧ w = w') :=
    Lib.hid (fun i w hi => cycle_Leap_ok (y % 9900 + i) w (by omega) (by omega))
  have HN : Hid (∀ (i : Nat) (w : World), i < 19 → Calls Try.prog 44 #[.int .i64 (y % 9900 + i)] w fun e w' => e = .returned (.tuple #[.int .i64 (Cal.months (y % 9900 + i)), .int .i64 0]) ∧ w = w') :=
    Lib.hid (fun i w hi => cycle_In_ok (y % 9900 + i) w (by omega) (by omega))
  obtain ⟨b3, b4⟩ := before_bd (y % 9900) (by omega) (by omega)
  obtain ⟨b1, b2⟩ := months_bd (y % 9900)
  go_enter Try.func11, Try.ntmps11
  go_wp2_with fail
  generalize y % 9900 = k at *
  generalize Cal.before k = b at *
  generalize Cal.months k = mm at *
  refine (HB.out _).mono ?_
  rintro e w' ⟨rfl, rfl⟩
  go_wp2_with fail
  refine (HI.out _).mono ?_
  rintro e w' ⟨rfl, rfl⟩
  go_wp2_with fail
  refine (HB1.out _).mono ?_
  rintro e w' ⟨rfl, rfl⟩
  go_wp2_with fail
  refine (HB19.out _).mono ?_
  rintro e w' ⟨rfl, rfl⟩
  go_wp2_with fail
  go_loop [12, 13] (fun l i => ∃ n : Nat, n ≤ 19 ∧ i = .int .i64 n ∧ l = .int .i64 (leapsUpto k n)) (fun _ i => 19 - (intOf i).toNat)
  case atStart => exact ⟨0, by omega, rfl, by rw [leapsUpto_zero]⟩
  case round =>
    obtain ⟨n, hn, rfl, rfl⟩ := hrel
    by_cases hlt : n < 19
    · have H1 := Lib.hid (fun w => HL.out n w hlt)
      have H2 := Lib.hid (fun w => HN.out n w hlt)
      obtain ⟨l1, l2⟩ := leaps_bd k n
      cases hl : Cal.leap (k + n)
      · have hm : Cal.months (k + n) = 12 := by unfold Cal.months; rw [hl]; rfl
        have hs : Hid (leapsUpto k (n + 1) = leapsUpto k n) := Lib.hid (leapsUpto_no k n hl)
        rw [hl] at H1
        rw [hm] at H2
        clear hl hm
        go_wp2_with fail
        refine (H1.out _).mono ?_
        rintro e w' ⟨rfl, rfl⟩
        go_wp2_with fail
        refine (H2.out _).mono ?_
        rintro e w' ⟨rfl, rfl⟩
        go_wp2_with fail
        go_round
        case rel => exact ⟨n + 1, by omega, by go_num, by rw [hs.out]⟩
        case measure => simp [intOf]; omega
      · have hm : Cal.months (k + n) = 13 := by unfold Cal.months; rw [hl]; rfl
        have hs : Hid (leapsUpto k (n + 1) = leapsUpto k n + 1) := Lib.hid (leapsUpto_yes k n hl)
        rw [hl] at H1
        rw [hm] at H2
        clear hl hm
        go_wp2_with fail
        refine (H1.out _).mono ?_
        rintro e w' ⟨rfl, rfl⟩
        go_wp2_with fail
        refine (H2.out _).mono ?_
        rintro e w' ⟨rfl, rfl⟩
        go_wp2_with fail
        go_round
        case rel => exact ⟨n + 1, by omega, by go_num, by rw [hs.out]⟩
        case measure => simp [intOf]; omega
    · obtain rfl : n = 19 := by omega
      have h7 : leapsUpto k 19 = 7 := leaps_seven k
      go_wp2_with fail
      refine (awake3 _).mono ?_
      rintro e w' ⟨rfl, rfl⟩
      go_wp2_with fail
      go_ret
      exact ⟨rfl, Below.refl _ _⟩
end Go.Proofs.Ytemkngkaaabghaa.C19
