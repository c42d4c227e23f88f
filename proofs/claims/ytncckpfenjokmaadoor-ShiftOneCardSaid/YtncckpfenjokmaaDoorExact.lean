/- Layer 1: contracts of the exact numbers. -/
import Derived.Test.YtncckpfenjokmaaDoorProg
import Derived.Test.YtncckpfenjokmaaDoorMath
import Derived.Test.YtncckpfenjokmaaDoorShelf
import Derived.WalkKit
import Derived.ProofKit
import Derived.Deep.Light
import Derived.Lib.Hide
namespace Go.Proofs.YtncckpfenjokmaaDoor
open Go.ChangeShapes Go.WideShapes Go.ChangeAt Go.RowKit
set_option linter.unusedVariables false

def I64 (a : Int) : Prop := -9223372036854775808 ≤ a ∧ a ≤ 9223372036854775807
theorem ret_i {a b : Int} (h : a = b) : Ending.returned (.int .i64 a) = .returned (.int .i64 b) := by rw [h]
theorem ret_b {a b : Bool} (h : a = b) : Ending.returned (.bool a) = .returned (.bool b) := by rw [h]
theorem ret_ii {a b c d : Int} (h : a = b) (h' : c = d) : Ending.returned (.tuple #[.int .i64 a, .int .i64 c]) = .returned (.tuple #[.int .i64 b, .int .i64 d]) := by rw [h, h']
theorem ret_bi {a b : Bool} {c d : Int} (h : a = b) (h' : c = d) : Ending.returned (.tuple #[.bool a, .int .i64 c]) = .returned (.tuple #[.bool b, .int .i64 d]) := by rw [h, h']

theorem ediv_bd (a b : Int) (ha : I64 a) (hb : 0 < b) : I64 (a / b) ∧ (a.tmod b < 0 → I64 (a / b + 1)) := by
  obtain ⟨h1, h2⟩ := ha
  have k1 : -9223372036854775808 ≤ a / b := by
    rw [Int.le_ediv_iff_mul_le hb]
    omega
  have k2 : a / b < 9223372036854775808 := by
    rw [Int.ediv_lt_iff_lt_mul hb]
    omega
  refine ⟨⟨k1, by omega⟩, fun h => ?_⟩
  have k3 : a / b < 0 := by
    rw [Int.ediv_lt_iff_lt_mul hb]
    have hn : a < 0 := by
      by_cases h0 : 0 ≤ a
      · have := Int.tmod_nonneg (b := b) h0; omega
      · omega
    omega
  exact ⟨by omega, by omega⟩
theorem div_lo (a b : Int) (ha : I64 a) (hb : 0 < b) (h : a.tmod b < 0) : wrap64 (wrap64 (a.tdiv b) - 1) = Cal.divV a b := by
  obtain ⟨e1, _⟩ := Cal.div_down a b hb h
  obtain ⟨d1, d2⟩ := ediv_bd a b ha hb
  have d2 := d2 h
  rw [Cal.divV, if_neg (by omega), show a.tdiv b = a / b + 1 by omega, IntWalk.wrap64_in _ d2, show a / b + 1 - 1 = a / b by omega, IntWalk.wrap64_in _ d1]
theorem div_hi (a b : Int) (ha : I64 a) (hb : 0 < b) (h : 0 ≤ a.tmod b) : wrap64 (a.tdiv b) = Cal.divV a b := by
  obtain ⟨e1, _⟩ := Cal.div_down' a b hb h
  rw [Cal.divV, if_neg (by omega), e1, IntWalk.wrap64_in _ (ediv_bd a b ha hb).1]
theorem mod_bd (a b : Int) (hb : 0 < b) (hb2 : I64 b) : I64 (a % b) := by
  have h1 := Int.emod_nonneg a (show b ≠ 0 by omega)
  have h2 := Int.emod_lt_of_pos a hb
  obtain ⟨h3, h4⟩ := hb2
  exact ⟨by omega, by omega⟩
theorem mod_lo (a b : Int) (hb2 : I64 b) (hb : 0 < b) (h : a.tmod b < 0) : wrap64 (a.tmod b + b) = Cal.modV a b := by
  obtain ⟨_, e1⟩ := Cal.div_down a b hb h
  rw [Cal.modV, if_neg (by omega), e1, IntWalk.wrap64_in _ (mod_bd a b hb hb2)]
theorem mod_hi (a b : Int) (hb2 : I64 b) (hb : 0 < b) (h : 0 ≤ a.tmod b) : a.tmod b = Cal.modV a b := by
  obtain ⟨_, e1⟩ := Cal.div_down' a b hb h
  rw [Cal.modV, if_neg (by omega), e1]
theorem div_no (a b : Int) (h : b ≤ 0) : 0 = Cal.divV a b := by rw [Cal.divV, if_pos h]
theorem mod_no (a b : Int) (h : b ≤ 0) : 0 = Cal.modV a b := by rw [Cal.modV, if_pos h]
theorem dive_no (b : Int) (h : b ≤ 0) : 1 = Cal.divE b := by rw [Cal.divE, if_pos h]
theorem dive_ok (b : Int) (h : 0 < b) : 0 = Cal.divE b := by rw [Cal.divE, if_neg (by omega)]

theorem fits_yes {n : Int} (h1 : -9223372036854775808 ≤ n) (h2 : n ≤ 9223372036854775807) : Cal.fits n = true := by simp [Cal.fits, h1, h2]
theorem fits_no {n : Int} (h : n < -9223372036854775808 ∨ 9223372036854775807 < n) : Cal.fits n = false := by
  rw [Bool.eq_false_iff]; intro h'; simp only [Cal.fits, Bool.and_eq_true, decide_eq_true_eq] at h'; omega
theorem add_ok (a b : Int) (h1 : -9223372036854775808 ≤ a + b) (h2 : a + b ≤ 9223372036854775807) : a + b = Cal.addV a b := by rw [Cal.addV, if_pos (fits_yes h1 h2)]
theorem adde_ok (a b : Int) (h1 : -9223372036854775808 ≤ a + b) (h2 : a + b ≤ 9223372036854775807) : 0 = Cal.addE a b := by rw [Cal.addE, if_pos (fits_yes h1 h2)]
theorem add_no (a b : Int) (h : a + b < -9223372036854775808 ∨ 9223372036854775807 < a + b) : 0 = Cal.addV a b := by rw [Cal.addV, if_neg (by rw [fits_no h]; decide)]
theorem adde_no (a b : Int) (h : a + b < -9223372036854775808 ∨ 9223372036854775807 < a + b) : 6 = Cal.addE a b := by rw [Cal.addE, if_neg (by rw [fits_no h]; decide)]
theorem exact_Div (a b : Int) (w : World) (ha : I64 a) (hb : I64 b) :
    Calls Tryd.prog 138 #[.int .i64 a, .int .i64 b] w fun e w' => e = .returned (.tuple #[.int .i64 (Cal.divV a b), .int .i64 (Cal.divE b)]) ∧ w = w' := by
  go_enter Tryd.func138, Tryd.ntmps138
  go_wp2
  all_goals go_ret2
  · exact ⟨ret_ii (div_no _ _ ‹_›) (dive_no _ ‹_›), rfl⟩
  · exact ⟨ret_ii (div_lo _ _ ha ‹_› ‹_›) (dive_ok _ ‹_›), rfl⟩
  · exact ⟨ret_ii (div_hi _ _ ha ‹_› ‹_›) (dive_ok _ ‹_›), rfl⟩
theorem exact_Mod (a b : Int) (w : World) (ha : I64 a) (hb : I64 b) :
    Calls Tryd.prog 139 #[.int .i64 a, .int .i64 b] w fun e w' => e = .returned (.tuple #[.int .i64 (Cal.modV a b), .int .i64 (Cal.divE b)]) ∧ w = w' := by
  go_enter Tryd.func139, Tryd.ntmps139
  go_wp2
  all_goals go_ret2
  · exact ⟨ret_ii (mod_no _ _ ‹_›) (dive_no _ ‹_›), rfl⟩
  · exact ⟨ret_ii (mod_lo _ _ hb ‹_› ‹_›) (dive_ok _ ‹_›), rfl⟩
  · exact ⟨ret_ii (mod_hi _ _ hb ‹_› ‹_›) (dive_ok _ ‹_›), rfl⟩
theorem ref_Down (a b : Int) (w : World) (ha : I64 a) (hb : 0 < b) :
    Calls Tryd.prog 62 #[.int .i64 a, .int .i64 b] w fun e w' => e = .returned (.int .i64 (Cal.divV a b)) ∧ w = w' := by
  go_enter Tryd.func62, Tryd.ntmps62
  go_wp2
  all_goals go_ret
  · exact ⟨ret_i (div_lo _ _ ha ‹_› ‹_›), rfl⟩
  · exact ⟨ret_i (div_hi _ _ ha ‹_› ‹_›), rfl⟩
theorem ref_Left (a b : Int) (w : World) (hb2 : I64 b) (hb : 0 < b) :
    Calls Tryd.prog 75 #[.int .i64 a, .int .i64 b] w fun e w' => e = .returned (.int .i64 (Cal.modV a b)) ∧ w = w' := by
  go_enter Tryd.func75, Tryd.ntmps75
  go_wp2
  all_goals go_ret
  · exact ⟨ret_i (mod_lo _ _ hb2 ‹_› ‹_›), rfl⟩
  · exact ⟨ret_i (mod_hi _ _ hb2 ‹_› ‹_›), rfl⟩
theorem add64 (x y : Int) (hx : 0 ≤ x) (hy : 0 ≤ y) (w : World) :
    (callFunc 209 #[.int .u64 x, .int .u64 y, .int .u64 0]).run Tryd.prog w = .ok (.value (.tuple #[.int .u64 ((x + y) % 18446744073709551616), .int .u64 ((x + y) / 18446744073709551616)])) w := by
  have h := run_add64 (P := Tryd.prog) x y 0 hx hy (by omega) (by omega) w
  rw [show x + y + 0 = x + y by omega] at h
  rw [run_callFunc_extern Tryd.func209 (by kernel_rfl) (by kernel_rfl) (by kernel_rfl) (e := add64Entry) (by kernel_rfl), h]
  rfl
theorem sum_back (a b : Int) : wrap64 ((IntKind.u64.wrap a + IntKind.u64.wrap b) % 18446744073709551616) = wrap64 (a + b) := by
  rw [IntKind.wrap_u64, IntKind.wrap_u64]
  unfold wrap64
  omega
theorem add_way1 (a b : Int) (ha : I64 a) (hb : I64 b) (h1 : a < 0 ↔ b < 0) (h2 : (!decide (wrap64 ((IntKind.u64.wrap a + IntKind.u64.wrap b) % 18446744073709551616) < 0) == decide (b < 0)) = true) :
    a + b < -9223372036854775808 ∨ 9223372036854775807 < a + b := by
  obtain ⟨ha1, ha2⟩ := ha
  obtain ⟨hb1, hb2⟩ := hb
  rw [sum_back] at h2
  unfold wrap64 at h2
  by_cases c1 : (a + b + 9223372036854775808) % 18446744073709551616 - 9223372036854775808 < 0 <;> by_cases c2 : b < 0 <;> simp [c1, c2] at h2 <;> omega
theorem add_way2 (a b : Int) (ha : I64 a) (hb : I64 b) (h1 : a < 0 ↔ b < 0) (h2 : (!decide (wrap64 ((IntKind.u64.wrap a + IntKind.u64.wrap b) % 18446744073709551616) < 0) == decide (b < 0)) = false) :
    -9223372036854775808 ≤ a + b ∧ a + b ≤ 9223372036854775807 := by
  obtain ⟨ha1, ha2⟩ := ha
  obtain ⟨hb1, hb2⟩ := hb
  rw [sum_back] at h2
  unfold wrap64 at h2
  by_cases c1 : (a + b + 9223372036854775808) % 18446744073709551616 - 9223372036854775808 < 0 <;> by_cases c2 : b < 0 <;> simp [c1, c2] at h2 <;> omega
theorem exact_Add (a b : Int) (w : World) (ha : I64 a) (hb : I64 b) :
    Calls Tryd.prog 206 #[.int .i64 a, .int .i64 b] w fun e w' => e = .returned (.tuple #[.int .i64 (Cal.addV a b), .int .i64 (Cal.addE a b)]) ∧ w = w' := by
  obtain ⟨ha1, ha2⟩ := ha
  obtain ⟨hb1, hb2⟩ := hb
  go_enter Tryd.func206, Tryd.ntmps206
  have k1 : 0 ≤ IntKind.u64.wrap a := by rw [IntKind.wrap_u64]; omega
  have k2 : 0 ≤ IntKind.u64.wrap b := by rw [IntKind.wrap_u64]; omega
  go_wp2_with (simp only [add64 _ _ k1 k2])
  all_goals go_ret2
  · have h := add_way1 a b ⟨ha1, ha2⟩ ⟨hb1, hb2⟩ ‹_› ‹_›
    exact ⟨ret_ii (add_no _ _ h) (adde_no _ _ h), rfl⟩
  · have h := add_way2 a b ⟨ha1, ha2⟩ ⟨hb1, hb2⟩ ‹_› ‹_›
    exact ⟨ret_ii (by rw [sum_back, IntWalk.wrap64_in _ h]; exact add_ok _ _ h.1 h.2) (adde_ok _ _ h.1 h.2), rfl⟩
  · have h' : ¬(a < 0 ↔ b < 0) := by assumption
    have h : -9223372036854775808 ≤ a + b ∧ a + b ≤ 9223372036854775807 := by omega
    exact ⟨ret_ii (by rw [sum_back, IntWalk.wrap64_in _ h]; exact add_ok _ _ h.1 h.2) (adde_ok _ _ h.1 h.2), rfl⟩
theorem ret_u {a b : Int} (h : a = b) : Ending.returned (.int .u64 a) = .returned (.int .u64 b) := by rw [h]
theorem exact_size (a : Int) (w : World) (ha : I64 a) :
    Calls Tryd.prog 208 #[.int .i64 a] w fun e w' => e = .returned (.int .u64 ((a.natAbs : Nat) : Int)) ∧ w = w' := by
  obtain ⟨ha1, ha2⟩ := ha
  go_enter Tryd.func208, Tryd.ntmps208
  go_wp2
  all_goals go_ret
  · have h : a < 0 := by assumption
    exact ⟨ret_u (by rw [IntKind.wrap_u64, IntKind.wrap_u64]; omega), rfl⟩
  · have h : 0 ≤ a := by assumption
    exact ⟨ret_u (by omega), rfl⟩
theorem mul_quo (a b : Int) (ha : I64 a) (hb : I64 b) (b0 : b ≠ 0) (hx : ¬(a = -9223372036854775808 ∧ b = -1)) :
    (wrap64 ((wrap64 (a * b)).tdiv b) = a → Cal.fits (a * b) = true) ∧ (Cal.fits (a * b) = true → wrap64 ((wrap64 (a * b)).tdiv b) = a) := by
  obtain ⟨ha1, ha2⟩ := ha
  obtain ⟨hb1, hb2⟩ := hb
  constructor
  · intro h
    have hp : -9223372036854775808 ≤ wrap64 (a * b) ∧ wrap64 (a * b) ≤ 9223372036854775807 := by unfold wrap64; omega
    have h1 := Int.tmod_add_mul_tdiv (wrap64 (a * b)) b
    have h2 : ((wrap64 (a * b)).tdiv b).natAbs = (wrap64 (a * b)).natAbs / b.natAbs := Int.natAbs_tdiv _ _
    have h3 : ((wrap64 (a * b)).tmod b).natAbs = (wrap64 (a * b)).natAbs % b.natAbs := Int.natAbs_tmod _ _
    have h4 : (wrap64 (a * b)).natAbs % b.natAbs < b.natAbs := Nat.mod_lt _ (by omega)
    have h5 : (wrap64 (a * b)).natAbs / b.natAbs ≤ (wrap64 (a * b)).natAbs := Nat.div_le_self _ _
    have h6 : b.natAbs ≠ 1 → (wrap64 (a * b)).natAbs / b.natAbs ≤ 4611686018427387904 := fun hne =>
      Nat.le_trans (Nat.div_le_div_left (show 2 ≤ b.natAbs by omega) (by omega)) (by omega)
    have hm : wrap64 (a * b) = (a * b + 9223372036854775808) % 18446744073709551616 - 9223372036854775808 := by unfold wrap64; rfl
    generalize hq : (wrap64 (a * b)).tdiv b = q at *
    generalize hr : (wrap64 (a * b)).tmod b = r at *
    generalize hpp : wrap64 (a * b) = pp at *
    have hqa : q = a := by
      have hw : q = 9223372036854775808 ∨ (-9223372036854775808 ≤ q ∧ q ≤ 9223372036854775807) := by omega
      rcases hw with hw | hw
      · exfalso
        have h7 : b.natAbs = 1 := by
          by_cases h8 : b.natAbs = 1
          · exact h8
          · have := h6 h8; omega
        have h9 : b = 1 ∨ b = -1 := by omega
        rcases h9 with rfl | rfl
        · omega
        · apply hx
          refine ⟨?_, rfl⟩
          rw [← h, hw]
          decide +kernel
      · rw [← h, IntWalk.wrap64_in _ hw]
    subst hqa
    rw [Int.mul_comm b q] at h1
    generalize q * b = m at *
    exact fits_yes (by omega) (by omega)
  · intro h
    simp only [Cal.fits, Bool.and_eq_true, decide_eq_true_eq] at h
    rw [IntWalk.wrap64_in (a * b) h, Int.mul_tdiv_cancel _ b0, IntWalk.wrap64_in _ ⟨ha1, ha2⟩]
theorem mul_no (a b : Int) (h : Cal.fits (a * b) = false) : 0 = Cal.mulV a b ∧ 6 = Cal.mulE a b := by
  rw [Cal.mulV, Cal.mulE, h]; exact ⟨rfl, rfl⟩
theorem mul_yes (a b : Int) (h : Cal.fits (a * b) = true) : a * b = Cal.mulV a b ∧ 0 = Cal.mulE a b := by
  rw [Cal.mulV, Cal.mulE, h]; exact ⟨rfl, rfl⟩
end Go.Proofs.YtncckpfenjokmaaDoor
