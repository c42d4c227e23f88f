/- Layer 12: the walks of its laws. -/
import Derived.Test.YtinpdamfdaefmaaWeek
namespace Go.Proofs.Ytinpdamfdaefmaa
open Go.ChangeShapes Go.WideShapes Go.ChangeAt Go.RowKit
set_option linter.unusedVariables false

theorem awake12 (w : World) : Calls Try.prog 21 #[] w fun e w' => e = .returned (.bool true) ∧ w = w' := by
  go_enter Try.func21, Try.ntmps21
  go_wp2_with fail
  refine (week_From_ok 739162 6 739164 _ ⟨by omega, by omega⟩ (by omega) (by omega) (by decide)).mono ?_
  rintro e w' ⟨rfl, rfl⟩
  go_wp2_with fail
  refine (week_Upto_ok 739162 6 739157 _ ⟨by omega, by omega⟩ (by omega) (by omega) (by decide)).mono ?_
  rintro e w' ⟨rfl, rfl⟩
  go_wp2_with fail
  refine (week_Count_ok 739162 739171 6 739164 _ ⟨by omega, by omega⟩ ⟨by omega, by omega⟩ (by omega) (by omega) (by decide) (by omega)).mono ?_
  rintro e w' ⟨rfl, rfl⟩
  go_wp2_with fail
  go_ret
  exact ⟨rfl, rfl⟩
theorem WeekTells_in (d t v : Int) (w : World) (d1 : -1099511627776 ≤ d) (d2 : d ≤ 1099511627776) (t1 : -1099511627776 ≤ t) (t2 : t ≤ 1099511627776) :
    Calls Try.prog 5 #[.int .i64 d, .int .i64 t, .int .i64 v] w fun e w' => e = .returned (.bool true) ∧ Below w.heap.size w w' := by
  have D : Day12 d := ⟨by omega, by omega⟩
  have T : Day12 t := ⟨by omega, by omega⟩
  by_cases c : v < 0 ∨ 6 < v
  · have C := Lib.hid c
    clear c
    go_enter Try.func5, Try.ntmps5
    go_wp2_with fail
    refine (awake12 _).mono ?_
    rintro e w' ⟨rfl, rfl⟩
    go_wp2_with fail
    refine (week_From_no d v _ C.out).mono ?_
    rintro e w' ⟨rfl, rfl⟩
    go_wp2_with fail
    refine (ref12_From_no d v _ C.out).mono ?_
    rintro e w' ⟨rfl, rfl⟩
    go_wp2_with fail
    refine (week_Upto_no d v _ C.out).mono ?_
    rintro e w' ⟨rfl, rfl⟩
    go_wp2_with fail
    refine (ref12_Upto_no d v _ C.out).mono ?_
    rintro e w' ⟨rfl, rfl⟩
    go_wp2_with fail
    refine (week_Count_no d t v _ C.out).mono ?_
    rintro e w' ⟨rfl, rfl⟩
    go_wp2_with fail
    refine (ref12_Count_no d t v _ C.out).mono ?_
    rintro e w' ⟨rfl, rfl⟩
    go_wp2_with fail
    go_ret
    exact ⟨rfl, Below.refl _ _⟩
  · obtain ⟨a, ha⟩ : ∃ a, d + (v - d) % 7 = a := ⟨_, rfl⟩
    obtain ⟨b, hb⟩ : ∃ b, d - (d - v) % 7 = b := ⟨_, rfl⟩
    have h0 : 0 ≤ v := by omega
    have h1 : v ≤ 6 := by omega
    have A1 := Lib.hid (fun w => week_From_ok d v a w D h0 h1 ha)
    have A2 := Lib.hid (fun w => ref12_From_ok d v a w D h0 h1 ha)
    have B1 := Lib.hid (fun w => week_Upto_ok d v b w D h0 h1 hb)
    have B2 := Lib.hid (fun w => ref12_Upto_ok d v b w D h0 h1 hb)
    by_cases cc : t < a
    · have C1 := Lib.hid (fun w => week_Count_zero d t v a w D h0 h1 ha cc)
      have C2 := Lib.hid (fun w => ref12_Count_zero d t v a w D T h0 h1 ha cc)
      clear ha hb c
      go_enter Try.func5, Try.ntmps5
      go_wp2_with fail
      refine (awake12 _).mono ?_
      rintro e w' ⟨rfl, rfl⟩
      go_wp2_with fail
      refine (A1.out _).mono ?_
      rintro e w' ⟨rfl, rfl⟩
      go_wp2_with fail
      refine (A2.out _).mono ?_
      rintro e w' ⟨rfl, rfl⟩
      go_wp2_with fail
      refine (B1.out _).mono ?_
      rintro e w' ⟨rfl, rfl⟩
      go_wp2_with fail
      refine (B2.out _).mono ?_
      rintro e w' ⟨rfl, rfl⟩
      go_wp2_with fail
      refine (C1.out _).mono ?_
      rintro e w' ⟨rfl, rfl⟩
      go_wp2_with fail
      refine (C2.out _).mono ?_
      rintro e w' ⟨rfl, rfl⟩
      go_wp2_with fail
      go_ret
      exact ⟨rfl, Below.refl _ _⟩
    · have cc' : a ≤ t := by omega
      have C1 := Lib.hid (fun w => week_Count_ok d t v a w D T h0 h1 ha cc')
      have C2 := Lib.hid (fun w => ref12_Count_ok d t v a w D T h0 h1 ha cc')
      clear ha hb c
      generalize (t - a) / 7 + 1 = m at *
      go_enter Try.func5, Try.ntmps5
      go_wp2_with fail
      refine (awake12 _).mono ?_
      rintro e w' ⟨rfl, rfl⟩
      go_wp2_with fail
      refine (A1.out _).mono ?_
      rintro e w' ⟨rfl, rfl⟩
      go_wp2_with fail
      refine (A2.out _).mono ?_
      rintro e w' ⟨rfl, rfl⟩
      go_wp2_with fail
      refine (B1.out _).mono ?_
      rintro e w' ⟨rfl, rfl⟩
      go_wp2_with fail
      refine (B2.out _).mono ?_
      rintro e w' ⟨rfl, rfl⟩
      go_wp2_with fail
      refine (C1.out _).mono ?_
      rintro e w' ⟨rfl, rfl⟩
      go_wp2_with fail
      refine (C2.out _).mono ?_
      rintro e w' ⟨rfl, rfl⟩
      go_wp2_with fail
      go_ret
      exact ⟨rfl, Below.refl _ _⟩
theorem WeekTells_walk (d t v : Int) (hd : I64 d) (ht : I64 t) (hv : I64 v) (w : World) :
    Calls Try.prog 5 #[.int .i64 d, .int .i64 t, .int .i64 v] w fun e w' => e = .returned (.bool true) ∧ Below w.heap.size w w' := by
  rcases (show d < -1099511627776 ∨ (-1099511627776 ≤ d ∧ 1099511627776 < d) ∨ (-1099511627776 ≤ d ∧ d ≤ 1099511627776 ∧ t < -1099511627776) ∨ (-1099511627776 ≤ d ∧ d ≤ 1099511627776 ∧ -1099511627776 ≤ t ∧ 1099511627776 < t) ∨ (-1099511627776 ≤ d ∧ d ≤ 1099511627776 ∧ -1099511627776 ≤ t ∧ t ≤ 1099511627776) by omega) with c | c | c | c | c
  · obtain c1 := c
    go_enter Try.func5, Try.ntmps5
    go_wp2_with fail
    refine (awake12 _).mono ?_
    rintro e w' ⟨rfl, rfl⟩
    go_wp2_with fail
    go_ret
    exact ⟨rfl, Below.refl _ _⟩
  · obtain ⟨c1, c2⟩ := c
    go_enter Try.func5, Try.ntmps5
    go_wp2_with fail
    refine (awake12 _).mono ?_
    rintro e w' ⟨rfl, rfl⟩
    go_wp2_with fail
    go_ret
    exact ⟨rfl, Below.refl _ _⟩
  · obtain ⟨c1, c2, c3⟩ := c
    go_enter Try.func5, Try.ntmps5
    go_wp2_with fail
    refine (awake12 _).mono ?_
    rintro e w' ⟨rfl, rfl⟩
    go_wp2_with fail
    go_ret
    exact ⟨rfl, Below.refl _ _⟩
  · obtain ⟨c1, c2, c3, c4⟩ := c
    go_enter Try.func5, Try.ntmps5
    go_wp2_with fail
    refine (awake12 _).mono ?_
    rintro e w' ⟨rfl, rfl⟩
    go_wp2_with fail
    go_ret
    exact ⟨rfl, Below.refl _ _⟩
  · exact WeekTells_in d t v w c.1 c.2.1 c.2.2.1 c.2.2.2

theorem WeekNear_at (d v m a b r : Int) (D : Day12 d) (m1 : 0 ≤ m) (m2 : m ≤ 255) (h0 : 0 ≤ v) (h1 : v ≤ 6) (d1 : -2147483648 ≤ d) (d2 : d ≤ 2147483647)
    (ha : d + (v - d) % 7 = a) (hb : d - (d - v) % 7 = b) :
    (a % 7 = v ∧ b % 7 = v ∧ d ≤ a ∧ a < d + 7 ∧ b ≤ d ∧ d - 7 < b ∧ ((a = b) ↔ (d % 7 = v))) ∧
    ∀ w, Calls Try.prog 26 #[.int .i64 d, .int .i64 (d + 7 * m - 1), .int .i64 v] w fun e w' => e = .returned (.int .i64 m) ∧ w = w' := by
  refine ⟨⟨by omega, by omega, by omega, by omega, by omega, by omega, by omega⟩, fun w => ?_⟩
  by_cases c : m = 0
  · subst c
    exact week_Count_zero d (d + 7 * 0 - 1) v a w D h0 h1 ha (by omega)
  · have := week_Count_ok d (d + 7 * m - 1) v a w D ⟨by omega, by omega⟩ h0 h1 ha (by omega)
    rwa [show (d + 7 * m - 1 - a) / 7 + 1 = m by omega] at this
theorem WeekNear_walk (d x m : Int) (hd : -2147483648 ≤ d ∧ d ≤ 2147483647) (hv : 0 ≤ x ∧ x ≤ 255) (hm : 0 ≤ m ∧ m ≤ 255) (w : World) :
    Calls Try.prog 6 #[.int .i32 d, .int .u8 x, .int .u8 m] w fun e w' => e = .returned (.bool true) ∧ Below w.heap.size w w' := by
  obtain ⟨d1, d2⟩ := hd
  obtain ⟨v1, v2⟩ := hv
  have D : Day12 d := ⟨by omega, by omega⟩
  have k1 : 0 ≤ x % 7 := by omega
  have k2 : x % 7 < 7 := by omega
  obtain ⟨v, hv⟩ : ∃ v, x % 7 = v := ⟨_, rfl⟩
  have h0 : 0 ≤ v := by omega
  have h1 : v ≤ 6 := by omega
  obtain ⟨a, ha⟩ : ∃ a, d + (v - d) % 7 = a := ⟨_, rfl⟩
  obtain ⟨b, hb⟩ : ∃ b, d - (d - v) % 7 = b := ⟨_, rfl⟩
  have A1 := Lib.hid (fun w => week_From_ok d v a w D h0 h1 ha)
  have B1 := Lib.hid (fun w => week_Upto_ok d v b w D h0 h1 hb)
  obtain ⟨m1, m2⟩ := hm
  obtain ⟨⟨e1, e2, e3, e4, e5, e6, e7⟩, C⟩ := WeekNear_at d v m a b 0 D m1 m2 h0 h1 d1 d2 ha hb
  have C1 := Lib.hid C
  have W1 := Lib.hid (fun w => ref4_Weekday a w)
  have W2 := Lib.hid (fun w => ref4_Weekday b w)
  have W3 := Lib.hid (fun w => ref4_Weekday d w)
  rw [e1] at W1
  rw [e2] at W2
  have E : Hid ((a == b) = (d % 7 == v)) := Lib.hid (by rw [Bool.eq_iff_iff, beq_iff_eq, beq_iff_eq]; exact e7)
  clear ha hb C e1 e2 e7
  go_enter Try.func6, Try.ntmps6
  go_wp2_with fail
  generalize x % 7 = v' at *
  subst hv
  generalize d % 7 = r at *
  refine (A1.out _).mono ?_
  rintro e w' ⟨rfl, rfl⟩
  go_wp2_with fail
  refine (B1.out _).mono ?_
  rintro e w' ⟨rfl, rfl⟩
  go_wp2_with fail
  refine (awake12 _).mono ?_
  rintro e w' ⟨rfl, rfl⟩
  go_wp2_with fail
  refine (W1.out _).mono ?_
  rintro e w' ⟨rfl, rfl⟩
  go_wp2_with fail
  refine (W2.out _).mono ?_
  rintro e w' ⟨rfl, rfl⟩
  go_wp2_with fail
  refine (W3.out _).mono ?_
  rintro e w' ⟨rfl, rfl⟩
  go_wp2_with fail
  refine (C1.out _).mono ?_
  rintro e w' ⟨rfl, rfl⟩
  go_wp2_with fail
  go_ret
  exact ⟨rfl, Below.refl _ _⟩
theorem WeekSteps_walk (d x : Int) (hd : -2147483648 ≤ d ∧ d ≤ 2147483647) (hv : 0 ≤ x ∧ x ≤ 255) (w : World) :
    Calls Try.prog 7 #[.int .i32 d, .int .u8 x] w fun e w' => e = .returned (.bool true) ∧ Below w.heap.size w w' := by
  obtain ⟨d1, d2⟩ := hd
  obtain ⟨v1, v2⟩ := hv
  have D : Day12 d := ⟨by omega, by omega⟩
  have k1 : 0 ≤ x % 7 := by omega
  have k2 : x % 7 < 7 := by omega
  obtain ⟨v, hv⟩ : ∃ v, x % 7 = v := ⟨_, rfl⟩
  have h0 : 0 ≤ v := by omega
  have h1 : v ≤ 6 := by omega
  obtain ⟨a, ha⟩ : ∃ a, d + (v - d) % 7 = a := ⟨_, rfl⟩
  obtain ⟨b, hb⟩ : ∃ b, d - (d - v) % 7 = b := ⟨_, rfl⟩
  have A1 := Lib.hid (fun w => week_From_ok d v a w D h0 h1 ha)
  have B1 := Lib.hid (fun w => week_Upto_ok d v b w D h0 h1 hb)
  have a1 : d ≤ a := by omega
  have a2 : a ≤ d + 6 := by omega
  have b1 : d - 6 ≤ b := by omega
  have b2 : b ≤ d := by omega
  have A2 := Lib.hid (fun w => week_From_ok (a + 1) v (a + 7) w ⟨by omega, by omega⟩ h0 h1 (by omega))
  have B2 := Lib.hid (fun w => week_Upto_ok (b - 1) v (b - 7) w ⟨by omega, by omega⟩ h0 h1 (by omega))
  have A3 := Lib.hid (fun w => week_From_ok a v a w ⟨by omega, by omega⟩ h0 h1 (by omega))
  have B3 := Lib.hid (fun w => week_Upto_ok b v b w ⟨by omega, by omega⟩ h0 h1 (by omega))
  clear ha hb
  go_enter Try.func7, Try.ntmps7
  go_wp2_with fail
  generalize x % 7 = v' at *
  subst hv
  refine (A1.out _).mono ?_
  rintro e w' ⟨rfl, rfl⟩
  go_wp2_with fail
  refine (B1.out _).mono ?_
  rintro e w' ⟨rfl, rfl⟩
  go_wp2_with fail
  refine (awake12 _).mono ?_
  rintro e w' ⟨rfl, rfl⟩
  go_wp2_with fail
  refine (A2.out _).mono ?_
  rintro e w' ⟨rfl, rfl⟩
  go_wp2_with fail
  refine (B2.out _).mono ?_
  rintro e w' ⟨rfl, rfl⟩
  go_wp2_with fail
  refine (A3.out _).mono ?_
  rintro e w' ⟨rfl, rfl⟩
  go_wp2_with fail
  refine (B3.out _).mono ?_
  rintro e w' ⟨rfl, rfl⟩
  go_wp2_with fail
  go_ret
  exact ⟨rfl, Below.refl _ _⟩
end Go.Proofs.Ytinpdamfdaefmaa
