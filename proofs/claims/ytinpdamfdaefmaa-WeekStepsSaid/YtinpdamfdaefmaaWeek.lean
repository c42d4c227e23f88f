/- Layer 12: weekdays near a day: contracts. -/
import Derived.Test.YtinpdamfdaefmaaMolad
import Derived.LoopTactic
namespace Go.Proofs.Ytinpdamfdaefmaa
open Go.ChangeShapes Go.WideShapes Go.ChangeAt Go.RowKit
set_option linter.unusedVariables false
def Day12 (d : Int) : Prop := -2199023255552 ≤ d ∧ d ≤ 2199023255552

theorem week_is_yes (v : Int) (w : World) (h0 : 0 ≤ v) (h1 : v ≤ 6) : Calls Try.prog 31 #[.int .i64 v] w fun e w' => e = .returned (.bool true) ∧ w = w' := by
  go_enter Try.func31, Try.ntmps31
  go_wp2_with fail
  go_ret
  exact ⟨ret_b (by first | rfl | (simp; done) | (simp; omega)), rfl⟩
theorem week_is_no (v : Int) (w : World) (h : v < 0 ∨ 6 < v) : Calls Try.prog 31 #[.int .i64 v] w fun e w' => e = .returned (.bool false) ∧ w = w' := by
  rcases (show v < 0 ∨ (0 ≤ v ∧ 6 < v) by omega) with c | ⟨c0, c⟩
  · skip
    go_enter Try.func31, Try.ntmps31
    go_wp2_with fail
    go_ret
    exact ⟨ret_b (by simp; try omega), rfl⟩
  · skip
    go_enter Try.func31, Try.ntmps31
    go_wp2_with fail
    go_ret
    exact ⟨ret_b (by simp; try omega), rfl⟩

theorem ref12_is_yes (v : Int) (w : World) (h0 : 0 ≤ v) (h1 : v ≤ 6) : Calls Try.prog 33 #[.int .i64 v] w fun e w' => e = .returned (.bool true) ∧ w = w' := by
  go_enter Try.func33, Try.ntmps33
  go_wp2_with fail
  go_ret
  exact ⟨ret_b (by first | rfl | (simp; done) | (simp; omega)), rfl⟩
theorem ref12_is_no (v : Int) (w : World) (h : v < 0 ∨ 6 < v) : Calls Try.prog 33 #[.int .i64 v] w fun e w' => e = .returned (.bool false) ∧ w = w' := by
  rcases (show v < 0 ∨ (0 ≤ v ∧ 6 < v) by omega) with c | ⟨c0, c⟩
  · skip
    go_enter Try.func33, Try.ntmps33
    go_wp2_with fail
    go_ret
    exact ⟨ret_b (by simp; try omega), rfl⟩
  · skip
    go_enter Try.func33, Try.ntmps33
    go_wp2_with fail
    go_ret
    exact ⟨ret_b (by simp; try omega), rfl⟩

theorem week_From_no (d v : Int) (w : World) (h : v < 0 ∨ 6 < v) : Calls Try.prog 22 #[.int .i64 d, .int .i64 v] w fun e w' => e = .returned (.int .i64 d) ∧ w = w' := by
  go_enter Try.func22, Try.ntmps22
  go_wp2_with fail
  refine (week_is_no v _ h).mono ?_
  rintro e w' ⟨rfl, rfl⟩
  go_wp2_with fail
  go_ret
  exact ⟨rfl, rfl⟩

theorem week_Upto_no (d v : Int) (w : World) (h : v < 0 ∨ 6 < v) : Calls Try.prog 24 #[.int .i64 d, .int .i64 v] w fun e w' => e = .returned (.int .i64 d) ∧ w = w' := by
  go_enter Try.func24, Try.ntmps24
  go_wp2_with fail
  refine (week_is_no v _ h).mono ?_
  rintro e w' ⟨rfl, rfl⟩
  go_wp2_with fail
  go_ret
  exact ⟨rfl, rfl⟩

theorem ref12_From_no (d v : Int) (w : World) (h : v < 0 ∨ 6 < v) : Calls Try.prog 23 #[.int .i64 d, .int .i64 v] w fun e w' => e = .returned (.int .i64 d) ∧ w = w' := by
  go_enter Try.func23, Try.ntmps23
  go_wp2_with fail
  refine (ref12_is_no v _ h).mono ?_
  rintro e w' ⟨rfl, rfl⟩
  go_wp2_with fail
  go_ret
  exact ⟨rfl, rfl⟩

theorem ref12_Upto_no (d v : Int) (w : World) (h : v < 0 ∨ 6 < v) : Calls Try.prog 25 #[.int .i64 d, .int .i64 v] w fun e w' => e = .returned (.int .i64 d) ∧ w = w' := by
  go_enter Try.func25, Try.ntmps25
  go_wp2_with fail
  refine (ref12_is_no v _ h).mono ?_
  rintro e w' ⟨rfl, rfl⟩
  go_wp2_with fail
  go_ret
  exact ⟨rfl, rfl⟩

theorem week_From_ok (d v a : Int) (w : World) (hd : Day12 d) (h0 : 0 ≤ v) (h1 : v ≤ 6) (ha : d + (v - d) % 7 = a) : Calls Try.prog 22 #[.int .i64 d, .int .i64 v] w fun e w' => e = .returned (.int .i64 a) ∧ w = w' := by
  obtain ⟨d1, d2⟩ := hd
  have k1 : 0 ≤ d % 7 := by omega
  have k2 : d % 7 < 7 := by omega
  have k3 : 0 ≤ (v - d) % 7 := by omega
  have k4 : (v - d) % 7 < 7 := by omega
  have H1 := Lib.hid (fun w => molad_Weekday d w ⟨by omega, by omega⟩)
  have h2 := fun w => molad_Weekday (v - d % 7) w ⟨by omega, by omega⟩
  rw [show (v - d % 7) % 7 = (v - d) % 7 by omega] at h2
  have H2 := Lib.hid h2
  clear h2
  have HA := Lib.hid ha
  clear ha
  go_enter Try.func22, Try.ntmps22
  go_wp2_with fail
  refine (week_is_yes v _ h0 h1).mono ?_
  rintro e w' ⟨rfl, rfl⟩
  go_wp2_with fail
  refine (H1.out _).mono ?_
  rintro e w' ⟨rfl, rfl⟩
  go_wp2_with fail
  refine (H2.out _).mono ?_
  rintro e w' ⟨rfl, rfl⟩
  go_wp2_with fail
  go_ret
  exact ⟨ret_i HA.out, rfl⟩

theorem week_Upto_ok (d v a : Int) (w : World) (hd : Day12 d) (h0 : 0 ≤ v) (h1 : v ≤ 6) (ha : d - (d - v) % 7 = a) : Calls Try.prog 24 #[.int .i64 d, .int .i64 v] w fun e w' => e = .returned (.int .i64 a) ∧ w = w' := by
  obtain ⟨d1, d2⟩ := hd
  have k1 : 0 ≤ d % 7 := by omega
  have k2 : d % 7 < 7 := by omega
  have k3 : 0 ≤ (d - v) % 7 := by omega
  have k4 : (d - v) % 7 < 7 := by omega
  have H1 := Lib.hid (fun w => molad_Weekday d w ⟨by omega, by omega⟩)
  have h2 := fun w => molad_Weekday (d % 7 - v) w ⟨by omega, by omega⟩
  rw [show (d % 7 - v) % 7 = (d - v) % 7 by omega] at h2
  have H2 := Lib.hid h2
  clear h2
  have HA := Lib.hid ha
  clear ha
  go_enter Try.func24, Try.ntmps24
  go_wp2_with fail
  refine (week_is_yes v _ h0 h1).mono ?_
  rintro e w' ⟨rfl, rfl⟩
  go_wp2_with fail
  refine (H1.out _).mono ?_
  rintro e w' ⟨rfl, rfl⟩
  go_wp2_with fail
  refine (H2.out _).mono ?_
  rintro e w' ⟨rfl, rfl⟩
  go_wp2_with fail
  go_ret
  exact ⟨ret_i HA.out, rfl⟩

theorem ref12_From_ok (d v a : Int) (w : World) (hd : Day12 d) (h0 : 0 ≤ v) (h1 : v ≤ 6) (ha : d + (v - d) % 7 = a) : Calls Try.prog 23 #[.int .i64 d, .int .i64 v] w fun e w' => e = .returned (.int .i64 a) ∧ w = w' := by
  obtain ⟨d1, d2⟩ := hd
  have HA := Lib.hid ha
  clear ha
  go_enter Try.func23, Try.ntmps23
  go_wp2_with fail
  refine (ref12_is_yes v _ h0 h1).mono ?_
  rintro e w' ⟨rfl, rfl⟩
  go_wp2_with fail
  go_loop [0] (fun i => ∃ n : Nat, n ≤ 6 ∧ i = .int .i64 (d + n) ∧ Hid ((n : Int) ≤ (v - d) % 7)) (fun i => (d + 7 - intOf i).toNat)
  case atStart => exact ⟨0, by omega, by simp, Lib.hid (by simp; omega)⟩
  case round =>
    obtain ⟨n, hn, rfl, hk⟩ := hrel
    have H1 := Lib.hid (fun w => ref4_Weekday (d + n) w)
    by_cases c : (d + n) % 7 = v
    · rw [c] at H1
      have HC : Hid (d + n = a) := Lib.hid (by have := HA.out; have := hk.out; omega)
      clear c
      go_wp2_with fail
      refine (H1.out _).mono ?_
      rintro e w' ⟨rfl, rfl⟩
      go_wp2_with fail
      go_ret
      exact ⟨ret_i HC.out, rfl⟩
    · have k1 : 0 ≤ (d + n) % 7 := by omega
      have HK : Hid (((n + 1 : Nat) : Int) ≤ (v - d) % 7) := Lib.hid (by have := hk.out; omega)
      have hn6 : n < 6 := by have := HK.out; omega
      generalize hg : (d + n) % 7 = r at *
      clear hg
      go_wp2_with fail
      refine (H1.out _).mono ?_
      rintro e w' ⟨rfl, rfl⟩
      go_wp2_with fail
      go_round
      case rel => exact ⟨n + 1, by omega, by go_num, HK⟩
      case measure => simp [intOf]; omega

theorem ref12_Upto_ok (d v a : Int) (w : World) (hd : Day12 d) (h0 : 0 ≤ v) (h1 : v ≤ 6) (ha : d - (d - v) % 7 = a) : Calls Try.prog 25 #[.int .i64 d, .int .i64 v] w fun e w' => e = .returned (.int .i64 a) ∧ w = w' := by
  obtain ⟨d1, d2⟩ := hd
  have HA := Lib.hid ha
  clear ha
  go_enter Try.func25, Try.ntmps25
  go_wp2_with fail
  refine (ref12_is_yes v _ h0 h1).mono ?_
  rintro e w' ⟨rfl, rfl⟩
  go_wp2_with fail
  go_loop [0] (fun i => ∃ n : Nat, n ≤ 6 ∧ i = .int .i64 (d - n) ∧ Hid ((n : Int) ≤ (d - v) % 7)) (fun i => (intOf i - (d - 7)).toNat)
  case atStart => exact ⟨0, by omega, by simp, Lib.hid (by simp; omega)⟩
  case round =>
    obtain ⟨n, hn, rfl, hk⟩ := hrel
    have H1 := Lib.hid (fun w => ref4_Weekday (d - n) w)
    by_cases c : (d - n) % 7 = v
    · rw [c] at H1
      have HC : Hid (d - n = a) := Lib.hid (by have := HA.out; have := hk.out; omega)
      clear c
      go_wp2_with fail
      refine (H1.out _).mono ?_
      rintro e w' ⟨rfl, rfl⟩
      go_wp2_with fail
      go_ret
      exact ⟨ret_i HC.out, rfl⟩
    · have k1 : 0 ≤ (d - n) % 7 := by omega
      have HK : Hid (((n + 1 : Nat) : Int) ≤ (d - v) % 7) := Lib.hid (by have := hk.out; omega)
      have hn6 : n < 6 := by have := HK.out; omega
      generalize hg : (d - n) % 7 = r at *
      clear hg
      go_wp2_with fail
      refine (H1.out _).mono ?_
      rintro e w' ⟨rfl, rfl⟩
      go_wp2_with fail
      go_round
      case rel => exact ⟨n + 1, by omega, by go_num, HK⟩
      case measure => simp [intOf]; omega

theorem week_Count_no (f t v : Int) (w : World) (h : v < 0 ∨ 6 < v) : Calls Try.prog 26 #[.int .i64 f, .int .i64 t, .int .i64 v] w fun e w' => e = .returned (.int .i64 0) ∧ w = w' := by
  go_enter Try.func26, Try.ntmps26
  go_wp2_with fail
  refine (week_From_no f v _ h).mono ?_
  rintro e w' ⟨rfl, rfl⟩
  go_wp2_with fail
  refine (week_is_no v _ h).mono ?_
  rintro e w' ⟨rfl, rfl⟩
  go_wp2_with fail
  go_ret
  exact ⟨rfl, rfl⟩
theorem week_Count_zero (f t v a : Int) (w : World) (hf : Day12 f) (h0 : 0 ≤ v) (h1 : v ≤ 6) (ha : f + (v - f) % 7 = a) (h : t < a) : Calls Try.prog 26 #[.int .i64 f, .int .i64 t, .int .i64 v] w fun e w' => e = .returned (.int .i64 0) ∧ w = w' := by
  have H1 := Lib.hid (fun w => week_From_ok f v a w hf h0 h1 ha)
  clear ha
  go_enter Try.func26, Try.ntmps26
  go_wp2_with fail
  refine (H1.out _).mono ?_
  rintro e w' ⟨rfl, rfl⟩
  go_wp2_with fail
  refine (week_is_yes v _ h0 h1).mono ?_
  rintro e w' ⟨rfl, rfl⟩
  go_wp2_with fail
  go_ret
  exact ⟨rfl, rfl⟩
theorem week_Count_ok (f t v a : Int) (w : World) (hf : Day12 f) (ht : Day12 t) (h0 : 0 ≤ v) (h1 : v ≤ 6) (ha : f + (v - f) % 7 = a) (h : a ≤ t) : Calls Try.prog 26 #[.int .i64 f, .int .i64 t, .int .i64 v] w fun e w' => e = .returned (.int .i64 ((t - a) / 7 + 1)) ∧ w = w' := by
  have H1 := Lib.hid (fun w => week_From_ok f v a w hf h0 h1 ha)
  have b1 : f ≤ a := by omega
  obtain ⟨f1, f2⟩ := hf
  obtain ⟨t1, t2⟩ := ht
  clear ha
  go_enter Try.func26, Try.ntmps26
  go_wp2_with fail
  refine (H1.out _).mono ?_
  rintro e w' ⟨rfl, rfl⟩
  go_wp2_with fail
  refine (week_is_yes v _ h0 h1).mono ?_
  rintro e w' ⟨rfl, rfl⟩
  go_wp2_with fail
  go_ret
  exact ⟨rfl, rfl⟩
theorem ref12_Count_no (f t v : Int) (w : World) (h : v < 0 ∨ 6 < v) : Calls Try.prog 27 #[.int .i64 f, .int .i64 t, .int .i64 v] w fun e w' => e = .returned (.int .i64 0) ∧ w = w' := by
  go_enter Try.func27, Try.ntmps27
  go_wp2_with fail
  refine (ref12_is_no v _ h).mono ?_
  rintro e w' ⟨rfl, rfl⟩
  go_wp2_with fail
  go_ret
  exact ⟨rfl, rfl⟩
theorem ref12_Count_zero (f t v a : Int) (w : World) (hf : Day12 f) (ht : Day12 t) (h0 : 0 ≤ v) (h1 : v ≤ 6) (ha : f + (v - f) % 7 = a) (h : t < a) : Calls Try.prog 27 #[.int .i64 f, .int .i64 t, .int .i64 v] w fun e w' => e = .returned (.int .i64 0) ∧ w = w' := by
  by_cases c : t < f
  · clear ha
    go_enter Try.func27, Try.ntmps27
    go_wp2_with fail
    refine (ref12_is_yes v _ h0 h1).mono ?_
    rintro e w' ⟨rfl, rfl⟩
    go_wp2_with fail
    go_ret
    exact ⟨rfl, rfl⟩
  · have H1 := Lib.hid (fun w => ref12_From_ok f v a w hf h0 h1 ha)
    obtain ⟨b, hb⟩ : ∃ b, t - (t - v) % 7 = b := ⟨_, rfl⟩
    have H2 := Lib.hid (fun w => ref12_Upto_ok t v b w ht h0 h1 hb)
    have hba : b < a := by omega
    clear ha hb
    go_enter Try.func27, Try.ntmps27
    go_wp2_with fail
    refine (ref12_is_yes v _ h0 h1).mono ?_
    rintro e w' ⟨rfl, rfl⟩
    go_wp2_with fail
    refine (H1.out _).mono ?_
    rintro e w' ⟨rfl, rfl⟩
    go_wp2_with fail
    refine (H2.out _).mono ?_
    rintro e w' ⟨rfl, rfl⟩
    go_wp2_with fail
    go_ret
    exact ⟨rfl, rfl⟩
theorem ref12_Count_ok (f t v a : Int) (w : World) (hf : Day12 f) (ht : Day12 t) (h0 : 0 ≤ v) (h1 : v ≤ 6) (ha : f + (v - f) % 7 = a) (h : a ≤ t) : Calls Try.prog 27 #[.int .i64 f, .int .i64 t, .int .i64 v] w fun e w' => e = .returned (.int .i64 ((t - a) / 7 + 1)) ∧ w = w' := by
  have H1 := Lib.hid (fun w => ref12_From_ok f v a w hf h0 h1 ha)
  obtain ⟨b, hb⟩ : ∃ b, t - (t - v) % 7 = b := ⟨_, rfl⟩
  have H2 := Lib.hid (fun w => ref12_Upto_ok t v b w ht h0 h1 hb)
  have hba : a ≤ b := by omega
  have hbt : b ≤ t := by omega
  have hfa : f ≤ a := by omega
  have he : Hid ((b - a) / 7 = (t - a) / 7) := Lib.hid (by omega)
  obtain ⟨f1, f2⟩ := hf
  obtain ⟨t1, t2⟩ := ht
  clear ha hb
  go_enter Try.func27, Try.ntmps27
  go_wp2_with fail
  refine (ref12_is_yes v _ h0 h1).mono ?_
  rintro e w' ⟨rfl, rfl⟩
  go_wp2_with fail
  refine (H1.out _).mono ?_
  rintro e w' ⟨rfl, rfl⟩
  go_wp2_with fail
  refine (H2.out _).mono ?_
  rintro e w' ⟨rfl, rfl⟩
  go_wp2_with fail
  go_ret
  exact ⟨ret_i (by rw [he.out]), rfl⟩
end Go.Proofs.Ytinpdamfdaefmaa
