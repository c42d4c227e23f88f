/- Layer 12: weekdays near a day: contracts. -/
import Derived.Test.YtjdogojjoekphaaGreatDoorLA
import Derived.LoopTactic
namespace Go.Proofs.YtjdogojjoekphaaGreatDoor
open Go.ChangeShapes Go.WideShapes Go.ChangeAt Go.RowKit
set_option linter.unusedVariables false
set_option maxRecDepth 100000
def Day12 (d : Int) : Prop := -2199023255552 ≤ d ∧ d ≤ 2199023255552

theorem week_is_yes (v : Int) (w : World) (h0 : 0 ≤ v) (h1 : v ≤ 6) : Calls Tryz.prog 69 #[.int .i64 v] w fun e w' => e = .returned (.bool true) ∧ w = w' := by
  go_enter Tryz.func69, Tryz.ntmps69
  go_wp2_with fail
  go_ret
  exact ⟨ret_b (by first | rfl | (simp; done) | (simp; omega)), rfl⟩
theorem week_is_no (v : Int) (w : World) (h : v < 0 ∨ 6 < v) : Calls Tryz.prog 69 #[.int .i64 v] w fun e w' => e = .returned (.bool false) ∧ w = w' := by
  rcases (show v < 0 ∨ (0 ≤ v ∧ 6 < v) by omega) with c | ⟨c0, c⟩
  · skip
    go_enter Tryz.func69, Tryz.ntmps69
    go_wp2_with fail
    go_ret
    exact ⟨ret_b (by simp; try omega), rfl⟩
  · skip
    go_enter Tryz.func69, Tryz.ntmps69
    go_wp2_with fail
    go_ret
    exact ⟨ret_b (by simp; try omega), rfl⟩

theorem ref12_is_yes (v : Int) (w : World) (h0 : 0 ≤ v) (h1 : v ≤ 6) : Calls Tryz.prog 27 #[.int .i64 v] w fun e w' => e = .returned (.bool true) ∧ w = w' := by
  go_enter Tryz.func27, Tryz.ntmps27
  go_wp2_with fail
  go_ret
  exact ⟨ret_b (by first | rfl | (simp; done) | (simp; omega)), rfl⟩
theorem ref12_is_no (v : Int) (w : World) (h : v < 0 ∨ 6 < v) : Calls Tryz.prog 27 #[.int .i64 v] w fun e w' => e = .returned (.bool false) ∧ w = w' := by
  rcases (show v < 0 ∨ (0 ≤ v ∧ 6 < v) by omega) with c | ⟨c0, c⟩
  · skip
    go_enter Tryz.func27, Tryz.ntmps27
    go_wp2_with fail
    go_ret
    exact ⟨ret_b (by simp; try omega), rfl⟩
  · skip
    go_enter Tryz.func27, Tryz.ntmps27
    go_wp2_with fail
    go_ret
    exact ⟨ret_b (by simp; try omega), rfl⟩

theorem week_From_no (d v : Int) (w : World) (h : v < 0 ∨ 6 < v) : Calls Tryz.prog 43 #[.int .i64 d, .int .i64 v] w fun e w' => e = .returned (.int .i64 d) ∧ w = w' := by
  go_enter Tryz.func43, Tryz.ntmps43
  go_wp2_with fail
  refine (week_is_no v _ h).mono ?_
  rintro e w' ⟨rfl, rfl⟩
  go_wp2_with fail
  go_ret
  exact ⟨rfl, rfl⟩

theorem week_Upto_no (d v : Int) (w : World) (h : v < 0 ∨ 6 < v) : Calls Tryz.prog 40 #[.int .i64 d, .int .i64 v] w fun e w' => e = .returned (.int .i64 d) ∧ w = w' := by
  go_enter Tryz.func40, Tryz.ntmps40
  go_wp2_with fail
  refine (week_is_no v _ h).mono ?_
  rintro e w' ⟨rfl, rfl⟩
  go_wp2_with fail
  go_ret
  exact ⟨rfl, rfl⟩

theorem ref12_From_no (d v : Int) (w : World) (h : v < 0 ∨ 6 < v) : Calls Tryz.prog 15 #[.int .i64 d, .int .i64 v] w fun e w' => e = .returned (.int .i64 d) ∧ w = w' := by
  go_enter Tryz.func15, Tryz.ntmps15
  go_wp2_with fail
  refine (ref12_is_no v _ h).mono ?_
  rintro e w' ⟨rfl, rfl⟩
  go_wp2_with fail
  go_ret
  exact ⟨rfl, rfl⟩

theorem ref12_Upto_no (d v : Int) (w : World) (h : v < 0 ∨ 6 < v) : Calls Tryz.prog 25 #[.int .i64 d, .int .i64 v] w fun e w' => e = .returned (.int .i64 d) ∧ w = w' := by
  go_enter Tryz.func25, Tryz.ntmps25
  go_wp2_with fail
  refine (ref12_is_no v _ h).mono ?_
  rintro e w' ⟨rfl, rfl⟩
  go_wp2_with fail
  go_ret
  exact ⟨rfl, rfl⟩

theorem week_From_ok (d v a : Int) (w : World) (hd : Day12 d) (h0 : 0 ≤ v) (h1 : v ≤ 6) (ha : d + (v - d) % 7 = a) : Calls Tryz.prog 43 #[.int .i64 d, .int .i64 v] w fun e w' => e = .returned (.int .i64 a) ∧ w = w' := by
  obtain ⟨d1, d2⟩ := hd
  have k1 : 0 ≤ d % 7 := by omega
  have k2 : d % 7 < 7 := by omega
  have k3 : 0 ≤ (v - d) % 7 := by omega
  have k4 : (v - d) % 7 < 7 := by omega
  have H1 := Lib.hid (fun w => molad_Weekday d w ⟨by omega, by omega⟩)
  have h2 := fun w => molad_Weekday (v - d % 7) w ⟨by omega, by omega⟩
  rw [show (v - d % 7) % 7 = (v - d) % 7 by omega] at h2
  have H2 := Lib.hid h2
  clear h2
  have HA := Lib.hid ha
  clear ha
  go_enter Tryz.func43, Tryz.ntmps43
  go_wp2_with fail
  refine (week_is_yes v _ h0 h1).mono ?_
  rintro e w' ⟨rfl, rfl⟩
  go_wp2_with fail
  refine (H1.out _).mono ?_
  rintro e w' ⟨rfl, rfl⟩
  go_wp2_with fail
  refine (H2.out _).mono ?_
  rintro e w' ⟨rfl, rfl⟩
  go_wp2_with fail
  go_ret
  exact ⟨ret_i HA.out, rfl⟩

theorem week_Upto_ok (d v a : Int) (w : World) (hd : Day12 d) (h0 : 0 ≤ v) (h1 : v ≤ 6) (ha : d - (d - v) % 7 = a) : Calls Tryz.prog 40 #[.int .i64 d, .int .i64 v] w fun e w' => e = .returned (.int .i64 a) ∧ w = w' := by
  obtain ⟨d1, d2⟩ := hd
  have k1 : 0 ≤ d % 7 := by omega
  have k2 : d % 7 < 7 := by omega
  have k3 : 0 ≤ (d - v) % 7 := by omega
  have k4 : (d - v) % 7 < 7 := by omega
  have H1 := Lib.hid (fun w => molad_Weekday d w ⟨by omega, by omega⟩)
  have h2 := fun w => molad_Weekday (d % 7 - v) w ⟨by omega, by omega⟩
  rw [show (d % 7 - v) % 7 = (d - v) % 7 by omega] at h2
  have H2 := Lib.hid h2
  clear h2
  have HA := Lib.hid ha
  clear ha
  go_enter Tryz.func40, Tryz.ntmps40
  go_wp2_with fail
  refine (week_is_yes v _ h0 h1).mono ?_
  rintro e w' ⟨rfl, rfl⟩
  go_wp2_with fail
  refine (H1.out _).mono ?_
  rintro e w' ⟨rfl, rfl⟩
  go_wp2_with fail
  refine (H2.out _).mono ?_
  rintro e w' ⟨rfl, rfl⟩
  go_wp2_with fail
  go_ret
  exact ⟨ret_i HA.out, rfl⟩

theorem ref12_From_ok (d v a : Int) (w : World) (hd : Day12 d) (h0 : 0 ≤ v) (h1 : v ≤ 6) (ha : d + (v - d) % 7 = a) : Calls Tryz.prog 15 #[.int .i64 d, .int .i64 v] w fun e w' => e = .returned (.int .i64 a) ∧ w = w' := by
  obtain ⟨d1, d2⟩ := hd
  have HA := Lib.hid ha
  clear ha
  go_enter Tryz.func15, Tryz.ntmps15
  go_wp2_with fail
  refine (ref12_is_yes v _ h0 h1).mono ?_
  rintro e w' ⟨rfl, rfl⟩
  go_wp2_with fail
  go_loop [0] (fun i => ∃ n : Nat, n ≤ 6 ∧ i = .int .i64 (d + n) ∧ Hid ((n : Int) ≤ (v - d) % 7)) (fun i => (d + 7 - intOf i).toNat)
  case atStart => exact ⟨0, by omega, by simp, Lib.hid (by simp; omega)⟩
  case round =>
    obtain ⟨n, hn, rfl, hk⟩ := hrel
    have H1 := Lib.hid (fun w => ref4_Weekday (d + n) w)
    by_cases c : (d + n) % 7 = v
    · rw [c] at H1
      have HC : Hid (d + n = a) := Lib.hid (by have := HA.out; have := hk.out; omega)
      clear c
      go_wp2_with fail
      refine (H1.out _).mono ?_
      rintro e w' ⟨rfl, rfl⟩
      go_wp2_with fail
      go_ret
      exact ⟨ret_i HC.out, rfl⟩
    · have k1 : 0 ≤ (d + n) % 7 := by omega
      have HK : Hid (((n + 1 : Nat) : Int) ≤ (v - d) % 7) := Lib.hid (by have := hk.out; omega)
      have hn6 : n < 6 := by have := HK.out; omega
      generalize hg : (d + n) % 7 = r at *
      clear hg
      go_wp2_with fail
      refine (H1.out _).mono ?_
      rintro e w' ⟨rfl, rfl⟩
      go_wp2_with fail
      go_round
      case rel => exact ⟨n + 1, by omega, by go_num, HK⟩
      case measure => simp [intOf]; omega

theorem ref12_Upto_ok (d v a : Int) (w : World) (hd : Day12 d) (h0 : 0 ≤ v) (h1 : v ≤ 6) (ha : d - (d - v) % 7 = a) : Calls Tryz.prog 25 #[.int .i64 d, .int .i64 v] w fun e w' => e = .returned (.int .i64 a) ∧ w = w' := by
  obtain ⟨d1, d2⟩ := hd
  have HA := Lib.hid ha
  clear ha
  go_enter Tryz.func25, Tryz.ntmps25
  go_wp2_with fail
  refine (ref12_is_yes v _ h0 h1).mono ?_
  rintro e w' ⟨rfl, rfl⟩
  go_wp2_with fail
  go_loop [0] (fun i => ∃ n : Nat, n ≤ 6 ∧ i = .int .i64 (d - n) ∧ Hid ((n : Int) ≤ (d - v) % 7)) (fun i => (intOf i - (d - 7)).toNat)
  case atStart => exact ⟨0, by omega, by simp, Lib.hid (by simp; omega)⟩
  case round =>
    obtain ⟨n, hn, rfl, hk⟩ := hrel
    have H1 := Lib.hid (fun w => ref4_Weekday (d - n) w)
    by_cases c : (d - n) % 7 = v
    · rw [c] at H1
      have HC : Hid (d - n = a) := Lib.hid (by have := HA.out; have := hk.out; omega)
      clear c
      go_wp2_with fail
      refine (H1.out _).mono ?_
      rintro e w' ⟨rfl, rfl⟩
      go_wp2_with fail
      go_ret
      exact ⟨ret_i HC.out, rfl⟩
    · have k1 : 0 ≤ (d - n) % 7 := by omega
      have HK : Hid (((n + 1 : Nat) : Int) ≤ (d - v) % 7) := Lib.hid (by have := hk.out; omega)
      have hn6 : n < 6 := by have := HK.out; omega
      generalize hg : (d - n) % 7 = r at *
      clear hg
      go_wp2_with fail
      refine (H1.out _).mono ?_
      rintro e w' ⟨rfl, rfl⟩
      go_wp2_with fail
      go_round
      case rel => exact ⟨n + 1, by omega, by go_num, HK⟩
      case measure => simp [intOf]; omega

end Go.Proofs.YtjdogojjoekphaaGreatDoor
