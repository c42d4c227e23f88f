/- Layer 12: weekdays near a day: contracts. -/
import Derived.Test.YtankichdmlkfmaaGreatDoorULA
import Derived.LoopTactic
set_option linter.unusedVariables false
namespace Go.Proofs.YtankichdmlkfmaaGreatDoor
open Go.ChangeShapes Go.WideShapes Go.ChangeAt Go.RowKit
set_option maxRecDepth 100000
def Day12 (d : Int) : Prop := -2199023255552 ≤ d ∧ d ≤ 2199023255552

theorem ref12_is_yes (v : Int) (w : World) (h0 : 0 ≤ v) (h1 : v ≤ 6) : Calls Tryo.prog 137 #[.int .i64 v] w fun e w' => e = .returned (.bool true) ∧ w = w' := by
 go_enter Tryo.func137, Tryz.ntmps137
 go_wp2_with fail
 go_ret
 exact ⟨ret_b (by first | rfl | (simp; done) | (simp; omega)), rfl⟩
theorem ref12_From_ok (d v a : Int) (w : World) (hd : Day12 d) (h0 : 0 ≤ v) (h1 : v ≤ 6) (ha : d + (v - d) % 7 = a) : Calls Tryo.prog 84 #[.int .i64 d, .int .i64 v] w fun e w' => e = .returned (.int .i64 a) ∧ w = w' := by
 obtain ⟨d1, d2⟩ := hd
 have HA := Lib.hid ha
 clear ha
 go_enter Tryo.func84, Tryz.ntmps84
 go_wp2_with fail
 refine (ref12_is_yes v _ h0 h1).mono ?_
 rintro e w' ⟨rfl, rfl⟩
 go_wp2_with fail
 go_loop [0] (fun i => ∃ n : Nat, n ≤ 6 ∧ i = .int .i64 (d + n) ∧ Hid ((n : Int) ≤ (v - d) % 7)) (fun i => (d + 7 - intOf i).toNat)
 case atStart => exact ⟨0, by omega, by simp, Lib.hid (by simp; omega)⟩
 case round =>
  obtain ⟨n, hn, rfl, hk⟩ := hrel
  have H1 := Lib.hid (fun w => ref4_Weekday (d + n) w)
  by_cases c : (d + n) % 7 = v
  ·rw [c] at H1
   have HC : Hid (d + n = a) := Lib.hid (by have := HA.out; have := hk.out; omega)
   clear c
   go_wp2_with fail
   refine (H1.out _).mono ?_
   rintro e w' ⟨rfl, rfl⟩
   go_wp2_with fail
   go_ret
   exact ⟨ret_i HC.out, rfl⟩
  ·have k1 : 0 ≤ (d + n) % 7 := by omega
   have HK : Hid (((n + 1 : Nat) : Int) ≤ (v - d) % 7) := Lib.hid (by have := hk.out; omega)
   have hn6 : n < 6 := by have := HK.out; omega
   generalize hg : (d + n) % 7 = r at *
   clear hg
   go_wp2_with fail
   refine (H1.out _).mono ?_
   rintro e w' ⟨rfl, rfl⟩
   go_wp2_with fail
   go_round
   case rel => exact ⟨n + 1, by omega, by go_num, HK⟩
   case measure => simp [intOf]; omega

end Go.Proofs.YtankichdmlkfmaaGreatDoor
