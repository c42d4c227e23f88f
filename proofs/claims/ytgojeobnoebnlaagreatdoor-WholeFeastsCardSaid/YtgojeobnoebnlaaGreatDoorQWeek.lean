import Derived.Test.YtgojeobnoebnlaaGreatDoorQLA
import Derived.LoopTactic
set_option maxHeartbeats 8000000
set_option maxRecDepth 100000
set_option linter.unusedVariables false
namespace Go.Proofs.YtgojeobnoebnlaaGreatDoor
open Go.ChangeShapes Go.WideShapes Go.ChangeAt Go.RowKit
def Day12 (d : Int) : Prop := -2199023255552 ≤ d ∧ d ≤ 2199023255552
theorem week_is_yes (v : Int) (w : World) (h0 : 0 ≤ v) (h1 : v ≤ 6) : Calls Tryo.prog 138 #[.int .i64 v] w fun e w' => e = .returned (.bool true) ∧ w = w' := by
 go_enter Tryo.func138, Tryz.ntmps138
 go_wp2_with fail
 go_ret
 exact ⟨ret_b (by first | rfl | (simp; done) | (simp; omega)), rfl⟩
theorem week_From_ok (d v a : Int) (w : World) (hd : Day12 d) (h0 : 0 ≤ v) (h1 : v ≤ 6) (ha : d + (v - d) % 7 = a) : Calls Tryo.prog 98 #[.int .i64 d, .int .i64 v] w fun e w' => e = .returned (.int .i64 a) ∧ w = w' := by
 obtain ⟨d1, d2⟩ := hd
 have k1 : 0 ≤ d % 7 := by omega
 have k2 : d % 7 < 7 := by omega
 have k3 : 0 ≤ (v - d) % 7 := by omega
 have k4 : (v - d) % 7 < 7 := by omega
 have H1 := Lib.hid (fun w => molad_Weekday d w ⟨by omega, by omega⟩)
 have h2 := fun w => molad_Weekday (v - d % 7) w ⟨by omega, by omega⟩
 rw [show (v - d % 7) % 7 = (v - d) % 7 by omega] at h2
 have H2 := Lib.hid h2
 clear h2
 have HA := Lib.hid ha
 clear ha
 go_enter Tryo.func98, Tryz.ntmps98
 go_wp2_with fail
 refine (week_is_yes v _ h0 h1).mono ?_
 rintro e w' ⟨rfl, rfl⟩
 go_wp2_with fail
 refine (H1.out _).mono ?_
 rintro e w' ⟨rfl, rfl⟩
 go_wp2_with fail
 refine (H2.out _).mono ?_
 rintro e w' ⟨rfl, rfl⟩
 go_wp2_with fail
 go_ret
 exact ⟨ret_i HA.out, rfl⟩
theorem week_Upto_ok (d v a : Int) (w : World) (hd : Day12 d) (h0 : 0 ≤ v) (h1 : v ≤ 6) (ha : d - (d - v) % 7 = a) : Calls Tryo.prog 95 #[.int .i64 d, .int .i64 v] w fun e w' => e = .returned (.int .i64 a) ∧ w = w' := by
 obtain ⟨d1, d2⟩ := hd
 have k1 : 0 ≤ d % 7 := by omega
 have k2 : d % 7 < 7 := by omega
 have k3 : 0 ≤ (d - v) % 7 := by omega
 have k4 : (d - v) % 7 < 7 := by omega
 have H1 := Lib.hid (fun w => molad_Weekday d w ⟨by omega, by omega⟩)
 have h2 := fun w => molad_Weekday (d % 7 - v) w ⟨by omega, by omega⟩
 rw [show (d % 7 - v) % 7 = (d - v) % 7 by omega] at h2
 have H2 := Lib.hid h2
 clear h2
 have HA := Lib.hid ha
 clear ha
 go_enter Tryo.func95, Tryz.ntmps95
 go_wp2_with fail
 refine (week_is_yes v _ h0 h1).mono ?_
 rintro e w' ⟨rfl, rfl⟩
 go_wp2_with fail
 refine (H1.out _).mono ?_
 rintro e w' ⟨rfl, rfl⟩
 go_wp2_with fail
 refine (H2.out _).mono ?_
 rintro e w' ⟨rfl, rfl⟩
 go_wp2_with fail
 go_ret
 exact ⟨ret_i HA.out, rfl⟩
end Go.Proofs.YtgojeobnoebnlaaGreatDoor
