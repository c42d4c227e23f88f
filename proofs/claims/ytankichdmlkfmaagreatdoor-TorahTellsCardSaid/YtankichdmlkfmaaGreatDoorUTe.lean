/- Layer 24: the error ways, and the cycle of every day. -/
import Derived.Test.YtankichdmlkfmaaGreatDoorUTK
import Derived.Test.YtankichdmlkfmaaGreatDoorUDz
set_option linter.unusedSimpArgs false
set_option linter.unusedVariables false
namespace Go.Proofs.YtankichdmlkfmaaGreatDoor
open Go.ChangeShapes Go.WideShapes Go.ChangeAt Go.RowKit Go.Lib Go.Sort Go.Shelf
set_option maxRecDepth 100000
set_option maxHeartbeats 2000000 in
theorem ref23_Right_no (y : Int) (w : World) (h : y < 1 ∨ 9998 < y) :
  Calls Tryo.prog 83 #[.int .i64 y] w fun e w' => e = .returned (.bool false) ∧ w = w' := by
 by_cases h1 : 1 ≤ y
 ·have h2 : ¬ y ≤ 9998 := by omega
  have d1 : decide (1 ≤ y) = true := decide_eq_true h1
  have d2 : decide (y ≤ 9998) = false := decide_eq_false h2
  go_enter Tryo.func83, Tryz.ntmps83
  go_wp2_with fail
  go_ret
  exact ⟨rfl, rfl⟩
 ·have d1 : decide (1 ≤ y) = false := decide_eq_false h1
  go_enter Tryo.func83, Tryz.ntmps83
  go_wp2_with fail
  go_ret
  exact ⟨rfl, rfl⟩
set_option maxHeartbeats 2000000 in
theorem ref23_All_out (y : Int) (p : Bool) (w : World) (h : y < 1 ∨ 9998 < y) :
  Calls Tryo.prog 36 #[.int .i64 y, .int .i64 (if p then 1 else 0)] w fun e w' => e = .returned (.tuple #[.slice none 0 0, .int .i64 2]) ∧ w = w' := by
 have HP := Lib.hid (fun w => ref23_Place p w)
 have HR := Lib.hid (fun w => ref23_Right_no y w h)
 clear h
 generalize (if p then (1 : Int) else 0) = pl at *
 go_enter Tryo.func36, Tryz.ntmps36
 go_wp2_with fail
 refine (HP.out _).mono ?_
 rintro e w' ⟨rfl, rfl⟩
 go_wp2_with fail
 refine (HR.out _).mono ?_
 rintro e w' ⟨rfl, rfl⟩
 go_wp2_with fail
 go_ret2
 exact ⟨rfl, rfl⟩
set_option maxHeartbeats 2000000 in
theorem ref24_Cycle_no (y pl er : Int) (w : World) (her : er ≠ 0)
  (HA : Hid (∀ w : World, Calls Tryo.prog 36 #[.int .i64 y, .int .i64 pl] w fun e w' => e = .returned (.tuple #[.slice none 0 0, .int .i64 er]) ∧ w = w')) :
  Calls Tryo.prog 8 #[.int .i64 y, .int .i64 pl] w fun e w' => e = .returned (.tuple #[.slice none 0 0, .int .i64 er]) ∧ Below w.heap.size w w' := by
 have d0 : decide (er = 0) = false := decide_eq_false her
 go_enter Tryo.func8, Tryz.ntmps8
 go_wp2_with fail
 refine (HA.out _).mono ?_
 rintro e w' ⟨rfl, rfl⟩
 go_wp2_with fail
 go_ret2
 refine ⟨rfl, ?_⟩
 exact bel
theorem ref24_Cycle_bad (y pl : Int) (w : World) (h0 : pl ≠ 0) (h1 : pl ≠ 1) :
  Calls Tryo.prog 8 #[.int .i64 y, .int .i64 pl] w fun e w' => e = .returned (.tuple #[.slice none 0 0, .int .i64 1]) ∧ Below w.heap.size w w' :=
 ref24_Cycle_no y pl 1 w (by decide) (Lib.hid fun w => ref23_All_bad y pl w h0 h1)
theorem ref24_Cycle_out (y : Int) (p : Bool) (w : World) (h : y < 1 ∨ 9998 < y) :
  Calls Tryo.prog 8 #[.int .i64 y, .int .i64 (if p then 1 else 0)] w fun e w' => e = .returned (.tuple #[.slice none 0 0, .int .i64 2]) ∧ Below w.heap.size w w' :=
 ref24_Cycle_no y _ 2 w (by decide) (Lib.hid fun w => ref23_All_out y p w h)
theorem ref24_Of_bad (D pl : Int) (w : World) (h0 : pl ≠ 0) (h1 : pl ≠ 1) :
  Calls Tryo.prog 10 #[.int .i64 D, .int .i64 pl] w fun e w' => e = .returned (.tuple #[.agg #[.int .i64 0, .int .i64 0, .int .i64 0], .int .i64 1]) ∧ Below w.heap.size w w' :=
 ref24_Of_err D pl 0 1 w (by decide) (Lib.hid fun w => Calls.mono (ref23_Cycle_np D pl w (Lib.hid fun w => ref19_Place_no pl w (by simpa using h0) (by simpa using h1))) (by rintro e w' ⟨rfl, rfl⟩; exact ⟨rfl, Below.refl _ _⟩))
theorem Rd.case (D : Int) (p : Bool) :
  (∃ y, Rd.In D p y ∧ Hid (∀ w : World, Calls Tryo.prog 43 #[.int .i64 D, .int .i64 (if p then 1 else 0)] w fun e w' => e = .returned (.tuple #[.int .i64 y, .int .i64 0]) ∧ Below w.heap.size w w')) ∨
  (Hid (∀ w : World, Tab w 7 kevCells → Tab w 6 lenCells → Tab w 2 Fe.cells → Calls Tryo.prog 41 #[.int .i64 D, .int .i64 (if p then 1 else 0)] w fun e w' => e = .returned (.tuple #[.int .i64 0, .int .i64 2]) ∧ Below w.heap.size w w') ∧
   Hid (∀ w : World, Calls Tryo.prog 43 #[.int .i64 D, .int .i64 (if p then 1 else 0)] w fun e w' => e = .returned (.tuple #[.int .i64 0, .int .i64 2]) ∧ Below w.heap.size w w')) := by
 have HPs := Lib.hid (fun w => sab_isPlace p w)
 have HPr := Lib.hid (fun w => ref23_Place p w)
 by_cases hr : D < -1373427 ∨ 2278650 < D
 ·exact .inr ⟨Lib.hid fun w hT hL hF => sab_Cycle_er D _ 0 0 0 2 false w (by decide) hT hL hF HPs (Lib.hid fun w hT hL => heb_FromDay_no D w hr),
   Lib.hid fun w => ref23_Cycle_er D _ 0 0 0 2 false w (by decide) HPr (Lib.hid fun w => ref10_FromDay_no D w hr)⟩
 ·obtain ⟨yd, m, d, hv, rfl⟩ := D10.day_there D (by omega) (by omega)
  obtain ⟨g1, g2⟩ := D10.day_in hv
  have v1 := hv.1
  have v2 := hv.2.1
  have HFs := Lib.hid (fun w hT hL => heb_FromDay_at yd m d w hT hL hv)
  have HFr := Lib.hid (fun w => ref10_FromDay_at yd m d w hv)
  obtain ⟨i, hi⟩ := Yr.is_some yd v1 v2
  have HRs := Lib.hid (fun w hT hL hF => sab_rejoice yd i p w hi hT hL hF)
  have HRr := Lib.hid (fun w => ref23_rejoice yd i p w hi)
  have o := Sb.rjO_bd p
  generalize D10.dayOf yd m d = D at *
  by_cases hs : D ≤ Sb.rj yd p
  ·by_cases hc : 1 ≤ yd - 1
   ·left
    refine ⟨yd - 1, ?_, Lib.hid fun w => ref23_Cycle_lo_t D _ yd _ d _ (yd - 1) _ w v1 v2 rfl hs HPr HFr HRr (Lib.hid fun w => ref23_Right (yd - 1) w hc (by omega))⟩
    obtain ⟨i0, h0⟩ := Yr.is_some (yd - 1) hc (by omega)
    have hn := Yr.next_first h0
    have hb := Sb.lenV_bd i0 h0.2.2.1
    rw [show yd - 1 + 1 = yd by omega] at hn
    refine ⟨i0, i, h0, by rw [show yd - 1 + 1 = yd by omega]; exact hi, ?_, by rw [show yd - 1 + 1 = yd by omega]; exact hs⟩
    unfold Sb.rj
    omega
   ·right
    exact ⟨Lib.hid fun w hT hL hF => sab_Cycle_lo_f D _ yd _ d _ (yd - 1) _ w v1 v2 rfl hs hT hL hF HPs HFs HRs (Lib.hid fun w => sab_isCycle_no (yd - 1) w (by omega)),
     Lib.hid fun w => ref23_Cycle_lo_f D _ yd _ d _ (yd - 1) _ w v1 v2 rfl hs HPr HFr HRr (Lib.hid fun w => ref23_Right_no (yd - 1) w (by omega))⟩
  ·by_cases hc : yd ≤ 9998
   ·left
    refine ⟨yd, ?_, Lib.hid fun w => ref23_Cycle_hi_t D _ yd _ d _ yd _ w v1 v2 rfl hs HPr HFr HRr (Lib.hid fun w => ref23_Right yd w v1 hc)⟩
    obtain ⟨i2, h2⟩ := Yr.is_some (yd + 1) (by omega) (by omega)
    refine ⟨i, i2, hi, h2, by omega, ?_⟩
    unfold Sb.rj
    omega
   ·right
    exact ⟨Lib.hid fun w hT hL hF => sab_Cycle_hi_f D _ yd _ d _ yd _ w v1 v2 rfl hs hT hL hF HPs HFs HRs (Lib.hid fun w => sab_isCycle_no yd w (by omega)),
     Lib.hid fun w => ref23_Cycle_hi_f D _ yd _ d _ yd _ w v1 v2 rfl hs HPr HFr HRr (Lib.hid fun w => ref23_Right_no yd w (by omega))⟩
/-- The reading of every day in a place: both say the same. -/
theorem rd_both (D : Int) (p : Bool) (hD : I64 D) : ∃ r1 r2 r3 er : Int,
  Hid (∀ w : World, Tab w 7 kevCells → Tab w 6 lenCells → Tab w 2 Fe.cells → Calls Tryo.prog 9 #[.int .i64 D, .int .i64 (if p then 1 else 0)] w fun e w' => e = .returned (.tuple #[.agg #[.int .i64 r1, .int .i64 r2, .int .i64 r3], .int .i64 er]) ∧ Below w.heap.size w w') ∧
  Hid (∀ w : World, Calls Tryo.prog 10 #[.int .i64 D, .int .i64 (if p then 1 else 0)] w fun e w' => e = .returned (.tuple #[.agg #[.int .i64 r1, .int .i64 r2, .int .i64 r3], .int .i64 er]) ∧ Below w.heap.size w w') := by
 rcases Rd.case D p with ⟨y, ⟨i, i2, h, h2, h3, h4⟩, HR⟩ | ⟨HS, HR⟩
 ·have HWd := Lib.hid (fun w => ref4_Weekday D w)
  by_cases h6 : D % 7 = 6
  ·obtain ⟨r1, r2, hX⟩ := Rd.there p D h h2 h3 h4 h6
   have hn := Rd.len_at h.2.2.1 p
   exact ⟨r1, r2, D, 0, Lib.hid fun w hT hL hF => rd_Of y i i2 p D r1 r2 w h h2 h3 h4 h6 hX hn hT hL hF,
    Lib.hid fun w => ref24_Of_go D _ y r1 r2 _ _ w rfl (by rw [List.length_map]; exact hn) h6 (Lib.hid hX) HR HWd (Lib.hid fun w => ref24_Cycle y i i2 p w h h2)⟩
  ·exact ⟨0, 0, 0, 4, Lib.hid fun w hT hL hF => rd_Of_no y i i2 p D w h h2 h3 h4 h6 hT hL hF,
    Lib.hid fun w => ref24_Of_no D _ y _ w rfl h6 HR HWd⟩
 ·exact ⟨0, 0, 0, 2, Lib.hid fun w hT hL hF => rd_Of_err D _ 0 2 w (by decide) hT hL hF HS, Lib.hid fun w => ref24_Of_err D _ 0 2 w (by decide) HR⟩
end Go.Proofs.YtankichdmlkfmaaGreatDoor
