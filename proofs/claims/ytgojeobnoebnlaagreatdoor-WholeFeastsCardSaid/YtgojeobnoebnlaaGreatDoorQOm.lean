import Derived.Test.YtgojeobnoebnlaaGreatDoorQYM
import Derived.Test.YtgojeobnoebnlaaGreatDoorQEV
import Derived.Test.YtgojeobnoebnlaaGreatDoorQHR
import Derived.Test.YtgojeobnoebnlaaGreatDoorQBB
set_option maxHeartbeats 8000000
set_option maxRecDepth 100000
set_option linter.unusedVariables false
namespace Go.Proofs.YtgojeobnoebnlaaGreatDoor
open Go.ChangeShapes Go.WideShapes Go.ChangeAt Go.RowKit Go.Lib Go.Sort Go.Shelf
namespace Om
def om (y : Int) : Int := D10.dayV y 7 false 15
theorem om_ok : ((List.range 14).all fun i => Yr.okV i 7 false 15 && (decide (0 ≤ Yr.offV i 7 false 15) && decide (Yr.offV i 7 false 15 ≤ 400))) = true := by decide +kernel
theorem om_e {y : Int} (h1 : 1 ≤ y) (h2 : y ≤ 9999) : D10.dateE y 7 false 15 = 0 ∧ -2000000 ≤ om y ∧ om y ≤ 3000000 := by
 obtain ⟨i, hi⟩ := Yr.is_some y h1 h2
 have h := List.all_eq_true.1 om_ok i (List.mem_range.2 hi.2.2.1)
 simp only [Bool.and_eq_true, decide_eq_true_eq] at h
 obtain ⟨e1, e2⟩ := Yr.day_off hi h.1
 have := Yr.first_bd hi
 unfold om
 exact ⟨e1, by omega, by omega⟩
def val (n : Int) : Int := if 1 ≤ n ∧ n ≤ 49 then n else 0
end Om
theorem chodesh_ahead (y Z E : Int) (w : World) (hT : Tab w 6 kevCells) (hL : Tab w 3 lenCells) (HC : Hid (∀ w : World, Tab w 6 kevCells → Tab w 3 lenCells → Calls Tryo.prog 24 #[.agg #[.int .i64 y, .int .i64 7, .bool false, .int .i64 15]] w fun e w' => e = .returned (.tuple #[.int .i64 Z, .int .i64 E]) ∧ Below w.heap.size w w')) :
  Calls Tryo.prog 85 #[.int .i64 y] w fun e w' => e = .returned (.tuple #[.int .i64 Z, .int .i64 E]) ∧ Below w.heap.size w w' := by
 go_enter Tryo.func85, Tryz.ntmps85
 go_wp2_with fail
 refine (HC.out _ (Tab.below hT bel) (Tab.below hL bel)).mono ?_
 rintro e w1 ⟨rfl, hb1⟩
 obtain ⟨hc1, hf1⟩ := bcell hb1
 have hz1 := hb1.size
 try simp at hz1
 go_wp2_with fail
 go_ret2
 exact ⟨rfl, bel⟩
theorem ahead_in (y : Int) (w : World) (h1 : 1 ≤ y) (h2 : y ≤ 9999) (hT : Tab w 6 kevCells) (hL : Tab w 3 lenCells) : Calls Tryo.prog 85 #[.int .i64 y] w fun e w' => e = .returned (.tuple #[.int .i64 (Om.om y), .int .i64 0]) ∧ Below w.heap.size w w' :=
 chodesh_ahead y _ _ w hT hL (Lib.hid (fun w hT hL => by have := heb_ToDay y 7 false 15 w ⟨by omega, by omega⟩ hT hL; rwa [(Om.om_e h1 h2).1] at this))
theorem chodesh_Omer_in (D Z y n d : Int) (l : Bool) (w : World) (h1 : 1 ≤ D - Z) (h2 : D - Z ≤ 49) (HZ : -2000000 ≤ Z ∧ Z ≤ 3000000) (HD : -2000000 ≤ D ∧ D ≤ 3000000) (hT : Tab w 6 kevCells) (hL : Tab w 3 lenCells)
  (HFd : Hid (∀ w : World, Tab w 6 kevCells → Tab w 3 lenCells → Calls Tryo.prog 10 #[.int .i64 D] w fun e w' => e = .returned (.tuple #[.agg #[.int .i64 y, .int .i64 n, .bool l, .int .i64 d], .int .i64 0]) ∧ Below w.heap.size w w'))
  (HAh : Hid (∀ w : World, Tab w 6 kevCells → Tab w 3 lenCells → Calls Tryo.prog 85 #[.int .i64 y] w fun e w' => e = .returned (.tuple #[.int .i64 Z, .int .i64 0]) ∧ Below w.heap.size w w')) :
  Calls Tryo.prog 41 #[.int .i64 D] w fun e w' => e = .returned (.tuple #[.int .i64 (D - Z), .int .i64 0]) ∧ Below w.heap.size w w' := by
 obtain ⟨hz1, hz2⟩ := HZ
 obtain ⟨hd1, hd2⟩ := HD
 obtain ⟨q, hq⟩ : ∃ q, D - Z = q := ⟨_, rfl⟩
 rw [hq] at h1 h2 ⊢
 have g1 : ¬ q < 1 := by omega
 have g2 : ¬ 49 < q := by omega
 have G1 : decide (q < 1) = false := by simpa using g1
 have G2 : decide (49 < q) = false := by simpa using g2
 go_enter Tryo.func41, Tryz.ntmps41
 go_wp2_with fail
 refine (HFd.out _ (Tab.below hT bel) (Tab.below hL bel)).mono ?_
 rintro e w1 ⟨rfl, hb1⟩
 obtain ⟨hc1, hf1⟩ := bcell hb1
 have hz1 := hb1.size
 try simp at hz1
 go_wp2_with fail
 refine (HAh.out _ (Tab.below hT bel) (Tab.below hL bel)).mono ?_
 rintro e w2 ⟨rfl, hb2⟩
 obtain ⟨hc2, hf2⟩ := bcell hb2
 have hz2 := hb2.size
 try simp at hz2
 have hl2w1 : w1.heap.size < w2.heap.size := by omega
 have hm2w1 : w1.heap.size ≤ w2.heap.size := by omega
 have g2x0 : w2.cell? ⟨w1.heap.size, 0, none⟩ = some (.int .i64 y) := cel hc2
 go_wp2_with fail
 go_ret2
 exact ⟨rfl, bel⟩
theorem chodesh_Omer_lo (D Z y n d : Int) (l : Bool) (w : World) (h1 : D - Z < 1) (HZ : -2000000 ≤ Z ∧ Z ≤ 3000000) (HD : -2000000 ≤ D ∧ D ≤ 3000000) (hT : Tab w 6 kevCells) (hL : Tab w 3 lenCells)
  (HFd : Hid (∀ w : World, Tab w 6 kevCells → Tab w 3 lenCells → Calls Tryo.prog 10 #[.int .i64 D] w fun e w' => e = .returned (.tuple #[.agg #[.int .i64 y, .int .i64 n, .bool l, .int .i64 d], .int .i64 0]) ∧ Below w.heap.size w w'))
  (HAh : Hid (∀ w : World, Tab w 6 kevCells → Tab w 3 lenCells → Calls Tryo.prog 85 #[.int .i64 y] w fun e w' => e = .returned (.tuple #[.int .i64 Z, .int .i64 0]) ∧ Below w.heap.size w w')) :
  Calls Tryo.prog 41 #[.int .i64 D] w fun e w' => e = .returned (.tuple #[.int .i64 (0), .int .i64 0]) ∧ Below w.heap.size w w' := by
 obtain ⟨hz1, hz2⟩ := HZ
 obtain ⟨hd1, hd2⟩ := HD
 obtain ⟨q, hq⟩ : ∃ q, D - Z = q := ⟨_, rfl⟩
 rw [hq] at h1
 have g1 : ¬ 1 ≤ q := by omega
 have G1 : decide (1 ≤ q) = false := by simpa using g1
 go_enter Tryo.func41, Tryz.ntmps41
 go_wp2_with fail
 refine (HFd.out _ (Tab.below hT bel) (Tab.below hL bel)).mono ?_
 rintro e w1 ⟨rfl, hb1⟩
 obtain ⟨hc1, hf1⟩ := bcell hb1
 have hz1 := hb1.size
 try simp at hz1
 go_wp2_with fail
 refine (HAh.out _ (Tab.below hT bel) (Tab.below hL bel)).mono ?_
 rintro e w2 ⟨rfl, hb2⟩
 obtain ⟨hc2, hf2⟩ := bcell hb2
 have hz2 := hb2.size
 try simp at hz2
 have hl2w1 : w1.heap.size < w2.heap.size := by omega
 have hm2w1 : w1.heap.size ≤ w2.heap.size := by omega
 have g2x0 : w2.cell? ⟨w1.heap.size, 0, none⟩ = some (.int .i64 y) := cel hc2
 go_wp2_with fail
 go_ret2
 exact ⟨rfl, bel⟩
theorem chodesh_Omer_hi (D Z y n d : Int) (l : Bool) (w : World) (h1 : 49 < D - Z) (HZ : -2000000 ≤ Z ∧ Z ≤ 3000000) (HD : -2000000 ≤ D ∧ D ≤ 3000000) (hT : Tab w 6 kevCells) (hL : Tab w 3 lenCells)
  (HFd : Hid (∀ w : World, Tab w 6 kevCells → Tab w 3 lenCells → Calls Tryo.prog 10 #[.int .i64 D] w fun e w' => e = .returned (.tuple #[.agg #[.int .i64 y, .int .i64 n, .bool l, .int .i64 d], .int .i64 0]) ∧ Below w.heap.size w w'))
  (HAh : Hid (∀ w : World, Tab w 6 kevCells → Tab w 3 lenCells → Calls Tryo.prog 85 #[.int .i64 y] w fun e w' => e = .returned (.tuple #[.int .i64 Z, .int .i64 0]) ∧ Below w.heap.size w w')) :
  Calls Tryo.prog 41 #[.int .i64 D] w fun e w' => e = .returned (.tuple #[.int .i64 (0), .int .i64 0]) ∧ Below w.heap.size w w' := by
 obtain ⟨hz1, hz2⟩ := HZ
 obtain ⟨hd1, hd2⟩ := HD
 obtain ⟨q, hq⟩ : ∃ q, D - Z = q := ⟨_, rfl⟩
 rw [hq] at h1
 have g1 : 1 ≤ q := by omega
 have g2 : ¬ q ≤ 49 := by omega
 have G2 : decide (q ≤ 49) = false := by simpa using g2
 have g3 : ¬ q < 1 := by omega
 have G3 : decide (q < 1) = false := by simpa using g3
 go_enter Tryo.func41, Tryz.ntmps41
 go_wp2_with fail
 refine (HFd.out _ (Tab.below hT bel) (Tab.below hL bel)).mono ?_
 rintro e w1 ⟨rfl, hb1⟩
 obtain ⟨hc1, hf1⟩ := bcell hb1
 have hz1 := hb1.size
 try simp at hz1
 go_wp2_with fail
 refine (HAh.out _ (Tab.below hT bel) (Tab.below hL bel)).mono ?_
 rintro e w2 ⟨rfl, hb2⟩
 obtain ⟨hc2, hf2⟩ := bcell hb2
 have hz2 := hb2.size
 try simp at hz2
 have hl2w1 : w1.heap.size < w2.heap.size := by omega
 have hm2w1 : w1.heap.size ≤ w2.heap.size := by omega
 have g2x0 : w2.cell? ⟨w1.heap.size, 0, none⟩ = some (.int .i64 y) := cel hc2
 go_wp2_with fail
 go_ret2
 exact ⟨rfl, bel⟩
theorem chodesh_Omer_at (y m d : Int) (w : World) (hv : D10.Valid y m d) (hT : Tab w 6 kevCells) (hL : Tab w 3 lenCells) :
  Calls Tryo.prog 41 #[.int .i64 (D10.dayOf y m d)] w fun e w' => e = .returned (.tuple #[.int .i64 (Om.val (D10.dayOf y m d - Om.om y)), .int .i64 0]) ∧ Below w.heap.size w w' := by
 obtain ⟨_, z1, z2⟩ := Om.om_e hv.1 hv.2.1
 have hb := D10.day_bd hv
 have HFd := Lib.hid (fun w hT hL => heb_FromDay_at y m d w hT hL hv)
 have HAh := Lib.hid (fun w hT hL => ahead_in y w hv.1 hv.2.1 hT hL)
 unfold Om.val
 by_cases c : 1 ≤ D10.dayOf y m d - Om.om y ∧ D10.dayOf y m d - Om.om y ≤ 49
 ·rw [if_pos c]
  exact chodesh_Omer_in _ _ _ _ _ _ w c.1 c.2 ⟨z1, z2⟩ ⟨by omega, by omega⟩ hT hL HFd HAh
 ·rw [if_neg c]
  by_cases c2 : D10.dayOf y m d - Om.om y < 1
  ·exact chodesh_Omer_lo _ _ _ _ _ _ w c2 ⟨z1, z2⟩ ⟨by omega, by omega⟩ hT hL HFd HAh
  ·exact chodesh_Omer_hi _ _ _ _ _ _ w (by omega) ⟨z1, z2⟩ ⟨by omega, by omega⟩ hT hL HFd HAh
end Go.Proofs.YtgojeobnoebnlaaGreatDoor
