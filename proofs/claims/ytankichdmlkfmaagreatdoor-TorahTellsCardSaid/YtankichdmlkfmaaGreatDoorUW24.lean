/- Layer 24: the document's example. -/
import Derived.Test.YtankichdmlkfmaaGreatDoorURC
import Derived.Test.YtankichdmlkfmaaGreatDoorURC
set_option linter.unusedSimpArgs false
set_option linter.unusedVariables false
namespace Go.Proofs.YtankichdmlkfmaaGreatDoor
open Go.ChangeShapes Go.WideShapes Go.ChangeAt Go.RowKit Go.Lib Go.Sort Go.Shelf
set_option maxRecDepth 100000
set_option maxHeartbeats 2000000 in
theorem sab_isCycle_lo (y : Int) (w : World) (h2 : y < 1) :
  Calls Tryo.prog 92 #[.int .i64 y] w fun e w' => e = .returned (.bool false) ∧ w = w' := by
 have h1 : ¬ 1 ≤ y := by omega
 have d1 : decide (1 ≤ y) = false := decide_eq_false h1
 go_enter Tryo.func92, Tryz.ntmps92
 go_wp2_with fail
 go_ret
 exact ⟨rfl, rfl⟩
set_option maxHeartbeats 2000000 in
theorem sab_check_lo (y : Int) (p : Bool) (w : World) (h2 : y < 1) :
  Calls Tryo.prog 75 #[.int .i64 y, .int .i64 (if p then 1 else 0)] w fun e w' => e = .returned (.int .i64 2) ∧ w = w' := by
 have HP := Lib.hid (fun w => sab_isPlace p w)
 have HC := Lib.hid (fun w => sab_isCycle_lo y w h2)
 generalize (if p then (1 : Int) else 0) = pl at *
 go_enter Tryo.func75, Tryz.ntmps75
 go_wp2_with fail
 refine (HP.out _).mono ?_
 rintro e w' ⟨rfl, rfl⟩
 go_wp2_with fail
 refine (HC.out _).mono ?_
 rintro e w' ⟨rfl, rfl⟩
 go_wp2_with fail
 go_ret
 exact ⟨rfl, rfl⟩
set_option maxHeartbeats 2000000 in
theorem sab_All_lo (y : Int) (p : Bool) (w : World) (h2 : y < 1) :
  Calls Tryo.prog 34 #[.int .i64 y, .int .i64 (if p then 1 else 0)] w fun e w' => e = .returned (.tuple #[.slice none 0 0, .int .i64 2]) ∧ w = w' := by
 have HK := Lib.hid (fun w => sab_check_lo y p w h2)
 generalize (if p then (1 : Int) else 0) = pl at *
 go_enter Tryo.func34, Tryz.ntmps34
 go_wp2_with fail
 refine (HK.out _).mono ?_
 rintro e w' ⟨rfl, rfl⟩
 go_wp2_with fail
 go_ret2
 exact ⟨rfl, rfl⟩
theorem Rd.len_all : ((List.range 14).all fun i => [false, true].all fun p => decide ((Rd.cyc0 i p).length ≤ 100)) = true := by decide +kernel
theorem Rd.len_at {i : Nat} (hi : i < 14) (p : Bool) : (Rd.cyc0 i p).length ≤ 100 := by
 have h := List.all_eq_true.1 Rd.len_all i (List.mem_range.2 hi)
 exact of_decide_eq_true (List.all_eq_true.1 h p (by cases p <;> simp))
set_option maxHeartbeats 2000000 in
theorem awake24_go (w : World) (hT : Tab w 7 kevCells) (hL : Tab w 6 lenCells) (hF : Tab w 2 Fe.cells) (hP : Tab w 1 Rd.prCells) (hN : Tab w 0 Rd.nmCells)
  (HA : Hid (∀ w : World, Tab w 7 kevCells → Tab w 6 lenCells → Tab w 2 Fe.cells → Calls Tryo.prog 9 #[.int .i64 738807, .int .i64 0] w fun e w' => e = .returned (.tuple #[.agg #[.int .i64 1, .int .i64 1, .int .i64 738807], .int .i64 0]) ∧ Below w.heap.size w w'))
  (HB : Hid (∀ w : World, Tab w 7 kevCells → Tab w 6 lenCells → Tab w 2 Fe.cells → Calls Tryo.prog 9 #[.int .i64 738808, .int .i64 0] w fun e w' => e = .returned (.tuple #[.agg #[.int .i64 0, .int .i64 0, .int .i64 0], .int .i64 4]) ∧ Below w.heap.size w w'))
  (HC : Hid (∀ w : World, Calls Tryo.prog 7 #[.int .i64 0, .int .i64 0] w fun e w' => e = .returned (.tuple #[.slice none 0 0, .int .i64 2]) ∧ w = w')) :
  Calls Tryo.prog 11 #[] w fun e w' => e = .returned (.bool true) ∧ Below w.heap.size w w' := by
 have HNm := Lib.hid (fun w h => rd_Name 1 w (by omega) (by omega) h)
 have HPr := Lib.hid (fun w h => rd_Pair 22 w h)
 rw [show Rd.nm 1 = ⟨#[66, 101, 114, 101, 115, 104, 105, 116]⟩ from rfl] at HNm
 rw [show decide ((22 : Int) ∈ Rd.prL) = true by decide] at HPr
 go_enter Tryo.func11, Tryz.ntmps11
 go_wp2_with fail
 refine (HA.out _ (Tab.below hT bel) (Tab.below hL bel) (Tab.below hF bel)).mono ?_
 rintro e w1 ⟨rfl, hb1⟩
 have hB1 : Below w.heap.size w w1 := bel
 go_wp2_with fail
 refine (HB.out _ (Tab.below hT bel) (Tab.below hL bel) (Tab.below hF bel)).mono ?_
 rintro e w2 ⟨rfl, hb2⟩
 have hB2 : Below w.heap.size w w2 := bel
 obtain ⟨hc2, hf2⟩ := bcell hb2
 have hz2 := hb2.size
 simp at hz2
 have g1 : w2.cell? ⟨w1.heap.size, 0, none⟩ = some (.int .i64 1) := (hc2 _ _ (by simp)).trans (by simp [go_sem])
 have g2 : w2.cell? ⟨w1.heap.size, 1, none⟩ = some (.int .i64 1) := (hc2 _ _ (by simp)).trans (by simp [go_sem])
 have g3 : w2.cell? ⟨w1.heap.size, 2, none⟩ = some (.int .i64 738807) := (hc2 _ _ (by simp)).trans (by simp [go_sem])
 have lg : w1.heap.size < w2.heap.size := by omega
 clear hc2 hf2
 go_wp2_with fail
 refine (HC.out _).mono ?_
 rintro e w' ⟨rfl, rfl⟩
 go_wp2_with fail
 refine (HNm.out _ (Tab.below hN bel)).mono ?_
 rintro e w' ⟨rfl, rfl⟩
 go_wp2_with fail
 refine (HPr.out _ (Tab.below hP bel)).mono ?_
 rintro e w' ⟨rfl, rfl⟩
 go_wp2_with fail
 go_ret
 refine ⟨rfl, ?_⟩
 exact bel
theorem awake24 (w : World) (hT : Tab w 7 kevCells) (hL : Tab w 6 lenCells) (hF : Tab w 2 Fe.cells) (hP : Tab w 1 Rd.prCells) (hN : Tab w 0 Rd.nmCells) : Calls Tryo.prog 11 #[] w fun e w' => e = .returned (.bool true) ∧ Below w.heap.size w w' := by
 obtain ⟨i2, h2⟩ := Yr.is_some (5784 + 1) (by omega) (by omega)
 have h := Yr.is_5784
 have e2 : Sb.rj 5784 false < 738807 := of_decide_eq_true (show decide (Sb.rj 5784 false < 738807) = true by decide +kernel)
 have e4 : (738808 : Int) ≤ Sb.rj (5784 + 1) false := of_decide_eq_true (show decide ((738808 : Int) ≤ Sb.rj (5784 + 1) false) = true by decide +kernel)
 have hX : ((Rd.cyc0 12 false).map (Rd.sh (Cal.first 5784 - kevB 12))).find? (Rd.onDay 738807) = some (1, 1, 738807) := of_decide_eq_true (show decide (((Rd.cyc0 12 false).map (Rd.sh (Cal.first 5784 - kevB 12))).find? (Rd.onDay 738807) = some (1, 1, 738807)) = true by decide +kernel)
 exact awake24_go w hT hL hF hP hN (Lib.hid fun w hT hL hF => rd_Of 5784 12 i2 false 738807 1 1 w h h2 e2 (by omega) (by decide) hX (Rd.len_at (by omega) false) hT hL hF)
  (Lib.hid fun w hT hL hF => rd_Of_no 5784 12 i2 false 738808 w h h2 (by omega) e4 (by decide) hT hL hF)
  (Lib.hid fun w => rd_Cycle_no 0 0 2 w (by decide) (Lib.hid fun w => sab_All_lo 0 false w (by omega)))
end Go.Proofs.YtankichdmlkfmaaGreatDoor
