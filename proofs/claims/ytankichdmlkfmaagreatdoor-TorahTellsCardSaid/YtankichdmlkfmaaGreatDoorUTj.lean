/- Layer 24: the cycle of a day, both ways. -/
import Derived.Test.YtankichdmlkfmaaGreatDoorUTZ
import Derived.Test.YtankichdmlkfmaaGreatDoorUTZ
set_option linter.unusedSimpArgs false
set_option linter.unusedVariables false
namespace Go.Proofs.YtankichdmlkfmaaGreatDoor
open Go.ChangeShapes Go.WideShapes Go.ChangeAt Go.RowKit Go.Lib Go.Sort Go.Shelf
set_option maxRecDepth 100000
set_option maxHeartbeats 2000000 in
theorem sab_Cycle_er (D pl yd n d er : Int) (lf : Bool) (w : World) (her : er ≠ 0) (hT : Tab w 7 kevCells) (hL : Tab w 6 lenCells) (hF : Tab w 2 Fe.cells) (HP : Hid (∀ w : World, Calls Tryo.prog 91 #[.int .i64 pl] w fun e w' => e = .returned (.bool true) ∧ w = w')) (HF : Hid (∀ w : World, Tab w 7 kevCells → Tab w 6 lenCells → Calls Tryo.prog 28 #[.int .i64 D] w fun e w' => e = .returned (.tuple #[.agg #[.int .i64 yd, .int .i64 n, .bool lf, .int .i64 d], .int .i64 er]) ∧ Below w.heap.size w w')) :
  Calls Tryo.prog 41 #[.int .i64 D, .int .i64 pl] w fun e w' => e = .returned (.tuple #[.int .i64 0, .int .i64 er]) ∧ Below w.heap.size w w' := by
 have d0 : decide (er = 0) = false := decide_eq_false her
 go_enter Tryo.func41, Tryz.ntmps41
 go_wp2_with fail
 refine (HP.out _).mono ?_
 rintro e w' ⟨rfl, rfl⟩
 go_wp2_with fail
 refine (HF.out _ (Tab.below hT bel) (Tab.below hL bel)).mono ?_
 rintro e w1 ⟨rfl, hb1⟩
 go_wp2_with fail
 go_ret2
 refine ⟨rfl, ?_⟩
 exact bel
set_option maxHeartbeats 2000000 in
theorem sab_Cycle_lo_f (D pl yd n d S c : Int) (lf : Bool) (w : World) (y1 : 1 ≤ yd) (y2 : yd ≤ 9999) (hc : c = yd - 1) (hs : D ≤ S) (hT : Tab w 7 kevCells) (hL : Tab w 6 lenCells) (hF : Tab w 2 Fe.cells) (HP : Hid (∀ w : World, Calls Tryo.prog 91 #[.int .i64 pl] w fun e w' => e = .returned (.bool true) ∧ w = w')) (HF : Hid (∀ w : World, Tab w 7 kevCells → Tab w 6 lenCells → Calls Tryo.prog 28 #[.int .i64 D] w fun e w' => e = .returned (.tuple #[.agg #[.int .i64 yd, .int .i64 n, .bool lf, .int .i64 d], .int .i64 0]) ∧ Below w.heap.size w w')) (HR : Hid (∀ w : World, Tab w 7 kevCells → Tab w 6 lenCells → Tab w 2 Fe.cells → Calls Tryo.prog 77 #[.int .i64 yd, .int .i64 pl] w fun e w' => e = .returned (.int .i64 S) ∧ Below w.heap.size w w')) (HC : Hid (∀ w : World, Calls Tryo.prog 92 #[.int .i64 c] w fun e w' => e = .returned (.bool false) ∧ w = w')) :
  Calls Tryo.prog 41 #[.int .i64 D, .int .i64 pl] w fun e w' => e = .returned (.tuple #[.int .i64 0, .int .i64 2]) ∧ Below w.heap.size w w' := by
 have e1 : decide (D ≤ S) = true := decide_eq_true hs
 subst c
 go_enter Tryo.func41, Tryz.ntmps41
 go_wp2_with fail
 refine (HP.out _).mono ?_
 rintro e w' ⟨rfl, rfl⟩
 go_wp2_with fail
 refine (HF.out _ (Tab.below hT bel) (Tab.below hL bel)).mono ?_
 rintro e w1 ⟨rfl, hb1⟩
 go_wp2_with fail
 refine (HR.out _ (Tab.below hT bel) (Tab.below hL bel) (Tab.below hF bel)).mono ?_
 rintro e w2 ⟨rfl, hb2⟩
 obtain ⟨hc2, hf2⟩ := bcell hb2
 have hz2 := hb2.size
 try simp at hz2
 have hl2w1 : w1.heap.size < w2.heap.size := by omega
 have hm2w1 : w1.heap.size ≤ w2.heap.size := by omega
 have g2x0 : w2.cell? ⟨w1.heap.size, 0, none⟩ = some (.int .i64 yd) := cel hc2
 go_wp2_with fail
 refine (HC.out _).mono ?_
 rintro e w' ⟨rfl, rfl⟩
 go_wp2_with fail
 go_ret2
 refine ⟨rfl, ?_⟩
 exact bel
set_option maxHeartbeats 2000000 in
theorem sab_Cycle_hi_f (D pl yd n d S c : Int) (lf : Bool) (w : World) (y1 : 1 ≤ yd) (y2 : yd ≤ 9999) (hc : c = yd) (hs : ¬ D ≤ S) (hT : Tab w 7 kevCells) (hL : Tab w 6 lenCells) (hF : Tab w 2 Fe.cells) (HP : Hid (∀ w : World, Calls Tryo.prog 91 #[.int .i64 pl] w fun e w' => e = .returned (.bool true) ∧ w = w')) (HF : Hid (∀ w : World, Tab w 7 kevCells → Tab w 6 lenCells → Calls Tryo.prog 28 #[.int .i64 D] w fun e w' => e = .returned (.tuple #[.agg #[.int .i64 yd, .int .i64 n, .bool lf, .int .i64 d], .int .i64 0]) ∧ Below w.heap.size w w')) (HR : Hid (∀ w : World, Tab w 7 kevCells → Tab w 6 lenCells → Tab w 2 Fe.cells → Calls Tryo.prog 77 #[.int .i64 yd, .int .i64 pl] w fun e w' => e = .returned (.int .i64 S) ∧ Below w.heap.size w w')) (HC : Hid (∀ w : World, Calls Tryo.prog 92 #[.int .i64 c] w fun e w' => e = .returned (.bool false) ∧ w = w')) :
  Calls Tryo.prog 41 #[.int .i64 D, .int .i64 pl] w fun e w' => e = .returned (.tuple #[.int .i64 0, .int .i64 2]) ∧ Below w.heap.size w w' := by
 have e1 : decide (D ≤ S) = false := decide_eq_false hs
 subst c
 go_enter Tryo.func41, Tryz.ntmps41
 go_wp2_with fail
 refine (HP.out _).mono ?_
 rintro e w' ⟨rfl, rfl⟩
 go_wp2_with fail
 refine (HF.out _ (Tab.below hT bel) (Tab.below hL bel)).mono ?_
 rintro e w1 ⟨rfl, hb1⟩
 go_wp2_with fail
 refine (HR.out _ (Tab.below hT bel) (Tab.below hL bel) (Tab.below hF bel)).mono ?_
 rintro e w2 ⟨rfl, hb2⟩
 obtain ⟨hc2, hf2⟩ := bcell hb2
 have hz2 := hb2.size
 try simp at hz2
 have hl2w1 : w1.heap.size < w2.heap.size := by omega
 have hm2w1 : w1.heap.size ≤ w2.heap.size := by omega
 have g2x0 : w2.cell? ⟨w1.heap.size, 0, none⟩ = some (.int .i64 yd) := cel hc2
 go_wp2_with fail
 refine (HC.out _).mono ?_
 rintro e w' ⟨rfl, rfl⟩
 go_wp2_with fail
 go_ret2
 refine ⟨rfl, ?_⟩
 exact bel
set_option maxHeartbeats 2000000 in
theorem ref23_Cycle_np (D pl : Int) (w : World) (HP : Hid (∀ w : World, Calls Tryo.prog 82 #[.int .i64 pl] w fun e w' => e = .returned (.bool false) ∧ w = w')) :
  Calls Tryo.prog 43 #[.int .i64 D, .int .i64 pl] w fun e w' => e = .returned (.tuple #[.int .i64 0, .int .i64 1]) ∧ w = w' := by
 go_enter Tryo.func43, Tryz.ntmps43
 go_wp2_with fail
 refine (HP.out _).mono ?_
 rintro e w' ⟨rfl, rfl⟩
 go_wp2_with fail
 go_ret2
 exact ⟨rfl, rfl⟩
set_option maxHeartbeats 2000000 in
theorem ref23_Cycle_er (D pl yd n d er : Int) (lf : Bool) (w : World) (her : er ≠ 0) (HP : Hid (∀ w : World, Calls Tryo.prog 82 #[.int .i64 pl] w fun e w' => e = .returned (.bool true) ∧ w = w')) (HF : Hid (∀ w : World, Calls Tryo.prog 94 #[.int .i64 D] w fun e w' => e = .returned (.tuple #[.agg #[.int .i64 yd, .int .i64 n, .bool lf, .int .i64 d], .int .i64 er]) ∧ Below w.heap.size w w')) :
  Calls Tryo.prog 43 #[.int .i64 D, .int .i64 pl] w fun e w' => e = .returned (.tuple #[.int .i64 0, .int .i64 er]) ∧ Below w.heap.size w w' := by
 have d0 : decide (er = 0) = false := decide_eq_false her
 go_enter Tryo.func43, Tryz.ntmps43
 go_wp2_with fail
 refine (HP.out _).mono ?_
 rintro e w' ⟨rfl, rfl⟩
 go_wp2_with fail
 refine (HF.out _).mono ?_
 rintro e w1 ⟨rfl, hb1⟩
 go_wp2_with fail
 go_ret2
 refine ⟨rfl, ?_⟩
 exact bel
set_option maxHeartbeats 2000000 in
theorem ref23_Cycle_lo_t (D pl yd n d S c : Int) (lf : Bool) (w : World) (y1 : 1 ≤ yd) (y2 : yd ≤ 9999) (hc : c = yd - 1) (hs : D ≤ S) (HP : Hid (∀ w : World, Calls Tryo.prog 82 #[.int .i64 pl] w fun e w' => e = .returned (.bool true) ∧ w = w')) (HF : Hid (∀ w : World, Calls Tryo.prog 94 #[.int .i64 D] w fun e w' => e = .returned (.tuple #[.agg #[.int .i64 yd, .int .i64 n, .bool lf, .int .i64 d], .int .i64 0]) ∧ Below w.heap.size w w')) (HR : Hid (∀ w : World, Calls Tryo.prog 85 #[.int .i64 yd, .int .i64 pl] w fun e w' => e = .returned (.int .i64 S) ∧ Below w.heap.size w w')) (HC : Hid (∀ w : World, Calls Tryo.prog 83 #[.int .i64 c] w fun e w' => e = .returned (.bool true) ∧ w = w')) :
  Calls Tryo.prog 43 #[.int .i64 D, .int .i64 pl] w fun e w' => e = .returned (.tuple #[.int .i64 c, .int .i64 0]) ∧ Below w.heap.size w w' := by
 have e1 : decide (D ≤ S) = true := decide_eq_true hs
 subst c
 go_enter Tryo.func43, Tryz.ntmps43
 go_wp2_with fail
 refine (HP.out _).mono ?_
 rintro e w' ⟨rfl, rfl⟩
 go_wp2_with fail
 refine (HF.out _).mono ?_
 rintro e w1 ⟨rfl, hb1⟩
 go_wp2_with fail
 refine (HR.out _).mono ?_
 rintro e w2 ⟨rfl, hb2⟩
 obtain ⟨hc2, hf2⟩ := bcell hb2
 have hz2 := hb2.size
 try simp at hz2
 have hl2w1 : w1.heap.size < w2.heap.size := by omega
 have hm2w1 : w1.heap.size ≤ w2.heap.size := by omega
 have g2x0 : w2.cell? ⟨w1.heap.size, 0, none⟩ = some (.int .i64 yd) := cel hc2
 go_wp2_with fail
 refine (HC.out _).mono ?_
 rintro e w' ⟨rfl, rfl⟩
 go_wp2_with fail
 go_ret2
 refine ⟨rfl, ?_⟩
 exact bel
set_option maxHeartbeats 2000000 in
theorem ref23_Cycle_lo_f (D pl yd n d S c : Int) (lf : Bool) (w : World) (y1 : 1 ≤ yd) (y2 : yd ≤ 9999) (hc : c = yd - 1) (hs : D ≤ S) (HP : Hid (∀ w : World, Calls Tryo.prog 82 #[.int .i64 pl] w fun e w' => e = .returned (.bool true) ∧ w = w')) (HF : Hid (∀ w : World, Calls Tryo.prog 94 #[.int .i64 D] w fun e w' => e = .returned (.tuple #[.agg #[.int .i64 yd, .int .i64 n, .bool lf, .int .i64 d], .int .i64 0]) ∧ Below w.heap.size w w')) (HR : Hid (∀ w : World, Calls Tryo.prog 85 #[.int .i64 yd, .int .i64 pl] w fun e w' => e = .returned (.int .i64 S) ∧ Below w.heap.size w w')) (HC : Hid (∀ w : World, Calls Tryo.prog 83 #[.int .i64 c] w fun e w' => e = .returned (.bool false) ∧ w = w')) :
  Calls Tryo.prog 43 #[.int .i64 D, .int .i64 pl] w fun e w' => e = .returned (.tuple #[.int .i64 0, .int .i64 2]) ∧ Below w.heap.size w w' := by
 have e1 : decide (D ≤ S) = true := decide_eq_true hs
 subst c
 go_enter Tryo.func43, Tryz.ntmps43
 go_wp2_with fail
 refine (HP.out _).mono ?_
 rintro e w' ⟨rfl, rfl⟩
 go_wp2_with fail
 refine (HF.out _).mono ?_
 rintro e w1 ⟨rfl, hb1⟩
 go_wp2_with fail
 refine (HR.out _).mono ?_
 rintro e w2 ⟨rfl, hb2⟩
 obtain ⟨hc2, hf2⟩ := bcell hb2
 have hz2 := hb2.size
 try simp at hz2
 have hl2w1 : w1.heap.size < w2.heap.size := by omega
 have hm2w1 : w1.heap.size ≤ w2.heap.size := by omega
 have g2x0 : w2.cell? ⟨w1.heap.size, 0, none⟩ = some (.int .i64 yd) := cel hc2
 go_wp2_with fail
 refine (HC.out _).mono ?_
 rintro e w' ⟨rfl, rfl⟩
 go_wp2_with fail
 go_ret2
 refine ⟨rfl, ?_⟩
 exact bel
set_option maxHeartbeats 2000000 in
theorem ref23_Cycle_hi_t (D pl yd n d S c : Int) (lf : Bool) (w : World) (y1 : 1 ≤ yd) (y2 : yd ≤ 9999) (hc : c = yd) (hs : ¬ D ≤ S) (HP : Hid (∀ w : World, Calls Tryo.prog 82 #[.int .i64 pl] w fun e w' => e = .returned (.bool true) ∧ w = w')) (HF : Hid (∀ w : World, Calls Tryo.prog 94 #[.int .i64 D] w fun e w' => e = .returned (.tuple #[.agg #[.int .i64 yd, .int .i64 n, .bool lf, .int .i64 d], .int .i64 0]) ∧ Below w.heap.size w w')) (HR : Hid (∀ w : World, Calls Tryo.prog 85 #[.int .i64 yd, .int .i64 pl] w fun e w' => e = .returned (.int .i64 S) ∧ Below w.heap.size w w')) (HC : Hid (∀ w : World, Calls Tryo.prog 83 #[.int .i64 c] w fun e w' => e = .returned (.bool true) ∧ w = w')) :
  Calls Tryo.prog 43 #[.int .i64 D, .int .i64 pl] w fun e w' => e = .returned (.tuple #[.int .i64 c, .int .i64 0]) ∧ Below w.heap.size w w' := by
 have e1 : decide (D ≤ S) = false := decide_eq_false hs
 subst c
 go_enter Tryo.func43, Tryz.ntmps43
 go_wp2_with fail
 refine (HP.out _).mono ?_
 rintro e w' ⟨rfl, rfl⟩
 go_wp2_with fail
 refine (HF.out _).mono ?_
 rintro e w1 ⟨rfl, hb1⟩
 go_wp2_with fail
 refine (HR.out _).mono ?_
 rintro e w2 ⟨rfl, hb2⟩
 obtain ⟨hc2, hf2⟩ := bcell hb2
 have hz2 := hb2.size
 try simp at hz2
 have hl2w1 : w1.heap.size < w2.heap.size := by omega
 have hm2w1 : w1.heap.size ≤ w2.heap.size := by omega
 have g2x0 : w2.cell? ⟨w1.heap.size, 0, none⟩ = some (.int .i64 yd) := cel hc2
 go_wp2_with fail
 refine (HC.out _).mono ?_
 rintro e w' ⟨rfl, rfl⟩
 go_wp2_with fail
 go_ret2
 refine ⟨rfl, ?_⟩
 exact bel
set_option maxHeartbeats 2000000 in
theorem ref23_Cycle_hi_f (D pl yd n d S c : Int) (lf : Bool) (w : World) (y1 : 1 ≤ yd) (y2 : yd ≤ 9999) (hc : c = yd) (hs : ¬ D ≤ S) (HP : Hid (∀ w : World, Calls Tryo.prog 82 #[.int .i64 pl] w fun e w' => e = .returned (.bool true) ∧ w = w')) (HF : Hid (∀ w : World, Calls Tryo.prog 94 #[.int .i64 D] w fun e w' => e = .returned (.tuple #[.agg #[.int .i64 yd, .int .i64 n, .bool lf, .int .i64 d], .int .i64 0]) ∧ Below w.heap.size w w')) (HR : Hid (∀ w : World, Calls Tryo.prog 85 #[.int .i64 yd, .int .i64 pl] w fun e w' => e = .returned (.int .i64 S) ∧ Below w.heap.size w w')) (HC : Hid (∀ w : World, Calls Tryo.prog 83 #[.int .i64 c] w fun e w' => e = .returned (.bool false) ∧ w = w')) :
  Calls Tryo.prog 43 #[.int .i64 D, .int .i64 pl] w fun e w' => e = .returned (.tuple #[.int .i64 0, .int .i64 2]) ∧ Below w.heap.size w w' := by
 have e1 : decide (D ≤ S) = false := decide_eq_false hs
 subst c
 go_enter Tryo.func43, Tryz.ntmps43
 go_wp2_with fail
 refine (HP.out _).mono ?_
 rintro e w' ⟨rfl, rfl⟩
 go_wp2_with fail
 refine (HF.out _).mono ?_
 rintro e w1 ⟨rfl, hb1⟩
 go_wp2_with fail
 refine (HR.out _).mono ?_
 rintro e w2 ⟨rfl, hb2⟩
 obtain ⟨hc2, hf2⟩ := bcell hb2
 have hz2 := hb2.size
 try simp at hz2
 have hl2w1 : w1.heap.size < w2.heap.size := by omega
 have hm2w1 : w1.heap.size ≤ w2.heap.size := by omega
 have g2x0 : w2.cell? ⟨w1.heap.size, 0, none⟩ = some (.int .i64 yd) := cel hc2
 go_wp2_with fail
 refine (HC.out _).mono ?_
 rintro e w' ⟨rfl, rfl⟩
 go_wp2_with fail
 go_ret2
 refine ⟨rfl, ?_⟩
 exact bel
end Go.Proofs.YtankichdmlkfmaaGreatDoor
