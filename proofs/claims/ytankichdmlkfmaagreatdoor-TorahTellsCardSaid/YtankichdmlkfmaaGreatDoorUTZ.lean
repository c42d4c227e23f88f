/- Merged: Tz, Tt, Ty. -/
import Derived.Test.YtankichdmlkfmaaGreatDoorUW24
import Derived.Test.YtankichdmlkfmaaGreatDoorUTQ
import Derived.Test.YtankichdmlkfmaaGreatDoorURC
set_option linter.unusedSimpArgs false
set_option linter.unusedVariables false
section
/- Layer 24: a place that is none. -/
namespace Go.Proofs.YtankichdmlkfmaaGreatDoor
open Go.ChangeShapes Go.WideShapes Go.ChangeAt Go.RowKit Go.Lib Go.Sort Go.Shelf
set_option maxRecDepth 100000
set_option maxHeartbeats 2000000 in
theorem sab_isPlace_no (pl : Int) (w : World) (h0 : pl ≠ 0) (h1 : pl ≠ 1) :
  Calls Tryo.prog 91 #[.int .i64 pl] w fun e w' => e = .returned (.bool false) ∧ w = w' := by
 have d0 : (pl == 0) = false := by simpa using h0
 have d1 : (pl == 1) = false := by simpa using h1
 have d2 : decide (pl = 0) = false := decide_eq_false h0
 have d3 : decide (pl = 1) = false := decide_eq_false h1
 go_enter Tryo.func91, Tryz.ntmps91
 go_wp2_with fail
 go_ret
 exact ⟨rfl, rfl⟩
set_option maxHeartbeats 2000000 in
theorem sab_check_bad (y pl : Int) (w : World) (h0 : pl ≠ 0) (h1 : pl ≠ 1) :
  Calls Tryo.prog 75 #[.int .i64 y, .int .i64 pl] w fun e w' => e = .returned (.int .i64 1) ∧ w = w' := by
 have HP := Lib.hid (fun w => sab_isPlace_no pl w h0 h1)
 clear h0 h1
 go_enter Tryo.func75, Tryz.ntmps75
 go_wp2_with fail
 refine (HP.out _).mono ?_
 rintro e w' ⟨rfl, rfl⟩
 go_wp2_with fail
 go_ret
 exact ⟨rfl, rfl⟩
set_option maxHeartbeats 2000000 in
theorem sab_All_bad (y pl : Int) (w : World) (h0 : pl ≠ 0) (h1 : pl ≠ 1) :
  Calls Tryo.prog 34 #[.int .i64 y, .int .i64 pl] w fun e w' => e = .returned (.tuple #[.slice none 0 0, .int .i64 1]) ∧ w = w' := by
 have HK := Lib.hid (fun w => sab_check_bad y pl w h0 h1)
 clear h0 h1
 go_enter Tryo.func34, Tryz.ntmps34
 go_wp2_with fail
 refine (HK.out _).mono ?_
 rintro e w' ⟨rfl, rfl⟩
 go_wp2_with fail
 go_ret2
 exact ⟨rfl, rfl⟩
theorem rd_Cycle_bad (y pl : Int) (w : World) (h0 : pl ≠ 0) (h1 : pl ≠ 1) :
  Calls Tryo.prog 7 #[.int .i64 y, .int .i64 pl] w fun e w' => e = .returned (.tuple #[.slice none 0 0, .int .i64 1]) ∧ w = w' :=
 rd_Cycle_no y pl 1 w (by decide) (Lib.hid fun w => sab_All_bad y pl w h0 h1)
theorem rd_Cycle_out (y : Int) (p : Bool) (w : World) (h : y < 1 ∨ 9998 < y) :
  Calls Tryo.prog 7 #[.int .i64 y, .int .i64 (if p then 1 else 0)] w fun e w' => e = .returned (.tuple #[.slice none 0 0, .int .i64 2]) ∧ w = w' :=
 rd_Cycle_no y _ 2 w (by decide) (Lib.hid fun w => by
  rcases h with h | h
  ·exact sab_All_lo y p w h
  ·exact sab_All_hi y p w h)
set_option maxHeartbeats 2000000 in
theorem sab_Cycle_bad (D pl : Int) (w : World) (h0 : pl ≠ 0) (h1 : pl ≠ 1) :
  Calls Tryo.prog 41 #[.int .i64 D, .int .i64 pl] w fun e w' => e = .returned (.tuple #[.int .i64 0, .int .i64 1]) ∧ w = w' := by
 have HP := Lib.hid (fun w => sab_isPlace_no pl w h0 h1)
 clear h0 h1
 go_enter Tryo.func41, Tryz.ntmps41
 go_wp2_with fail
 refine (HP.out _).mono ?_
 rintro e w' ⟨rfl, rfl⟩
 go_wp2_with fail
 go_ret2
 exact ⟨rfl, rfl⟩
set_option maxHeartbeats 2000000 in
theorem ref23_All_bad (y pl : Int) (w : World) (h0 : pl ≠ 0) (h1 : pl ≠ 1) :
  Calls Tryo.prog 36 #[.int .i64 y, .int .i64 pl] w fun e w' => e = .returned (.tuple #[.slice none 0 0, .int .i64 1]) ∧ w = w' := by
 have HP := Lib.hid (fun w => ref19_Place_no pl w (by simpa using h0) (by simpa using h1))
 clear h0 h1
 go_enter Tryo.func36, Tryz.ntmps36
 go_wp2_with fail
 refine (HP.out _).mono ?_
 rintro e w' ⟨rfl, rfl⟩
 go_wp2_with fail
 go_ret2
 exact ⟨rfl, rfl⟩
end Go.Proofs.YtankichdmlkfmaaGreatDoor
end
section
/- Layer 24: the document's reading of a day. -/
namespace Go.Proofs.YtankichdmlkfmaaGreatDoor
open Go.ChangeShapes Go.WideShapes Go.ChangeAt Go.RowKit Go.Lib Go.Sort Go.Shelf
set_option maxRecDepth 100000
set_option maxHeartbeats 4000000 in
theorem ref24_Of_err (D pl y er : Int) (w : World) (her : er ≠ 0) (HC : Hid (∀ w : World, Calls Tryo.prog 43 #[.int .i64 D, .int .i64 pl] w fun e w' => e = .returned (.tuple #[.int .i64 y, .int .i64 er]) ∧ Below w.heap.size w w')) :
  Calls Tryo.prog 10 #[.int .i64 D, .int .i64 pl] w fun e w' => e = .returned (.tuple #[.agg #[.int .i64 0, .int .i64 0, .int .i64 0], .int .i64 er]) ∧ Below w.heap.size w w' := by
 have d0 : decide (er = 0) = false := decide_eq_false her
 go_enter Tryo.func10, Tryz.ntmps10
 go_wp2_with fail
 refine (HC.out _).mono ?_
 rintro e w1 ⟨rfl, hb1⟩
 have hB1 : Below w.heap.size w w1 := bel
 obtain ⟨hc1, hf1⟩ := bcell hb1
 have hz1 := hb1.size
 simp at hz1
 have g1 : w1.cell? ⟨w.heap.size, 0, none⟩ = some (.int .i64 0) := (hc1 _ _ (by simp)).trans (by simp [go_sem])
 have g2 : w1.cell? ⟨w.heap.size, 1, none⟩ = some (.int .i64 0) := (hc1 _ _ (by simp)).trans (by simp [go_sem])
 have g3 : w1.cell? ⟨w.heap.size, 2, none⟩ = some (.int .i64 0) := (hc1 _ _ (by simp)).trans (by simp [go_sem])
 have g4 : ∀ i, w1.frozen? ⟨w.heap.size, i, none⟩ = false := fun i => (hf1 _ _ (by simp)).trans (by simp [go_sem])
 clear hc1 hf1
 go_wp2_with fail
 refine bodyPost_ret (v := .tuple #[.agg #[.int .i64 0, .int .i64 0, .int .i64 0], .int .i64 er]) (by simp [results, Tryz.results10, go_sem, *]) rfl ?_
 refine ⟨rfl, ?_⟩
 exact bel
set_option maxHeartbeats 4000000 in
theorem ref24_Of_no (D pl y r6 : Int) (w : World) (h6 : D % 7 = r6) (hr : r6 ≠ 6) (HC : Hid (∀ w : World, Calls Tryo.prog 43 #[.int .i64 D, .int .i64 pl] w fun e w' => e = .returned (.tuple #[.int .i64 y, .int .i64 0]) ∧ Below w.heap.size w w')) (HWd : Hid (∀ w : World, Calls Tryo.prog 44 #[.int .i64 D] w fun e w' => e = .returned (.int .i64 (D % 7)) ∧ w = w')) :
  Calls Tryo.prog 10 #[.int .i64 D, .int .i64 pl] w fun e w' => e = .returned (.tuple #[.agg #[.int .i64 0, .int .i64 0, .int .i64 0], .int .i64 4]) ∧ Below w.heap.size w w' := by
 rw [h6] at HWd
 have d6 : decide (r6 = 6) = false := decide_eq_false hr
 go_enter Tryo.func10, Tryz.ntmps10
 go_wp2_with fail
 refine (HC.out _).mono ?_
 rintro e w1 ⟨rfl, hb1⟩
 have hB1 : Below w.heap.size w w1 := bel
 obtain ⟨hc1, hf1⟩ := bcell hb1
 have hz1 := hb1.size
 simp at hz1
 have g1 : w1.cell? ⟨w.heap.size, 0, none⟩ = some (.int .i64 0) := (hc1 _ _ (by simp)).trans (by simp [go_sem])
 have g2 : w1.cell? ⟨w.heap.size, 1, none⟩ = some (.int .i64 0) := (hc1 _ _ (by simp)).trans (by simp [go_sem])
 have g3 : w1.cell? ⟨w.heap.size, 2, none⟩ = some (.int .i64 0) := (hc1 _ _ (by simp)).trans (by simp [go_sem])
 have g4 : ∀ i, w1.frozen? ⟨w.heap.size, i, none⟩ = false := fun i => (hf1 _ _ (by simp)).trans (by simp [go_sem])
 clear hc1 hf1
 go_wp2_with fail
 refine (HWd.out _).mono ?_
 rintro e w' ⟨rfl, rfl⟩
 go_wp2_with fail
 refine bodyPost_ret (v := .tuple #[.agg #[.int .i64 0, .int .i64 0, .int .i64 0], .int .i64 4]) (by simp [results, Tryz.results10, go_sem, *]) rfl ?_
 refine ⟨rfl, ?_⟩
 exact bel
set_option maxHeartbeats 4000000 in
theorem ref24_Of_go (D pl y r1 r2 : Int) (L : List Rd) (n : Nat) (w : World) (hl : L.length = n) (hn : n ≤ 100) (h6 : D % 7 = 6) (HX : Hid (L.find? (Rd.onDay D) = some (r1, r2, D))) (HC : Hid (∀ w : World, Calls Tryo.prog 43 #[.int .i64 D, .int .i64 pl] w fun e w' => e = .returned (.tuple #[.int .i64 y, .int .i64 0]) ∧ Below w.heap.size w w')) (HWd : Hid (∀ w : World, Calls Tryo.prog 44 #[.int .i64 D] w fun e w' => e = .returned (.int .i64 (D % 7)) ∧ w = w')) (HY : Hid (∀ w : World, Calls Tryo.prog 8 #[.int .i64 y, .int .i64 pl] w fun e w' => ∃ v, e = .returned (.tuple #[v, .int .i64 0]) ∧ Rd.Own w' w.heap.size v L ∧ Below w.heap.size w w')) :
  Calls Tryo.prog 10 #[.int .i64 D, .int .i64 pl] w fun e w' => e = .returned (.tuple #[.agg #[.int .i64 r1, .int .i64 r2, .int .i64 D], .int .i64 0]) ∧ Below w.heap.size w w' := by
 rw [h6] at HWd
 go_enter Tryo.func10, Tryz.ntmps10
 go_wp2_with fail
 refine (HC.out _).mono ?_
 rintro e w1 ⟨rfl, hb1⟩
 have hB1 : Below w.heap.size w w1 := bel
 obtain ⟨hc1, hf1⟩ := bcell hb1
 have hz1 := hb1.size
 simp at hz1
 have g1 : w1.cell? ⟨w.heap.size, 0, none⟩ = some (.int .i64 0) := (hc1 _ _ (by simp)).trans (by simp [go_sem])
 have g2 : w1.cell? ⟨w.heap.size, 1, none⟩ = some (.int .i64 0) := (hc1 _ _ (by simp)).trans (by simp [go_sem])
 have g3 : w1.cell? ⟨w.heap.size, 2, none⟩ = some (.int .i64 0) := (hc1 _ _ (by simp)).trans (by simp [go_sem])
 have g4 : ∀ i, w1.frozen? ⟨w.heap.size, i, none⟩ = false := fun i => (hf1 _ _ (by simp)).trans (by simp [go_sem])
 clear hc1 hf1
 go_wp2_with fail
 refine (HWd.out _).mono ?_
 rintro e w' ⟨rfl, rfl⟩
 go_wp2_with fail
 refine (HY.out _).mono ?_
 rintro e w2 ⟨v2, rfl, ho2, hb2⟩
 have hr := ho2.row
 obtain ⟨p2, c2, rfl⟩ := hr.len
 rw [hl]
 have HN := Lib.hid hl
 have hB12 : Below w1.heap.size w1 w2 := bel
 have hB2 : Below w.heap.size w w2 := bt hB1 hB12
 have k1 := (hB12.cell (p := ⟨w.heap.size, 0, none⟩) (by show w.heap.size < _; omega)).trans g1
 have k2 := (hB12.cell (p := ⟨w.heap.size, 1, none⟩) (by show w.heap.size < _; omega)).trans g2
 have k3 := (hB12.cell (p := ⟨w.heap.size, 2, none⟩) (by show w.heap.size < _; omega)).trans g3
 have k4 : ∀ i, w2.frozen? ⟨w.heap.size, i, none⟩ = false := fun i => (hB12.frozen (p := ⟨w.heap.size, i, none⟩) (by show w.heap.size < _; omega)).trans (g4 i)
 have hz2 := hB12.size
 clear ho2 HY HC hl g1 g2 g3 g4
 have HK1 := Lib.hid k1
 have HK2 := Lib.hid k2
 have HK3 := Lib.hid k3
 have HK4 := Lib.hid k4
 clear k1 k2 k3 k4
 go_wp2_with fail
 go_loopw [10] (fun i wr => ∃ j : Nat, j ≤ n ∧ i = .int .i64 (j : Int) ∧ Hid ((L.take j).find? (Rd.onDay D) = none) ∧ Below w2.heap.size w2 wr) (fun i _ => n - (intOf i).toNat)
 case atStart => exact ⟨0, Nat.zero_le _, rfl, Lib.hid rfl, bel⟩
 case round =>
  obtain ⟨j, hj, rfl, HG, hB⟩ := hrel
  obtain ⟨w9, rfl⟩ : ∃ x, x = wr := ⟨_, rfl⟩
  have hBw : Below w.heap.size w w9 := bt hB2 hB
  have hs9 := hB.size
  by_cases hlt : j < n
  ·obtain ⟨x, hx⟩ : ∃ x, L[j]? = some x := ⟨_, List.getElem?_eq_getElem (by rw [HN.out]; exact hlt)⟩
   obtain ⟨x1, x2, x3⟩ := x
   obtain ⟨b, off, cc, hp1, hc⟩ := (hr.below hB).at_some (by rw [HN.out]; omega)
   rw [HN.out] at hp1
   simp only [Value.slice.injEq] at hp1
   obtain ⟨rfl, _, rfl⟩ := hp1
   obtain ⟨cx1, cx2, cx3⟩ := Rd.cells_at hc j (x1, x2, x3) hx
   have lx := World.block_lt_of_cell? _ _ cx1
   dsimp only at lx cx1 cx2 cx3
   have j0 : (0 : Int) ≤ (j : Int) := by omega
   have j1 : (j : Int) < (n : Int) := by omega
   have k1 := (hB.cell (p := ⟨w.heap.size, 0, none⟩) (by show w.heap.size < _; omega)).trans HK1.out
   have k2 := (hB.cell (p := ⟨w.heap.size, 1, none⟩) (by show w.heap.size < _; omega)).trans HK2.out
   have k3 := (hB.cell (p := ⟨w.heap.size, 2, none⟩) (by show w.heap.size < _; omega)).trans HK3.out
   have k4 : ∀ i, w9.frozen? ⟨w.heap.size, i, none⟩ = false := fun i => (hB.frozen (p := ⟨w.heap.size, i, none⟩) (by show w.heap.size < _; omega)).trans (HK4.out i)
   have lg : w.heap.size < w9.heap.size := by omega
   by_cases c : x3 = D
   ·have HH := Lib.hid (Rd.find_hit (Rd.onDay D) L j (x1, x2, x3) hx HG.out (by simp [Rd.onDay, c]))
    subst c
    have e1 : x1 = r1 ∧ x2 = r2 := by have h1 := HX.out; rw [HH.out] at h1; simpa using h1
    obtain ⟨rfl, rfl⟩ := e1
    clear hc hx HG
    go_wp2_with fail
    refine bodyPost_ret (v := .tuple #[.agg #[.int .i64 x1, .int .i64 x2, .int .i64 x3], .int .i64 0]) (by simp [results, Tryz.results10, go_sem, *]) rfl ?_
    refine ⟨rfl, ?_⟩
    exact bel
   ·have HH := Lib.hid (Rd.find_next (Rd.onDay D) L j (x1, x2, x3) hx HG.out (by simpa [Rd.onDay] using c))
    clear hc hx k1 k2 k3 k4
    have c3 : decide (x3 = D) = false := decide_eq_false c
    go_wp2_with fail
    go_roundw
    case rel => exact ⟨j + 1, by omega, by go_num, HH, bel⟩
    case measure => simp [intOf]; omega
  ·exfalso
   have h1 := HG.out
   rw [List.take_of_length_le (by rw [HN.out]; omega)] at h1
   rw [HX.out] at h1
   cases h1
end Go.Proofs.YtankichdmlkfmaaGreatDoor
end
section
/- Layer 24: names out of range; the document's Pair and Name. -/
namespace Go.Proofs.YtankichdmlkfmaaGreatDoor
open Go.ChangeShapes Go.WideShapes Go.ChangeAt Go.RowKit Go.Lib Go.Sort Go.Shelf
set_option maxRecDepth 100000
set_option maxHeartbeats 2000000 in
theorem rd_Name_lo (n : Int) (w : World) (h : n < 1) :
  Calls Tryo.prog 13 #[.int .i64 n] w fun e w' => e = .returned (.string ⟨#[]⟩) ∧ w = w' := by
 have d1 : decide (n < 1) = true := decide_eq_true h
 go_enter Tryo.func13, Tryz.ntmps13
 go_wp2_with fail
 go_ret
 exact ⟨rfl, rfl⟩
set_option maxHeartbeats 2000000 in
theorem rd_Name_hi (n : Int) (w : World) (h : 54 < n) :
  Calls Tryo.prog 13 #[.int .i64 n] w fun e w' => e = .returned (.string ⟨#[]⟩) ∧ w = w' := by
 have d0 : ¬ n < 1 := by omega
 have d1 : decide (n < 1) = false := decide_eq_false d0
 have d2 : decide (54 < n) = true := decide_eq_true h
 go_enter Tryo.func13, Tryz.ntmps13
 go_wp2_with fail
 go_ret
 exact ⟨rfl, rfl⟩
set_option maxHeartbeats 2000000 in
theorem rd_Of_bad (D pl : Int) (w : World) (h0 : pl ≠ 0) (h1 : pl ≠ 1) :
  Calls Tryo.prog 9 #[.int .i64 D, .int .i64 pl] w fun e w' => e = .returned (.tuple #[.agg #[.int .i64 0, .int .i64 0, .int .i64 0], .int .i64 1]) ∧ Below w.heap.size w w' := by
 have HC := Lib.hid (fun w => sab_Cycle_bad D pl w h0 h1)
 clear h0 h1
 go_enter Tryo.func9, Tryz.ntmps9
 go_wp2_with fail
 refine (HC.out _).mono ?_
 rintro e w' ⟨rfl, rfl⟩
 go_wp2_with fail
 refine bodyPost_ret (v := .tuple #[.agg #[.int .i64 0, .int .i64 0, .int .i64 0], .int .i64 1]) (by simp [results, Tryz.results9, go_sem, *]) rfl ?_
 refine ⟨rfl, ?_⟩
 exact bel
set_option maxHeartbeats 2000000 in
theorem ref24_Pair_yes (n : Int) (w : World) (h : n ∈ Rd.prL) :
  Calls Tryo.prog 16 #[.int .i64 n] w fun e w' => e = .returned (.bool true) ∧ w = w' := by
 simp only [Rd.prL, List.mem_cons, List.not_mem_nil, or_false] at h
 rcases h with rfl | rfl | rfl | rfl | rfl | rfl | rfl <;> (go_enter Tryo.func16, Tryz.ntmps16; go_wp2_with fail; go_ret; exact ⟨rfl, rfl⟩)
set_option maxHeartbeats 2000000 in
theorem ref24_Pair_no (n : Int) (w : World) (h : n ∉ Rd.prL) :
  Calls Tryo.prog 16 #[.int .i64 n] w fun e w' => e = .returned (.bool false) ∧ w = w' := by
 simp only [Rd.prL, List.mem_cons, List.not_mem_nil, or_false, not_or] at h
 obtain ⟨h1, h2, h3, h4, h5, h6, h7⟩ := h
 have d1 : decide (n = 22) = false := decide_eq_false h1
 have d2 : decide (n = 27) = false := decide_eq_false h2
 have d3 : decide (n = 29) = false := decide_eq_false h3
 have d4 : decide (n = 32) = false := decide_eq_false h4
 have d5 : decide (n = 39) = false := decide_eq_false h5
 have d6 : decide (n = 42) = false := decide_eq_false h6
 have d7 : decide (n = 51) = false := decide_eq_false h7
 go_enter Tryo.func16, Tryz.ntmps16
 go_wp2_with fail
 go_ret
 exact ⟨by first | rfl | simp [*], rfl⟩
end Go.Proofs.YtankichdmlkfmaaGreatDoor
end
