/- Layer 24: TorahTells. -/
import Derived.Test.YtankichdmlkfmaaGreatDoorUTe
import Derived.Test.YtankichdmlkfmaaGreatDoorUTK
import Derived.Test.YtankichdmlkfmaaGreatDoorUTX
import Derived.Test.YtankichdmlkfmaaGreatDoorUTZ
set_option linter.unusedSimpArgs false
set_option linter.unusedVariables false
namespace Go.Proofs.YtankichdmlkfmaaGreatDoor
open Go.ChangeShapes Go.WideShapes Go.ChangeAt Go.RowKit Go.Lib Go.Sort Go.Shelf
set_option maxRecDepth 100000
set_option maxHeartbeats 8000000 in
theorem TorahTells_go (y pl D n r1 r2 r3 er1 er2 : Int) (s : ByteArray) (b : Bool) (L : List Rd) (k : Nat) (w : World) (hl : L.length = k) (hk : k ≤ 1000) (hT : Tab w 7 kevCells) (hL : Tab w 6 lenCells) (hF : Tab w 2 Fe.cells) (hP : Tab w 1 Rd.prCells) (hN : Tab w 0 Rd.nmCells)
  (HA : Hid (∀ w : World, Tab w 7 kevCells → Tab w 6 lenCells → Tab w 2 Fe.cells → Calls Tryo.prog 7 #[.int .i64 y, .int .i64 pl] w fun e w' => ∃ v, e = .returned (.tuple #[v, .int .i64 er1]) ∧ Rd.Row w' v L ∧ Below w.heap.size w w'))
  (HB : Hid (∀ w : World, Calls Tryo.prog 8 #[.int .i64 y, .int .i64 pl] w fun e w' => ∃ v, e = .returned (.tuple #[v, .int .i64 er1]) ∧ Rd.Row w' v L ∧ Below w.heap.size w w'))
  (HC : Hid (∀ w : World, Tab w 7 kevCells → Tab w 6 lenCells → Tab w 2 Fe.cells → Calls Tryo.prog 9 #[.int .i64 D, .int .i64 pl] w fun e w' => e = .returned (.tuple #[.agg #[.int .i64 r1, .int .i64 r2, .int .i64 r3], .int .i64 er2]) ∧ Below w.heap.size w w'))
  (HD : Hid (∀ w : World, Calls Tryo.prog 10 #[.int .i64 D, .int .i64 pl] w fun e w' => e = .returned (.tuple #[.agg #[.int .i64 r1, .int .i64 r2, .int .i64 r3], .int .i64 er2]) ∧ Below w.heap.size w w'))
  (HN : Hid (∀ w : World, Tab w 0 Rd.nmCells → Calls Tryo.prog 13 #[.int .i64 n] w fun e w' => e = .returned (.string s) ∧ w = w'))
  (HM : Hid (∀ w : World, Calls Tryo.prog 14 #[.int .i64 n] w fun e w' => e = .returned (.string s) ∧ Below w.heap.size w w'))
  (HP : Hid (∀ w : World, Tab w 1 Rd.prCells → Calls Tryo.prog 15 #[.int .i64 n] w fun e w' => e = .returned (.bool b) ∧ w = w'))
  (HQ : Hid (∀ w : World, Calls Tryo.prog 16 #[.int .i64 n] w fun e w' => e = .returned (.bool b) ∧ w = w')) :
  Calls Tryo.prog 3 #[.agg #[.int .i64 y, .int .i64 pl, .int .i64 D, .int .i64 n]] w fun e w' => e = .returned (.bool true) ∧ Below w.heap.size w w' := by
 have HS := Lib.hid (fun va vb w ha hb => ref24_Same va vb L k w ha hb hl hk)
 have HW := Lib.hid (fun w hT hL hF hP hN => awake24 w hT hL hF hP hN)
 have HE := Lib.hid (show (s.toList == s.toList) = true by simp)
 clear hl hk
 go_enter Tryo.func3, Tryz.ntmps3
 go_wp2_with fail
 refine settle (fun W => W.cell? ⟨w.heap.size, 0, none⟩ = some (.int .i64 y) ∧ W.cell? ⟨w.heap.size, 1, none⟩ = some (.int .i64 pl) ∧ W.cell? ⟨w.heap.size, 2, none⟩ = some (.int .i64 D) ∧ W.cell? ⟨w.heap.size, 3, none⟩ = some (.int .i64 n) ∧ w.heap.size < W.heap.size ∧ Below w.heap.size w W) ⟨?_, ?_, ?_, ?_, ?_, ?_⟩ ?_
 ·(first | (with_reducible assumption) | (simp [go_sem, *]; done) | assumption)
 ·(first | (with_reducible assumption) | (simp [go_sem, *]; done) | assumption)
 ·(first | (with_reducible assumption) | (simp [go_sem, *]; done) | assumption)
 ·(first | (with_reducible assumption) | (simp [go_sem, *]; done) | assumption)
 ·(first | assumption | (simp; done) | (simp; omega) | omega)
 ·(repeat (first | exact Below.refl _ _ | assumption | (with_reducible refine bdrew ?_) | (with_reducible refine baa ?_ _) | (with_reducible refine bs ?_ (by first | exact Nat.le_refl _ | omega | (simp; done) | (simp; omega)) _) | (with_reducible refine bt ?_ (by assumption))))
 rintro W0 ⟨r0x0, r0x1, r0x2, r0x3, rs0x0, hB0⟩
 refine wp_region_class (by kernel_rfl) (by kernel_rfl) (fun hall => ?_)
 repeat (first | go_big_quiet_skip | (go_big_quiet_want; first | (refine quiet_load1 _ _ _ rfl rfl ?_ ?_ ?_; (focus (intro _; simp; done)); (focus (first | assumption | omega | (simp; done) | (simp; omega))); apply Exists.intro; refine ⟨?_, ?_⟩; assumption; go_simp; go_big_quiet_on) | (refine quiet_load2 _ _ _ _ rfl rfl ?_ ?_ ?_ ?_; (focus (intro _; simp; done)); (focus (intro _; simp; done)); (focus (first | assumption | omega | (simp; done) | (simp; omega))); apply Exists.intro; apply Exists.intro; refine ⟨?_, ?_, ?_⟩; assumption; assumption; go_simp; go_big_quiet_on) | (refine quiet_load3 _ _ _ _ rfl rfl ?_ ?_ ?_ ?_; (focus (intro _; simp; done)); (focus (intro _; simp; done)); (focus (first | assumption | omega | (simp; done) | (simp; omega))); apply Exists.intro; apply Exists.intro; apply Exists.intro; refine ⟨?_, ?_, ?_, ?_⟩; assumption; assumption; assumption; go_simp; go_big_quiet_on) | (refine quiet_load4 _ _ _ _ rfl rfl ?_ ?_ ?_ ?_; (focus (intro _; simp; done)); (focus (intro _; simp; done)); (focus (first | assumption | omega | (simp; done) | (simp; omega))); apply Exists.intro; apply Exists.intro; apply Exists.intro; apply Exists.intro; refine ⟨?_, ?_, ?_, ?_, ?_⟩; assumption; assumption; assumption; assumption; go_simp; go_big_quiet_on) | (go_big_quiet_op; first | go_big_quiet_on | (apply Exists.intro; refine ⟨fun x hx => ?_, ?_⟩; (first | fail); go_big_quiet_on))))
 refine wpQuiet_nil ?_
 clear hall
 intro x0 hx0
 go_wp2_with fail
 refine (HA.out _ (Tab.below hT bel) (Tab.below hL bel) (Tab.below hF bel)).mono ?_
 rintro e w1 ⟨v1, rfl, ho1, hb1⟩
 have hB1 : Below w.heap.size w w1 := bel
 go_wp2_with fail
 refine (HB.out _).mono ?_
 rintro e w2 ⟨v2, rfl, ho2, hb2⟩
 have hB12 : Below w1.heap.size w1 w2 := bel
 have hB2 : Below w.heap.size w w2 := bt hB1 hB12
 have HO1 := Lib.hid (ho1.below hB12)
 clear ho1
 go_wp2_with fail
 refine (HC.out _ (Tab.below hT bel) (Tab.below hL bel) (Tab.below hF bel)).mono ?_
 rintro e w3 ⟨rfl, hb3⟩
 have hB23 : Below w2.heap.size w2 w3 := bel
 have hB3 : Below w.heap.size w w3 := bt hB2 hB23
 have hz23 := hB23.size
 go_wp2_with fail
 refine (HD.out _).mono ?_
 rintro e w4 ⟨rfl, hb4⟩
 have hB34 : Below w3.heap.size w3 w4 := bel
 have hB4 : Below w.heap.size w w4 := bt hB3 hB34
 obtain ⟨hc4, hf4⟩ := bcell hb4
 have hz4 := hb4.size
 try simp at hz4
 have hl4x3 : w3.heap.size < w4.heap.size := by omega
 have g4x3x0 : w4.cell? ⟨w3.heap.size, 0, none⟩ = some (.int .i64 r1) := cel hc4
 have g4x3x1 : w4.cell? ⟨w3.heap.size, 1, none⟩ = some (.int .i64 r2) := cel hc4
 have g4x3x2 : w4.cell? ⟨w3.heap.size, 2, none⟩ = some (.int .i64 r3) := cel hc4
 clear hc4 hf4
 go_wp2_with fail
 refine (HW.out _ (Tab.below hT bel) (Tab.below hL bel) (Tab.below hF bel) (Tab.below hP bel) (Tab.below hN bel)).mono ?_
 rintro e w5 ⟨rfl, hb5⟩
 have hB45 : Below w4.heap.size w4 w5 := bel
 have hB5 : Below w.heap.size w w5 := bt hB4 hB45
 obtain ⟨hc5, hf5⟩ := bcell hb5
 have hz5 := hb5.size
 try simp at hz5
 have hl5x3 : w3.heap.size < w5.heap.size := by omega
 have hl5x4 : w4.heap.size < w5.heap.size := by omega
 have g5x3x0 : w5.cell? ⟨w3.heap.size, 0, none⟩ = some (.int .i64 r1) := cel hc5
 have g5x3x1 : w5.cell? ⟨w3.heap.size, 1, none⟩ = some (.int .i64 r2) := cel hc5
 have g5x3x2 : w5.cell? ⟨w3.heap.size, 2, none⟩ = some (.int .i64 r3) := cel hc5
 have g5x4x0 : w5.cell? ⟨w4.heap.size, 0, none⟩ = some (.int .i64 r1) := cel hc5
 have g5x4x1 : w5.cell? ⟨w4.heap.size, 1, none⟩ = some (.int .i64 r2) := cel hc5
 have g5x4x2 : w5.cell? ⟨w4.heap.size, 2, none⟩ = some (.int .i64 r3) := cel hc5
 clear hc5 hf5 g4x3x0 g4x3x1 g4x3x2
 have hB25 : Below w2.heap.size w2 w5 := bt (bt hB23 hB34) hB45
 have R1 := Lib.hid (HO1.out.below hB25)
 have R2 := Lib.hid (ho2.below hB25)
 clear HO1 ho2
 go_wp2_with fail
 refine (HS.out _ _ _ R1.out R2.out).mono ?_
 rintro e w6 ⟨rfl, hb6⟩
 have hB56 : Below w5.heap.size w5 w6 := bel
 have hB6 : Below w.heap.size w w6 := bt hB5 hB56
 obtain ⟨hc6, hf6⟩ := bcell hb6
 have hz6 := hb6.size
 try simp at hz6
 have hl6x3 : w3.heap.size < w6.heap.size := by omega
 have hl6x4 : w4.heap.size < w6.heap.size := by omega
 have g6x3x0 : w6.cell? ⟨w3.heap.size, 0, none⟩ = some (.int .i64 r1) := cel hc6
 have g6x3x1 : w6.cell? ⟨w3.heap.size, 1, none⟩ = some (.int .i64 r2) := cel hc6
 have g6x3x2 : w6.cell? ⟨w3.heap.size, 2, none⟩ = some (.int .i64 r3) := cel hc6
 have g6x4x0 : w6.cell? ⟨w4.heap.size, 0, none⟩ = some (.int .i64 r1) := cel hc6
 have g6x4x1 : w6.cell? ⟨w4.heap.size, 1, none⟩ = some (.int .i64 r2) := cel hc6
 have g6x4x2 : w6.cell? ⟨w4.heap.size, 2, none⟩ = some (.int .i64 r3) := cel hc6
 clear hc6 hf6 g5x3x0 g5x3x1 g5x3x2 g5x4x0 g5x4x1 g5x4x2
 go_wp2_with fail
 refine (HN.out _ (Tab.below hN bel)).mono ?_
 rintro e w' ⟨rfl, rfl⟩
 go_wp2_with fail
 refine (HM.out _).mono ?_
 rintro e w7 ⟨rfl, hb7⟩
 have hB7 : Below w.heap.size w w7 := bel
 have he := HE.out
 go_wp2_with fail
 refine (HP.out _ (Tab.below hP bel)).mono ?_
 rintro e w' ⟨rfl, rfl⟩
 go_wp2_with fail
 refine (HQ.out _).mono ?_
 rintro e w' ⟨rfl, rfl⟩
 go_wp2_with fail
 cases b
 ·go_ret
  refine ⟨rfl, ?_⟩
  exact bel
 ·go_ret
  refine ⟨rfl, ?_⟩
  exact bel
theorem Rd.name_both (n : Int) : ∃ s : ByteArray, Hid (∀ w : World, Tab w 0 Rd.nmCells → Calls Tryo.prog 13 #[.int .i64 n] w fun e w' => e = .returned (.string s) ∧ w = w') ∧ Hid (∀ w : World, Calls Tryo.prog 14 #[.int .i64 n] w fun e w' => e = .returned (.string s) ∧ Below w.heap.size w w') := by
 by_cases h1 : n < 1
 ·exact ⟨_, Lib.hid fun w _ => rd_Name_lo n w h1, Lib.hid fun w => ref24_Name_lo n w h1⟩
 ·by_cases h2 : 54 < n
  ·exact ⟨_, Lib.hid fun w _ => rd_Name_hi n w h2, Lib.hid fun w => ref24_Name_hi n w h2⟩
  ·exact ⟨_, Lib.hid fun w h => rd_Name n w (by omega) (by omega) h, Lib.hid fun w => ref24_Name_in n w (by omega) (by omega)⟩
theorem Rd.pair_both (n : Int) : ∃ b : Bool, Hid (∀ w : World, Tab w 1 Rd.prCells → Calls Tryo.prog 15 #[.int .i64 n] w fun e w' => e = .returned (.bool b) ∧ w = w') ∧ Hid (∀ w : World, Calls Tryo.prog 16 #[.int .i64 n] w fun e w' => e = .returned (.bool b) ∧ w = w') := by
 by_cases h : n ∈ Rd.prL
 ·exact ⟨true, Lib.hid fun w hp => by have := rd_Pair n w hp; rwa [decide_eq_true h] at this, Lib.hid fun w => ref24_Pair_yes n w h⟩
 ·exact ⟨false, Lib.hid fun w hp => by have := rd_Pair n w hp; rwa [decide_eq_false h] at this, Lib.hid fun w => ref24_Pair_no n w h⟩
theorem TorahTells_walk (y pl D n : Int) (hy : I64 y) (hpl : I64 pl) (hD : I64 D) (hn : I64 n) (w : World) (hT : Tab w 7 kevCells) (hL : Tab w 6 lenCells) (hF : Tab w 2 Fe.cells) (hP : Tab w 1 Rd.prCells) (hN : Tab w 0 Rd.nmCells) :
  Calls Tryo.prog 3 #[.agg #[.int .i64 y, .int .i64 pl, .int .i64 D, .int .i64 n]] w fun e w' => e = .returned (.bool true) ∧ Below w.heap.size w w' := by
 obtain ⟨s, HN, HM⟩ := Rd.name_both n
 obtain ⟨b, HPr, HQ⟩ := Rd.pair_both n
 have nilR : ∀ w : World, Rd.Row w (.slice none 0 0) [] := fun w => .inl ⟨rfl, rfl⟩
 by_cases hp : pl = 0 ∨ pl = 1
 ·obtain ⟨p, rfl⟩ : ∃ p : Bool, pl = if p then 1 else 0 := by
   rcases hp with rfl | rfl
   ·exact ⟨false, rfl⟩
   ·exact ⟨true, rfl⟩
  obtain ⟨r1, r2, r3, er2, HC, HD⟩ := rd_both D p hD
  by_cases hr : 1 ≤ y ∧ y ≤ 9998
  ·obtain ⟨i, h⟩ := Yr.is_some y hr.1 (by omega)
   obtain ⟨i2, h2⟩ := Yr.is_some (y + 1) (by omega) (by omega)
   have hn := Rd.len_at h.2.2.1 p
   refine TorahTells_go y _ D n r1 r2 r3 0 er2 s b ((Rd.cyc0 i p).map (Rd.sh (Cal.first y - kevB i))) _ w rfl (by rw [List.length_map]; omega) hT hL hF hP hN ?_ ?_ HC HD HN HM HPr HQ
   ·exact Lib.hid fun w hT hL hF => (rd_Cycle y i i2 p w h h2 hT hL hF).mono (by rintro e w' ⟨v, rfl, ho, hb⟩; exact ⟨v, rfl, ho.row, hb⟩)
   ·exact Lib.hid fun w => (ref24_Cycle y i i2 p w h h2).mono (by rintro e w' ⟨v, rfl, ho, hb⟩; exact ⟨v, rfl, ho.row, hb⟩)
  ·have hr' : y < 1 ∨ 9998 < y := by omega
   refine TorahTells_go y _ D n r1 r2 r3 2 er2 s b [] 0 w rfl (by omega) hT hL hF hP hN ?_ ?_ HC HD HN HM HPr HQ
   ·exact Lib.hid fun w _ _ _ => (rd_Cycle_out y p w hr').mono (by rintro e w' ⟨rfl, rfl⟩; exact ⟨_, rfl, nilR _, Below.refl _ _⟩)
   ·exact Lib.hid fun w => (ref24_Cycle_out y p w hr').mono (by rintro e w' ⟨rfl, hb⟩; exact ⟨_, rfl, nilR _, hb⟩)
 ·have h0 : pl ≠ 0 := fun h => hp (.inl h)
  have h1 : pl ≠ 1 := fun h => hp (.inr h)
  refine TorahTells_go y pl D n 0 0 0 1 1 s b [] 0 w rfl (by omega) hT hL hF hP hN ?_ ?_ (Lib.hid fun w _ _ _ => rd_Of_bad D pl w h0 h1) (Lib.hid fun w => ref24_Of_bad D pl w h0 h1) HN HM HPr HQ
  ·exact Lib.hid fun w _ _ _ => (rd_Cycle_bad y pl w h0 h1).mono (by rintro e w' ⟨rfl, rfl⟩; exact ⟨_, rfl, nilR _, Below.refl _ _⟩)
  ·exact Lib.hid fun w => (ref24_Cycle_bad y pl w h0 h1).mono (by rintro e w' ⟨rfl, hb⟩; exact ⟨_, rfl, nilR _, hb⟩)
end Go.Proofs.YtankichdmlkfmaaGreatDoor
