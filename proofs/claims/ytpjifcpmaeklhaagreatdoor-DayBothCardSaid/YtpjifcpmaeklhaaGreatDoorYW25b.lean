import Derived.Test.YtpjifcpmaeklhaaGreatDoorYW25
import Derived.Test.YtpjifcpmaeklhaaGreatDoorYG2
set_option maxHeartbeats 8000000
set_option maxRecDepth 100000
set_option linter.unusedSimpArgs false
set_option linter.unusedVariables false
namespace Go.Proofs.YtpjifcpmaeklhaaGreatDoor
open Go.ChangeShapes Go.WideShapes Go.ChangeAt Go.RowKit Go.Lib Go.Sort Go.Shelf
namespace Ev
theorem on_app (D : Int) (a b : List (Int × Int)) : on D (a ++ b) = on D a ++ on D b := by simp [on]
theorem on_at {D : Int} {l : List (Int × Int)} {j : Nat} {k : Int} (h : l[j]? = some (k, D)) : (on D l)[(on D (l.take j)).length]? = some k := by
 have hlt := (List.getElem?_eq_some_iff.1 h).1
 have hv := (List.getElem?_eq_some_iff.1 h).2
 have e : on D l = on D (l.take j) ++ (k :: on D (l.drop (j + 1))) := by
  rw [show k :: on D (l.drop (j + 1)) = on D ((k, D) :: l.drop (j + 1)) by simp [on], ← on_app, ← hv, ← List.drop_eq_getElem_cons hlt, List.take_append_drop]
 rw [e, List.getElem?_append_right (Nat.le_refl _), Nat.sub_self]
 rfl
end Ev
theorem DayBoth_out (n pl : Int) (w : World) (hp : 0 ≤ pl ∧ pl ≤ 255) (hT : Tab w 4 kevCells) (hL : Tab w 3 lenCells) (hF : Tab w 0 Fe.cells) (hA : Tab w 1 Fa.cells) (hG : Tab w 2 Gr.gregCells)
  (HD : Hid (∀ w : World, Calls Tryo.prog 5 #[.int .i64 n, .int .i64 (pl % 2)] w fun e w' => e = .returned (.tuple #[.agg #[.int .i64 0, .int .i64 0, .int .i64 0, .bool false, .int .i64 0, .int .i64 0, .int .i64 0, .int .i64 0, .int .i64 0, .int .i64 0, .slice none 0 0, .int .i64 0, .int .i64 0, .int .i64 0], .int .i64 2]) ∧ Below w.heap.size w w'))
  (HR : Hid (∀ w : World, Calls Tryo.prog 6 #[.int .i64 n] w fun e w' => e = .returned (.tuple #[.agg #[.int .i64 0, .int .i64 0, .bool false, .int .i64 0], .int .i64 2]) ∧ Below w.heap.size w w')) :
  Calls Tryo.prog 3 #[.int .i64 n, .int .u8 pl] w fun e w' => e = .returned (.bool true) ∧ Below w.heap.size w w' := by
 have HW := Lib.hid (fun w hT hL hF hA hG => awake25 w hT hL hF hA hG)
 have k0 : pl.tmod 2 = pl % 2 := Int.tmod_eq_emod_of_nonneg hp.1
 have k1' := Int.emod_nonneg pl (show (2 : Int) ≠ 0 by decide)
 have k2' := Int.emod_lt_of_pos pl (show (0 : Int) < 2 by decide)
 go_enter Tryo.func3, Tryz.ntmps3
 go_wp2_with fail
 refine (HD.out _).mono ?_
 rintro e w1 ⟨rfl, hb1⟩
 have hB1 : Below w.heap.size w w1 := bel
 go_wp2_with fail
 refine (HR.out _).mono ?_
 rintro e w2 ⟨rfl, hb2⟩
 have hB2 : Below w.heap.size w w2 := bel
 go_wp2_with fail
 refine (HW.out _ (Tab.below hT bel) (Tab.below hL bel) (Tab.below hF bel) (Tab.below hA bel) (Tab.below hG bel)).mono ?_
 rintro e w3 ⟨rfl, hb3⟩
 have hB3 : Below w.heap.size w w3 := bel
 go_wp2_with fail
 go_ret
 exact ⟨by first | rfl | (simp [*]; done), bel⟩
theorem DayBoth_in (n pl y mo : Int) (lf : Bool) (d c1 c2 c3 om r1 r2 r3 : Int) (L : List (Int × Int)) (N m : Nat) (w : World) (hp : 0 ≤ pl ∧ pl ≤ 255) (hr : (r1 = 0 ∧ r2 = 0 ∧ r3 = 0) ∨ (r3 = n ∧ n % 7 = 6)) (hl : L.length = N) (hN : N ≤ 1000) (hK : (Ev.on n L).length = m) (hT : Tab w 4 kevCells) (hL : Tab w 3 lenCells) (hF : Tab w 0 Fe.cells) (hA : Tab w 1 Fa.cells) (hG : Tab w 2 Gr.gregCells)
  (HD : Hid (∀ w : World, Tab w 4 kevCells → Tab w 3 lenCells → Tab w 0 Fe.cells → Tab w 1 Fa.cells → Tab w 2 Gr.gregCells → Calls Tryo.prog 5 #[.int .i64 n, .int .i64 (pl % 2)] w fun e w' => ∃ v, e = .returned (.tuple #[.agg #[.int .i64 n, .int .i64 y, .int .i64 mo, .bool lf, .int .i64 d, .int .i64 c1, .int .i64 c2, .int .i64 c3, .int .i64 (n % 7), .int .i64 om, v, .int .i64 r1, .int .i64 r2, .int .i64 r3], .int .i64 0]) ∧ Il.Row w' v (Ev.on n L) ∧ Below w.heap.size w w'))
  (HR : Hid (∀ w : World, Calls Tryo.prog 6 #[.int .i64 n] w fun e w' => e = .returned (.tuple #[.agg #[.int .i64 y, .int .i64 mo, .bool lf, .int .i64 d], .int .i64 0]) ∧ Below w.heap.size w w'))
  (HG : Hid (∀ w : World, Calls Tryo.prog 8 #[.int .i64 n] w fun e w' => e = .returned (.tuple #[.agg #[.int .i64 c1, .int .i64 c2, .int .i64 c3], .int .i64 0]) ∧ Below w.heap.size w w'))
  (HE : Hid (∀ w : World, Tab w 4 kevCells → Tab w 3 lenCells → Tab w 0 Fe.cells → Tab w 1 Fa.cells → Calls Tryo.prog 9 #[.int .i64 y, .int .i64 (pl % 2)] w fun e w' => ∃ v, e = .returned (.tuple #[v, .int .i64 0]) ∧ Ev.Own w' w.heap.size v L ∧ Below w.heap.size w w')) :
  Calls Tryo.prog 3 #[.int .i64 n, .int .u8 pl] w fun e w' => e = .returned (.bool true) ∧ Below w.heap.size w w' := by
 have HW := Lib.hid (fun w hT hL hF hA hG => awake25 w hT hL hF hA hG)
 have HWd := Lib.hid (fun w => ref4_Weekday n w)
 have HN := Lib.hid hl
 have HKl := Lib.hid hK
 have k0 : pl.tmod 2 = pl % 2 := Int.tmod_eq_emod_of_nonneg hp.1
 have k1' := Int.emod_nonneg pl (show (2 : Int) ≠ 0 by decide)
 have k2' := Int.emod_lt_of_pos pl (show (0 : Int) < 2 by decide)
 go_enter Tryo.func3, Tryz.ntmps3
 go_wp2_with fail
 refine (HD.out _ (Tab.below hT bel) (Tab.below hL bel) (Tab.below hF bel) (Tab.below hA bel) (Tab.below hG bel)).mono ?_
 rintro e w1 ⟨v1, rfl, hr1, hb1⟩
 have hB1 : Below w.heap.size w w1 := bel
 obtain ⟨p1, k1, rfl⟩ := hr1.len
 rw [hK]
 have R1 := Lib.hid hr1
 clear hr1 hb1
 go_wp2_with fail
 refine (HR.out _).mono ?_
 rintro e w2 ⟨rfl, hb2⟩
 have hB12 : Below w1.heap.size w1 w2 := bel
 obtain ⟨hc2, hf2⟩ := bcell hb2
 have hz2 := hb2.size
 try simp at hz2
 have hl2_w1 : w1.heap.size < w2.heap.size := by omega
 have g2_w1_0 : w2.cell? ⟨w1.heap.size, 0, none⟩ = some (.int .i64 n) := cel hc2
 have g2_w1_1 : w2.cell? ⟨w1.heap.size, 1, none⟩ = some (.int .i64 y) := cel hc2
 have g2_w1_2 : w2.cell? ⟨w1.heap.size, 2, none⟩ = some (.int .i64 mo) := cel hc2
 have g2_w1_3 : w2.cell? ⟨w1.heap.size, 3, none⟩ = some (.bool lf) := cel hc2
 have g2_w1_4 : w2.cell? ⟨w1.heap.size, 4, none⟩ = some (.int .i64 d) := cel hc2
 have g2_w1_5 : w2.cell? ⟨w1.heap.size, 5, none⟩ = some (.int .i64 c1) := cel hc2
 have g2_w1_6 : w2.cell? ⟨w1.heap.size, 6, none⟩ = some (.int .i64 c2) := cel hc2
 have g2_w1_7 : w2.cell? ⟨w1.heap.size, 7, none⟩ = some (.int .i64 c3) := cel hc2
 have g2_w1_8 : w2.cell? ⟨w1.heap.size, 8, none⟩ = some (.int .i64 (n % 7)) := cel hc2
 have g2_w1_9 : w2.cell? ⟨w1.heap.size, 9, none⟩ = some (.int .i64 om) := cel hc2
 have g2_w1_10 : w2.cell? ⟨w1.heap.size, 10, none⟩ = some (.slice p1 m k1) := cel hc2
 have g2_w1_11 : w2.cell? ⟨w1.heap.size, 11, none⟩ = some (.int .i64 r1) := cel hc2
 have g2_w1_12 : w2.cell? ⟨w1.heap.size, 12, none⟩ = some (.int .i64 r2) := cel hc2
 have g2_w1_13 : w2.cell? ⟨w1.heap.size, 13, none⟩ = some (.int .i64 r3) := cel hc2
 clear hb2 hc2 hf2
 go_wp2_with fail
 refine (HG.out _).mono ?_
 rintro e w3 ⟨rfl, hb3⟩
 have hB23 : Below w2.heap.size w2 w3 := bel
 obtain ⟨hc3, hf3⟩ := bcell hb3
 have hz3 := hb3.size
 try simp at hz3
 have hl3_w1 : w1.heap.size < w3.heap.size := by omega
 have hl3_w2 : w2.heap.size < w3.heap.size := by omega
 have g3_w1_0 : w3.cell? ⟨w1.heap.size, 0, none⟩ = some (.int .i64 n) := cel hc3
 have g3_w1_1 : w3.cell? ⟨w1.heap.size, 1, none⟩ = some (.int .i64 y) := cel hc3
 have g3_w1_2 : w3.cell? ⟨w1.heap.size, 2, none⟩ = some (.int .i64 mo) := cel hc3
 have g3_w1_3 : w3.cell? ⟨w1.heap.size, 3, none⟩ = some (.bool lf) := cel hc3
 have g3_w1_4 : w3.cell? ⟨w1.heap.size, 4, none⟩ = some (.int .i64 d) := cel hc3
 have g3_w1_5 : w3.cell? ⟨w1.heap.size, 5, none⟩ = some (.int .i64 c1) := cel hc3
 have g3_w1_6 : w3.cell? ⟨w1.heap.size, 6, none⟩ = some (.int .i64 c2) := cel hc3
 have g3_w1_7 : w3.cell? ⟨w1.heap.size, 7, none⟩ = some (.int .i64 c3) := cel hc3
 have g3_w1_8 : w3.cell? ⟨w1.heap.size, 8, none⟩ = some (.int .i64 (n % 7)) := cel hc3
 have g3_w1_9 : w3.cell? ⟨w1.heap.size, 9, none⟩ = some (.int .i64 om) := cel hc3
 have g3_w1_10 : w3.cell? ⟨w1.heap.size, 10, none⟩ = some (.slice p1 m k1) := cel hc3
 have g3_w1_11 : w3.cell? ⟨w1.heap.size, 11, none⟩ = some (.int .i64 r1) := cel hc3
 have g3_w1_12 : w3.cell? ⟨w1.heap.size, 12, none⟩ = some (.int .i64 r2) := cel hc3
 have g3_w1_13 : w3.cell? ⟨w1.heap.size, 13, none⟩ = some (.int .i64 r3) := cel hc3
 have g3_w2_0 : w3.cell? ⟨w2.heap.size, 0, none⟩ = some (.int .i64 y) := cel hc3
 have g3_w2_1 : w3.cell? ⟨w2.heap.size, 1, none⟩ = some (.int .i64 mo) := cel hc3
 have g3_w2_2 : w3.cell? ⟨w2.heap.size, 2, none⟩ = some (.bool lf) := cel hc3
 have g3_w2_3 : w3.cell? ⟨w2.heap.size, 3, none⟩ = some (.int .i64 d) := cel hc3
 clear hb3 hc3 hf3 g2_w1_0 g2_w1_1 g2_w1_2 g2_w1_3 g2_w1_4 g2_w1_5 g2_w1_6 g2_w1_7 g2_w1_8 g2_w1_9 g2_w1_10 g2_w1_11 g2_w1_12 g2_w1_13
 go_wp2_with fail
 refine (HE.out _ (Tab.below hT bel) (Tab.below hL bel) (Tab.below hF bel) (Tab.below hA bel)).mono ?_
 rintro e w4 ⟨v4, rfl, ho4, hb4⟩
 have hB34 : Below w3.heap.size w3 w4 := bel
 obtain ⟨hc4, hf4⟩ := bcell hb4
 have hz4 := hb4.size
 try simp at hz4
 have hl4_w1 : w1.heap.size < w4.heap.size := by omega
 have hl4_w2 : w2.heap.size < w4.heap.size := by omega
 have hl4_w3 : w3.heap.size < w4.heap.size := by omega
 have g4_w1_0 : w4.cell? ⟨w1.heap.size, 0, none⟩ = some (.int .i64 n) := cel hc4
 have g4_w1_1 : w4.cell? ⟨w1.heap.size, 1, none⟩ = some (.int .i64 y) := cel hc4
 have g4_w1_2 : w4.cell? ⟨w1.heap.size, 2, none⟩ = some (.int .i64 mo) := cel hc4
 have g4_w1_3 : w4.cell? ⟨w1.heap.size, 3, none⟩ = some (.bool lf) := cel hc4
 have g4_w1_4 : w4.cell? ⟨w1.heap.size, 4, none⟩ = some (.int .i64 d) := cel hc4
 have g4_w1_5 : w4.cell? ⟨w1.heap.size, 5, none⟩ = some (.int .i64 c1) := cel hc4
 have g4_w1_6 : w4.cell? ⟨w1.heap.size, 6, none⟩ = some (.int .i64 c2) := cel hc4
 have g4_w1_7 : w4.cell? ⟨w1.heap.size, 7, none⟩ = some (.int .i64 c3) := cel hc4
 have g4_w1_8 : w4.cell? ⟨w1.heap.size, 8, none⟩ = some (.int .i64 (n % 7)) := cel hc4
 have g4_w1_9 : w4.cell? ⟨w1.heap.size, 9, none⟩ = some (.int .i64 om) := cel hc4
 have g4_w1_10 : w4.cell? ⟨w1.heap.size, 10, none⟩ = some (.slice p1 m k1) := cel hc4
 have g4_w1_11 : w4.cell? ⟨w1.heap.size, 11, none⟩ = some (.int .i64 r1) := cel hc4
 have g4_w1_12 : w4.cell? ⟨w1.heap.size, 12, none⟩ = some (.int .i64 r2) := cel hc4
 have g4_w1_13 : w4.cell? ⟨w1.heap.size, 13, none⟩ = some (.int .i64 r3) := cel hc4
 have g4_w2_0 : w4.cell? ⟨w2.heap.size, 0, none⟩ = some (.int .i64 y) := cel hc4
 have g4_w2_1 : w4.cell? ⟨w2.heap.size, 1, none⟩ = some (.int .i64 mo) := cel hc4
 have g4_w2_2 : w4.cell? ⟨w2.heap.size, 2, none⟩ = some (.bool lf) := cel hc4
 have g4_w2_3 : w4.cell? ⟨w2.heap.size, 3, none⟩ = some (.int .i64 d) := cel hc4
 have g4_w3_0 : w4.cell? ⟨w3.heap.size, 0, none⟩ = some (.int .i64 c1) := cel hc4
 have g4_w3_1 : w4.cell? ⟨w3.heap.size, 1, none⟩ = some (.int .i64 c2) := cel hc4
 have g4_w3_2 : w4.cell? ⟨w3.heap.size, 2, none⟩ = some (.int .i64 c3) := cel hc4
 clear hb4 hc4 hf4 g3_w1_0 g3_w1_1 g3_w1_2 g3_w1_3 g3_w1_4 g3_w1_5 g3_w1_6 g3_w1_7 g3_w1_8 g3_w1_9 g3_w1_10 g3_w1_11 g3_w1_12 g3_w1_13 g3_w2_0 g3_w2_1 g3_w2_2 g3_w2_3
 have hB14 : Below w1.heap.size w1 w4 := bt (bt hB12 hB23) hB34
 have hB4 : Below w.heap.size w w4 := bt hB1 hB14
 have R4 := Lib.hid ho4.row
 obtain ⟨p4, k4, rfl⟩ := ho4.row.len
 rw [hl] at R4 ⊢
 clear ho4 hl hK
 have RK := Lib.hid (R1.out.below hB14)
 rw [HKl.out] at RK
 clear R1
 go_wp2_with fail
 go_loopw [14, 15] (fun kv iv wr => ∃ j : Nat, j ≤ N ∧ iv = .int .i64 (j : Int) ∧ kv = .int .i64 ((Ev.on n (L.take j)).length : Int) ∧ Below w4.heap.size w4 wr) (fun _ i _ => N - (intOf i).toNat)
 case atStart => exact ⟨0, Nat.zero_le _, rfl, rfl, Below.refl _ _⟩
 case round =>
  obtain ⟨j, hj, rfl, rfl, hB⟩ := hrel
  obtain ⟨w9, rfl⟩ : ∃ x, x = wr := ⟨_, rfl⟩
  have hs9 := hB.size
  have hl9_w1 : w1.heap.size < w9.heap.size := by omega
  have x10 := (hB.cell (p := ⟨w1.heap.size, 10, none⟩) hl4_w1).trans g4_w1_10
  by_cases hlt : j < N
  ·obtain ⟨⟨kd, d'⟩, hx⟩ : ∃ x, L[j]? = some x := ⟨_, List.getElem?_eq_getElem (by rw [HN.out]; exact hlt)⟩
   obtain ⟨b, off, cc, hp1, hc⟩ := (R4.out.below hB).at_some (by rw [HN.out]; omega)
   rw [HN.out] at hp1
   simp only [Value.slice.injEq] at hp1
   obtain ⟨rfl, _, rfl⟩ := hp1
   obtain ⟨cx1, cx2⟩ := Ev.cells_at hc j (kd, d') hx
   have lx := World.block_lt_of_cell? _ _ cx1
   dsimp only at lx cx1 cx2
   have j0 : (0 : Int) ≤ (j : Int) := by omega
   have j1 : (j : Int) < (N : Int) := by omega
   have hq9 : (Ev.on n (L.take j)).length ≤ 1000 := Nat.le_trans (Ev.on_len _ _) (by rw [List.length_take]; omega)
   by_cases c : d' = n
   ·have c := c.symm
    subst c
    have HX := Lib.hid (Ev.on_yes hx)
    have hq := Ev.on_at hx
    have hqm : (Ev.on n (L.take j)).length < m := by have := (List.getElem?_eq_some_iff.1 hq).1; rw [HKl.out] at this; exact this
    obtain ⟨b2, off2, cc2, hp2, hc2⟩ := (RK.out.below hB).at_some (by rw [HKl.out]; omega)
    rw [HKl.out] at hp2
    simp only [Value.slice.injEq] at hp2
    obtain ⟨rfl, _, rfl⟩ := hp2
    have ck := hc2 _ kd hq
    have lk := World.block_lt_of_cell? _ _ ck
    dsimp only at lk
    have c3 : (n == n) = true := by simp
    have ek : (kd != kd) = false := by simp
    clear hc hx hc2 hq
    generalize hqq : (Ev.on n (L.take j)).length = q at *
    have HQ := Lib.hid hqq
    clear hqq
    have q0 : (0 : Int) ≤ (q : Int) := by omega
    have q1 : (q : Int) < (m : Int) := by omega
    have q2 : decide ((q : Int) ≥ (m : Int)) = false := decide_eq_false (by omega)
    have q3 : decide ((m : Int) ≤ (q : Int)) = false := decide_eq_false (by omega)
    have f4 : ¬ m ≤ q := by omega
    have f5 : decide (m ≤ q) = false := decide_eq_false f4
    go_wp2_with fail
    refine wp_region_class (by kernel_rfl) (by kernel_rfl) (fun hall => ?_)
    repeat (first | go_big_quiet_skip | (go_big_quiet_want; first | (refine quiet_load1 _ _ _ rfl rfl ?_ ?_ ?_; (focus (intro _; simp; done)); (focus (first | assumption | omega | (simp; done) | (simp; omega))); apply Exists.intro; refine ⟨?_, ?_⟩; assumption; go_simp; go_big_quiet_on) | (refine quiet_load2 _ _ _ _ rfl rfl ?_ ?_ ?_ ?_; (focus (intro _; simp; done)); (focus (intro _; simp; done)); (focus (first | assumption | omega | (simp; done) | (simp; omega))); apply Exists.intro; apply Exists.intro; refine ⟨?_, ?_, ?_⟩; assumption; assumption; go_simp; go_big_quiet_on) | (refine quiet_load3 _ _ _ _ rfl rfl ?_ ?_ ?_ ?_; (focus (intro _; simp; done)); (focus (intro _; simp; done)); (focus (first | assumption | omega | (simp; done) | (simp; omega))); apply Exists.intro; apply Exists.intro; apply Exists.intro; refine ⟨?_, ?_, ?_, ?_⟩; assumption; assumption; assumption; go_simp; go_big_quiet_on) | (refine quiet_load4 _ _ _ _ rfl rfl ?_ ?_ ?_ ?_; (focus (intro _; simp; done)); (focus (intro _; simp; done)); (focus (first | assumption | omega | (simp; done) | (simp; omega))); apply Exists.intro; apply Exists.intro; apply Exists.intro; apply Exists.intro; refine ⟨?_, ?_, ?_, ?_, ?_⟩; assumption; assumption; assumption; assumption; go_simp; go_big_quiet_on) | (go_big_quiet_op; first | go_big_quiet_on | (apply Exists.intro; refine ⟨fun x hx => ?_, ?_⟩; (first | fail); go_big_quiet_on))))
    refine wpQuiet_nil ?_
    clear hall
    intro x7 hx7
    have hB7 := bt hB hx7
    go_wp2_with fail
    go_roundw
    case rel => exact ⟨j + 1, hlt, by go_num, by rw [HX.out, List.length_append, HQ.out]; simp, hB7⟩
    case measure => first | (simp [intOf]; done) | (simp [intOf]; omega)
   ·have HX := Lib.hid (Ev.on_no hx c)
    have c3 : (d' == n) = false := by simpa using c
    have c4 : decide (d' = n) = false := decide_eq_false c
    clear hc hx c
    go_wp2_with fail
    go_roundw
    case rel => exact ⟨j + 1, hlt, by go_num, by rw [HX.out], hB⟩
    case measure => first | (simp [intOf]; done) | (simp [intOf]; omega)
  ·obtain rfl : j = N := by omega
   have e9 : L.take j = L := List.take_of_length_le (by rw [HN.out]; exact Nat.le_refl _)
   rw [e9, HKl.out]
   clear e9 hlt x10
   have g9_w1_0 := (hB.cell (p := ⟨w1.heap.size, 0, none⟩) hl4_w1).trans g4_w1_0
   have g9_w1_1 := (hB.cell (p := ⟨w1.heap.size, 1, none⟩) hl4_w1).trans g4_w1_1
   have g9_w1_2 := (hB.cell (p := ⟨w1.heap.size, 2, none⟩) hl4_w1).trans g4_w1_2
   have g9_w1_3 := (hB.cell (p := ⟨w1.heap.size, 3, none⟩) hl4_w1).trans g4_w1_3
   have g9_w1_4 := (hB.cell (p := ⟨w1.heap.size, 4, none⟩) hl4_w1).trans g4_w1_4
   have g9_w1_5 := (hB.cell (p := ⟨w1.heap.size, 5, none⟩) hl4_w1).trans g4_w1_5
   have g9_w1_6 := (hB.cell (p := ⟨w1.heap.size, 6, none⟩) hl4_w1).trans g4_w1_6
   have g9_w1_7 := (hB.cell (p := ⟨w1.heap.size, 7, none⟩) hl4_w1).trans g4_w1_7
   have g9_w1_8 := (hB.cell (p := ⟨w1.heap.size, 8, none⟩) hl4_w1).trans g4_w1_8
   have g9_w1_9 := (hB.cell (p := ⟨w1.heap.size, 9, none⟩) hl4_w1).trans g4_w1_9
   have g9_w1_10 := (hB.cell (p := ⟨w1.heap.size, 10, none⟩) hl4_w1).trans g4_w1_10
   have g9_w1_11 := (hB.cell (p := ⟨w1.heap.size, 11, none⟩) hl4_w1).trans g4_w1_11
   have g9_w1_12 := (hB.cell (p := ⟨w1.heap.size, 12, none⟩) hl4_w1).trans g4_w1_12
   have g9_w1_13 := (hB.cell (p := ⟨w1.heap.size, 13, none⟩) hl4_w1).trans g4_w1_13
   have g9_w2_0 := (hB.cell (p := ⟨w2.heap.size, 0, none⟩) hl4_w2).trans g4_w2_0
   have g9_w2_1 := (hB.cell (p := ⟨w2.heap.size, 1, none⟩) hl4_w2).trans g4_w2_1
   have g9_w2_2 := (hB.cell (p := ⟨w2.heap.size, 2, none⟩) hl4_w2).trans g4_w2_2
   have g9_w2_3 := (hB.cell (p := ⟨w2.heap.size, 3, none⟩) hl4_w2).trans g4_w2_3
   have g9_w3_0 := (hB.cell (p := ⟨w3.heap.size, 0, none⟩) hl4_w3).trans g4_w3_0
   have g9_w3_1 := (hB.cell (p := ⟨w3.heap.size, 1, none⟩) hl4_w3).trans g4_w3_1
   have g9_w3_2 := (hB.cell (p := ⟨w3.heap.size, 2, none⟩) hl4_w3).trans g4_w3_2
   have hl9_w2 : w2.heap.size < w9.heap.size := by omega
   have hl9_w3 : w3.heap.size < w9.heap.size := by omega
   have hB9 : Below w.heap.size w w9 := bt hB4 hB
   have hT9 := Lib.hid (Tab.below hT hB9)
   have hL9 := Lib.hid (Tab.below hL hB9)
   have hF9 := Lib.hid (Tab.below hF hB9)
   have hA9 := Lib.hid (Tab.below hA hB9)
   have hG9 := Lib.hid (Tab.below hG hB9)
   clear g4_w1_0 g4_w1_1 g4_w1_2 g4_w1_3 g4_w1_4 g4_w1_5 g4_w1_6 g4_w1_7 g4_w1_8 g4_w1_9 g4_w1_10 g4_w1_11 g4_w1_12 g4_w1_13 g4_w2_0 g4_w2_1 g4_w2_2 g4_w2_3 g4_w3_0 g4_w3_1 g4_w3_2
   by_cases hz : r1 = 0 ∧ r2 = 0 ∧ r3 = 0
   ·obtain ⟨rfl, rfl, rfl⟩ := hz
    clear hr
    go_wp2_with fail
    refine wp_region_class (by kernel_rfl) (by kernel_rfl) (fun hall => ?_)
    repeat (first | go_big_quiet_skip | (go_big_quiet_want; first | (refine quiet_load1 _ _ _ rfl rfl ?_ ?_ ?_; (focus (intro _; simp; done)); (focus (first | assumption | omega | (simp; done) | (simp; omega))); apply Exists.intro; refine ⟨?_, ?_⟩; assumption; go_simp; go_big_quiet_on) | (refine quiet_load2 _ _ _ _ rfl rfl ?_ ?_ ?_ ?_; (focus (intro _; simp; done)); (focus (intro _; simp; done)); (focus (first | assumption | omega | (simp; done) | (simp; omega))); apply Exists.intro; apply Exists.intro; refine ⟨?_, ?_, ?_⟩; assumption; assumption; go_simp; go_big_quiet_on) | (refine quiet_load3 _ _ _ _ rfl rfl ?_ ?_ ?_ ?_; (focus (intro _; simp; done)); (focus (intro _; simp; done)); (focus (first | assumption | omega | (simp; done) | (simp; omega))); apply Exists.intro; apply Exists.intro; apply Exists.intro; refine ⟨?_, ?_, ?_, ?_⟩; assumption; assumption; assumption; go_simp; go_big_quiet_on) | (refine quiet_load4 _ _ _ _ rfl rfl ?_ ?_ ?_ ?_; (focus (intro _; simp; done)); (focus (intro _; simp; done)); (focus (first | assumption | omega | (simp; done) | (simp; omega))); apply Exists.intro; apply Exists.intro; apply Exists.intro; apply Exists.intro; refine ⟨?_, ?_, ?_, ?_, ?_⟩; assumption; assumption; assumption; assumption; go_simp; go_big_quiet_on) | (go_big_quiet_op; first | go_big_quiet_on | (apply Exists.intro; refine ⟨fun x hx => ?_, ?_⟩; (first | (with_reducible exact call_below hx (HW.out x (Tab.below hT9.out hx) (Tab.below hL9.out hx) (Tab.below hF9.out hx) (Tab.below hA9.out hx) (Tab.below hG9.out hx))) | (with_reducible exact call_same hx (HWd.out x)) | exact call_below hx (HW.out x (Tab.below hT9.out hx) (Tab.below hL9.out hx) (Tab.below hF9.out hx) (Tab.below hA9.out hx) (Tab.below hG9.out hx)) | exact call_same hx (HWd.out x)); go_big_quiet_on))))
    refine wpQuiet_nil ?_
    clear hall
    intro x8 hx8
    go_wp2_with fail
    go_ret
    exact ⟨by first | rfl | (simp [*]; done), bt hB9 hx8⟩
   ·obtain ⟨rfl, h6⟩ := hr.resolve_left hz
    have hz2 : ¬ (r1 = 0 ∧ r2 = 0 ∧ r3 = 0) := hz
    have E6 : (r3 % 7 == 6) = true := by simpa using h6
    have Z1 : (r1 == 0 && (r2 == 0 && r3 == 0)) = false := by
     rw [Bool.eq_false_iff]
     intro h
     simp only [Bool.and_eq_true, beq_iff_eq] at h
     exact hz h
    have Z2 : (decide (r1 = 0) && (decide (r2 = 0) && decide (r3 = 0))) = false := by
     rw [Bool.eq_false_iff]
     intro h
     simp only [Bool.and_eq_true, decide_eq_true_eq] at h
     exact hz h
    clear hr hz
    go_wp2_with fail
    refine wp_region_class (by kernel_rfl) (by kernel_rfl) (fun hall => ?_)
    repeat (first | go_big_quiet_skip | (go_big_quiet_want; first | (refine quiet_load1 _ _ _ rfl rfl ?_ ?_ ?_; (focus (intro _; simp; done)); (focus (first | assumption | omega | (simp; done) | (simp; omega))); apply Exists.intro; refine ⟨?_, ?_⟩; assumption; go_simp; go_big_quiet_on) | (refine quiet_load2 _ _ _ _ rfl rfl ?_ ?_ ?_ ?_; (focus (intro _; simp; done)); (focus (intro _; simp; done)); (focus (first | assumption | omega | (simp; done) | (simp; omega))); apply Exists.intro; apply Exists.intro; refine ⟨?_, ?_, ?_⟩; assumption; assumption; go_simp; go_big_quiet_on) | (refine quiet_load3 _ _ _ _ rfl rfl ?_ ?_ ?_ ?_; (focus (intro _; simp; done)); (focus (intro _; simp; done)); (focus (first | assumption | omega | (simp; done) | (simp; omega))); apply Exists.intro; apply Exists.intro; apply Exists.intro; refine ⟨?_, ?_, ?_, ?_⟩; assumption; assumption; assumption; go_simp; go_big_quiet_on) | (refine quiet_load4 _ _ _ _ rfl rfl ?_ ?_ ?_ ?_; (focus (intro _; simp; done)); (focus (intro _; simp; done)); (focus (first | assumption | omega | (simp; done) | (simp; omega))); apply Exists.intro; apply Exists.intro; apply Exists.intro; apply Exists.intro; refine ⟨?_, ?_, ?_, ?_, ?_⟩; assumption; assumption; assumption; assumption; go_simp; go_big_quiet_on) | (go_big_quiet_op; first | go_big_quiet_on | (apply Exists.intro; refine ⟨fun x hx => ?_, ?_⟩; (first | (with_reducible exact call_below hx (HW.out x (Tab.below hT9.out hx) (Tab.below hL9.out hx) (Tab.below hF9.out hx) (Tab.below hA9.out hx) (Tab.below hG9.out hx))) | (with_reducible exact call_same hx (HWd.out x)) | exact call_below hx (HW.out x (Tab.below hT9.out hx) (Tab.below hL9.out hx) (Tab.below hF9.out hx) (Tab.below hA9.out hx) (Tab.below hG9.out hx)) | exact call_same hx (HWd.out x)); go_big_quiet_on))))
    refine wpQuiet_nil ?_
    clear hall
    intro x8 hx8
    go_wp2_with fail
    go_ret
    exact ⟨by first | rfl | (simp [*]; done), bt hB9 hx8⟩
theorem DayBoth_walk (n pl : Int) (hn : I64 n) (hp : 0 ≤ pl ∧ pl ≤ 255) (w : World) (hT : Tab w 4 kevCells) (hL : Tab w 3 lenCells) (hG : Tab w 2 Gr.gregCells) (hF : Tab w 0 Fe.cells) (hA : Tab w 1 Fa.cells) :
  Calls Tryo.prog 3 #[.int .i64 n, .int .u8 pl] w fun e w' => e = .returned (.bool true) ∧ Below w.heap.size w w' := by
 obtain ⟨p, hpe⟩ : ∃ p : Bool, pl % 2 = if p then 1 else 0 := by
  rcases (show pl % 2 = 0 ∨ pl % 2 = 1 by omega) with h | h
  ·exact ⟨false, h⟩
  ·exact ⟨true, h⟩
 by_cases ho : n < -1373427 ∨ 2278650 < n
 ·refine DayBoth_out n pl w hp hT hL hF hA hG ?_ (Lib.hid fun w => ref10_FromDay_no n w ho)
  rw [hpe]
  cases p
  ·exact Lib.hid fun w => day_Of_out0 n w ho
  ·exact Lib.hid fun w => day_Of_out1 n w ho
 ·obtain ⟨yd, mm, dd, hv, rfl⟩ := D10.day_there n (by omega) (by omega)
  obtain ⟨i, hi⟩ := Yr.is_some yd hv.1 hv.2.1
  have hbd := D10.day_bd hv
  obtain ⟨r1, r2, r3, hr, H0⟩ := day_atP p yd mm dd i hi hv
  have hlen := Dy.evs_len hi.2.2.1 p (Cal.first yd)
  refine DayBoth_in _ pl yd (Cal.ofN (Cal.leap yd) mm) (Cal.ofL (Cal.leap yd) mm) dd (Gr.gY (D10.dayOf yd mm dd)) (Gr.gF (D10.dayOf yd mm dd)).1 (Gr.gF (D10.dayOf yd mm dd)).2.1 (Om.val (D10.dayOf yd mm dd - Om.om yd)) r1 r2 r3 (Dy.evs i p (Cal.first yd)) _ _ w hp hr rfl (by omega) rfl hT hL hF hA hG ?_ (Lib.hid fun w => ref10_FromDay_at yd mm dd w hv) (Lib.hid fun w => ref11_FromDay_at _ w hbd.1 hbd.2) ?_
  ·rw [hpe]
   have := H0.out
   unfold Dy.saysP at this
   exact Lib.hid this
  ·rw [hpe]
   exact Lib.hid fun w hT hL hF hA => day_Events yd i p w hi hT hL hF hA
end Go.Proofs.YtpjifcpmaeklhaaGreatDoor
