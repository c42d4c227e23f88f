import Derived.Test.YtpjifcpmaeklhaaGreatDoorYDA
set_option maxHeartbeats 8000000
set_option maxRecDepth 100000
set_option linter.unusedSimpArgs false
set_option linter.unusedVariables false
namespace Go.Proofs.YtpjifcpmaeklhaaGreatDoor
open Go.ChangeShapes Go.WideShapes Go.ChangeAt Go.RowKit Go.Lib Go.Sort Go.Shelf
theorem awake25_go (c1 c2 c3 om r1 r2 r3 : Int) (w : World) (hT : Tab w 4 kevCells) (hL : Tab w 3 lenCells) (hF : Tab w 0 Fe.cells) (hA : Tab w 1 Fa.cells) (hG : Tab w 2 Gr.gregCells)
  (HA : Hid (∀ w : World, Tab w 4 kevCells → Tab w 3 lenCells → Tab w 0 Fe.cells → Tab w 1 Fa.cells → Tab w 2 Gr.gregCells → Calls Tryo.prog 5 #[.int .i64 738999, .int .i64 0] w fun e w' => ∃ v, e = .returned (.tuple #[.agg #[.int .i64 738999, .int .i64 5784, .int .i64 7, .bool false, .int .i64 15, .int .i64 c1, .int .i64 c2, .int .i64 c3, .int .i64 2, .int .i64 om, v, .int .i64 r1, .int .i64 r2, .int .i64 r3], .int .i64 0]) ∧ Il.Row w' v [17] ∧ Below w.heap.size w w'))
  (HB : Hid (∀ w : World, Calls Tryo.prog 5 #[.int .i64 738999, .int .i64 2] w fun e w' => e = .returned (.tuple #[.agg #[.int .i64 0, .int .i64 0, .int .i64 0, .bool false, .int .i64 0, .int .i64 0, .int .i64 0, .int .i64 0, .int .i64 0, .int .i64 0, .slice none 0 0, .int .i64 0, .int .i64 0, .int .i64 0], .int .i64 1]) ∧ Below w.heap.size w w')) :
  Calls Tryo.prog 7 #[] w fun e w' => e = .returned (.bool true) ∧ Below w.heap.size w w' := by
 go_enter Tryo.func7, Tryz.ntmps7
 go_wp2_with fail
 refine (HA.out _ (Tab.below hT bel) (Tab.below hL bel) (Tab.below hF bel) (Tab.below hA bel) (Tab.below hG bel)).mono ?_
 rintro e w1 ⟨v1, rfl, hr1, hb1⟩
 have hB1 : Below w.heap.size w w1 := bel
 obtain ⟨b, off, cc, rfl, hc⟩ := hr1.at_some (by decide)
 have cx := hc 0 17 rfl
 rw [Nat.add_zero] at cx
 have lb := World.block_lt_of_cell? _ _ cx
 dsimp only at lb
 clear hr1 hc
 simp only [List.length_cons, List.length_nil, Nat.zero_add, Nat.reduceAdd]
 go_wp2_with fail
 refine (HB.out _).mono ?_
 rintro e w2 ⟨rfl, hb2⟩
 have hB2 : Below w.heap.size w w2 := bel
 obtain ⟨hc2, hf2⟩ := bcell hb2
 have hz2 := hb2.size
 try simp at hz2
 have hl2_w1 : w1.heap.size < w2.heap.size := by omega
 have g2_w1_1 : w2.cell? ⟨w1.heap.size, 1, none⟩ = some (.int .i64 5784) := cel hc2
 have g2_w1_2 : w2.cell? ⟨w1.heap.size, 2, none⟩ = some (.int .i64 7) := cel hc2
 have g2_w1_3 : w2.cell? ⟨w1.heap.size, 3, none⟩ = some (.bool false) := cel hc2
 have g2_w1_4 : w2.cell? ⟨w1.heap.size, 4, none⟩ = some (.int .i64 15) := cel hc2
 have g2_w1_8 : w2.cell? ⟨w1.heap.size, 8, none⟩ = some (.int .i64 2) := cel hc2
 have g2_w1_10 : w2.cell? ⟨w1.heap.size, 10, none⟩ = some (.slice (some ⟨b, off, none⟩) 1 cc) := cel hc2
 have cx2 : w2.cell? ⟨b, off, none⟩ = some (.int .i64 17) := (hc2 _ _ (by simp; omega)).trans (by simp [go_sem, *])
 have lb2 : b < w2.heap.size := by omega
 clear hb2 hc2 hf2
 go_wp2_with fail
 go_ret
 exact ⟨by first | rfl | (simp [*]; done), bel⟩
theorem Dy.a25_ok : Ev.on 738999 (Dy.evs 12 false (Cal.first 5784)) = [17] ∧ D10.dateE 5784 7 false 15 = 0 ∧ D10.dayV 5784 7 false 15 = 738999 := of_decide_eq_true (show decide (Ev.on 738999 (Dy.evs 12 false (Cal.first 5784)) = [17] ∧ D10.dateE 5784 7 false 15 = 0 ∧ D10.dayV 5784 7 false 15 = 738999) = true by decide +kernel)
theorem awake25 (w : World) (hT : Tab w 4 kevCells) (hL : Tab w 3 lenCells) (hF : Tab w 0 Fe.cells) (hA : Tab w 1 Fa.cells) (hG : Tab w 2 Gr.gregCells) :
  Calls Tryo.prog 7 #[] w fun e w' => e = .returned (.bool true) ∧ Below w.heap.size w w' := by
 obtain ⟨e1, e2, e3⟩ := Dy.a25_ok
 obtain ⟨hv, hp⟩ := D10.date_valid e2
 have hpl := D10.place_in _ _ _ hp
 have hday : D10.dayOf 5784 (Cal.plV (Cal.leap 5784) 7 false) 15 = 738999 := by
  have : D10.dayV 5784 7 false 15 = D10.dayOf 5784 (Cal.plV (Cal.leap 5784) 7 false) 15 := by unfold D10.dayV; rw [if_pos e2]
  rw [← this, e3]
 obtain ⟨r1, r2, r3, _, HS⟩ := day_atP false 5784 _ 15 12 Yr.is_5784 hv
 rw [hday, hpl.2.2.1, hpl.2.2.2] at HS
 have HS' := HS.out
 unfold Dy.saysP at HS'
 rw [e1] at HS'
 exact awake25_go _ _ _ _ r1 r2 r3 w hT hL hF hA hG (Lib.hid fun w hT hL hF hA hG => HS' w hT hL hF hA hG) (Lib.hid fun w => day_Of_bad 738999 2 w (by decide) (by decide))
theorem DayPlaces_go (n f1 f2 f3 : Int) (f4 : Bool) (f5 f6 f7 f8 f9 f10 q1 q2 q3 r1 r2 r3 er : Int) (w : World) (hT : Tab w 4 kevCells) (hL : Tab w 3 lenCells) (hF : Tab w 0 Fe.cells) (hA : Tab w 1 Fa.cells) (hG : Tab w 2 Gr.gregCells)
  (HD0 : Hid (∀ w : World, Tab w 4 kevCells → Tab w 3 lenCells → Tab w 0 Fe.cells → Tab w 1 Fa.cells → Tab w 2 Gr.gregCells → Calls Tryo.prog 5 #[.int .i64 n, .int .i64 0] w fun e w' => ∃ v p m c, v = .slice p m c ∧ e = .returned (.tuple #[.agg #[.int .i64 f1, .int .i64 f2, .int .i64 f3, .bool f4, .int .i64 f5, .int .i64 f6, .int .i64 f7, .int .i64 f8, .int .i64 f9, .int .i64 f10, v, .int .i64 q1, .int .i64 q2, .int .i64 q3], .int .i64 er]) ∧ Below w.heap.size w w'))
  (HD1 : Hid (∀ w : World, Tab w 4 kevCells → Tab w 3 lenCells → Tab w 0 Fe.cells → Tab w 1 Fa.cells → Tab w 2 Gr.gregCells → Calls Tryo.prog 5 #[.int .i64 n, .int .i64 1] w fun e w' => ∃ v p m c, v = .slice p m c ∧ e = .returned (.tuple #[.agg #[.int .i64 f1, .int .i64 f2, .int .i64 f3, .bool f4, .int .i64 f5, .int .i64 f6, .int .i64 f7, .int .i64 f8, .int .i64 f9, .int .i64 f10, v, .int .i64 r1, .int .i64 r2, .int .i64 r3], .int .i64 er]) ∧ Below w.heap.size w w')) :
  Calls Tryo.prog 4 #[.int .i64 n] w fun e w' => e = .returned (.bool true) ∧ Below w.heap.size w w' := by
 have HW := Lib.hid (fun w hT hL hF hA hG => awake25 w hT hL hF hA hG)
 go_enter Tryo.func4, Tryz.ntmps4
 go_wp2_with fail
 refine (HD0.out _ (Tab.below hT bel) (Tab.below hL bel) (Tab.below hF bel) (Tab.below hA bel) (Tab.below hG bel)).mono ?_
 rintro e w1 ⟨v1, p1, m1, k1, rfl, rfl, hb1⟩
 have hB1 : Below w.heap.size w w1 := bel
 clear hb1
 go_wp2_with fail
 refine (HD1.out _ (Tab.below hT bel) (Tab.below hL bel) (Tab.below hF bel) (Tab.below hA bel) (Tab.below hG bel)).mono ?_
 rintro e w2 ⟨v2, p2, m2, k2, rfl, rfl, hb2⟩
 have hB2 : Below w.heap.size w w2 := bel
 obtain ⟨hc2, hf2⟩ := bcell hb2
 have hz2 := hb2.size
 try simp at hz2
 have hl2_w1 : w1.heap.size < w2.heap.size := by omega
 have g2_w1_0 : w2.cell? ⟨w1.heap.size, 0, none⟩ = some (.int .i64 f1) := cel hc2
 have g2_w1_1 : w2.cell? ⟨w1.heap.size, 1, none⟩ = some (.int .i64 f2) := cel hc2
 have g2_w1_2 : w2.cell? ⟨w1.heap.size, 2, none⟩ = some (.int .i64 f3) := cel hc2
 have g2_w1_3 : w2.cell? ⟨w1.heap.size, 3, none⟩ = some (.bool f4) := cel hc2
 have g2_w1_4 : w2.cell? ⟨w1.heap.size, 4, none⟩ = some (.int .i64 f5) := cel hc2
 have g2_w1_5 : w2.cell? ⟨w1.heap.size, 5, none⟩ = some (.int .i64 f6) := cel hc2
 have g2_w1_6 : w2.cell? ⟨w1.heap.size, 6, none⟩ = some (.int .i64 f7) := cel hc2
 have g2_w1_7 : w2.cell? ⟨w1.heap.size, 7, none⟩ = some (.int .i64 f8) := cel hc2
 have g2_w1_8 : w2.cell? ⟨w1.heap.size, 8, none⟩ = some (.int .i64 f9) := cel hc2
 have g2_w1_9 : w2.cell? ⟨w1.heap.size, 9, none⟩ = some (.int .i64 f10) := cel hc2
 clear hb2 hc2 hf2
 go_wp2_with fail
 refine (HW.out _ (Tab.below hT bel) (Tab.below hL bel) (Tab.below hF bel) (Tab.below hA bel) (Tab.below hG bel)).mono ?_
 rintro e w3 ⟨rfl, hb3⟩
 have hB3 : Below w.heap.size w w3 := bel
 obtain ⟨hc3, hf3⟩ := bcell hb3
 have hz3 := hb3.size
 try simp at hz3
 have hl3_w1 : w1.heap.size < w3.heap.size := by omega
 have hl3_w2 : w2.heap.size < w3.heap.size := by omega
 have g3_w1_0 : w3.cell? ⟨w1.heap.size, 0, none⟩ = some (.int .i64 f1) := cel hc3
 have g3_w1_1 : w3.cell? ⟨w1.heap.size, 1, none⟩ = some (.int .i64 f2) := cel hc3
 have g3_w1_2 : w3.cell? ⟨w1.heap.size, 2, none⟩ = some (.int .i64 f3) := cel hc3
 have g3_w1_3 : w3.cell? ⟨w1.heap.size, 3, none⟩ = some (.bool f4) := cel hc3
 have g3_w1_4 : w3.cell? ⟨w1.heap.size, 4, none⟩ = some (.int .i64 f5) := cel hc3
 have g3_w1_5 : w3.cell? ⟨w1.heap.size, 5, none⟩ = some (.int .i64 f6) := cel hc3
 have g3_w1_6 : w3.cell? ⟨w1.heap.size, 6, none⟩ = some (.int .i64 f7) := cel hc3
 have g3_w1_7 : w3.cell? ⟨w1.heap.size, 7, none⟩ = some (.int .i64 f8) := cel hc3
 have g3_w1_8 : w3.cell? ⟨w1.heap.size, 8, none⟩ = some (.int .i64 f9) := cel hc3
 have g3_w1_9 : w3.cell? ⟨w1.heap.size, 9, none⟩ = some (.int .i64 f10) := cel hc3
 have g3_w2_0 : w3.cell? ⟨w2.heap.size, 0, none⟩ = some (.int .i64 f1) := cel hc3
 have g3_w2_1 : w3.cell? ⟨w2.heap.size, 1, none⟩ = some (.int .i64 f2) := cel hc3
 have g3_w2_2 : w3.cell? ⟨w2.heap.size, 2, none⟩ = some (.int .i64 f3) := cel hc3
 have g3_w2_3 : w3.cell? ⟨w2.heap.size, 3, none⟩ = some (.bool f4) := cel hc3
 have g3_w2_4 : w3.cell? ⟨w2.heap.size, 4, none⟩ = some (.int .i64 f5) := cel hc3
 have g3_w2_5 : w3.cell? ⟨w2.heap.size, 5, none⟩ = some (.int .i64 f6) := cel hc3
 have g3_w2_6 : w3.cell? ⟨w2.heap.size, 6, none⟩ = some (.int .i64 f7) := cel hc3
 have g3_w2_7 : w3.cell? ⟨w2.heap.size, 7, none⟩ = some (.int .i64 f8) := cel hc3
 have g3_w2_8 : w3.cell? ⟨w2.heap.size, 8, none⟩ = some (.int .i64 f9) := cel hc3
 have g3_w2_9 : w3.cell? ⟨w2.heap.size, 9, none⟩ = some (.int .i64 f10) := cel hc3
 clear hb3 hc3 hf3 g2_w1_0 g2_w1_1 g2_w1_2 g2_w1_3 g2_w1_4 g2_w1_5 g2_w1_6 g2_w1_7 g2_w1_8 g2_w1_9
 go_wp2_with fail
 go_ret
 exact ⟨by first | rfl | (simp [*]; done), bel⟩
theorem DayPlaces_walk (n : Int) (hn : I64 n) (w : World) (hT : Tab w 4 kevCells) (hL : Tab w 3 lenCells) (hG : Tab w 2 Gr.gregCells) (hF : Tab w 0 Fe.cells) (hA : Tab w 1 Fa.cells) :
  Calls Tryo.prog 4 #[.int .i64 n] w fun e w' => e = .returned (.bool true) ∧ Below w.heap.size w w' := by
 by_cases ho : n < -1373427 ∨ 2278650 < n
 ·exact DayPlaces_go n 0 0 0 false 0 0 0 0 0 0 0 0 0 0 0 0 2 w hT hL hF hA hG (Lib.hid fun w _ _ _ _ _ => (day_Of_out0 n w ho).mono (by rintro e w' ⟨rfl, hb⟩; exact ⟨_, _, _, _, rfl, rfl, hb⟩)) (Lib.hid fun w _ _ _ _ _ => (day_Of_out1 n w ho).mono (by rintro e w' ⟨rfl, hb⟩; exact ⟨_, _, _, _, rfl, rfl, hb⟩))
 ·obtain ⟨yd, m, d, hv, rfl⟩ := D10.day_there n (by omega) (by omega)
  obtain ⟨i, hi⟩ := Yr.is_some yd hv.1 hv.2.1
  obtain ⟨q1, q2, q3, _, H0⟩ := day_atP false yd m d i hi hv
  obtain ⟨r1, r2, r3, _, H1⟩ := day_atP true yd m d i hi hv
  have H0' := H0.out
  have H1' := H1.out
  unfold Dy.saysP at H0' H1'
  simp only [if_true, Bool.false_eq_true, if_false] at H0' H1'
  exact DayPlaces_go _ _ _ _ _ _ _ _ _ _ _ q1 q2 q3 r1 r2 r3 0 w hT hL hF hA hG (Lib.hid fun w hT hL hF hA hG => (H0' w hT hL hF hA hG).mono (by rintro e w' ⟨v, rfl, hr, hb⟩; obtain ⟨p, c, rfl⟩ := hr.len; exact ⟨_, _, _, _, rfl, rfl, hb⟩)) (Lib.hid fun w hT hL hF hA hG => (H1' w hT hL hF hA hG).mono (by rintro e w' ⟨v, rfl, hr, hb⟩; obtain ⟨p, c, rfl⟩ := hr.len; exact ⟨_, _, _, _, rfl, rfl, hb⟩))
end Go.Proofs.YtpjifcpmaeklhaaGreatDoor
