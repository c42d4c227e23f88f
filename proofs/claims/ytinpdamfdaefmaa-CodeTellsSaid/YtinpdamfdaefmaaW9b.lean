/- Layer 9: the walk of CodeTells. -/
import Derived.Test.YtinpdamfdaefmaaW9
import Derived.LoopTactic
namespace Go.Proofs.Ytinpdamfdaefmaa
open Go.ChangeShapes Go.WideShapes Go.ChangeAt Go.RowKit
set_option linter.unusedVariables false
set_option maxHeartbeats 4000000 in
set_option maxRecDepth 100000 in
theorem CodeTells_long (n : Int) (l : Bool) (k : Int) (h : Bool) (t : ByteArray) (m : Int) (hm : I64 m) (w : World) (h100 : (100 : Int) < (t.size : Int)) :
    Calls Try.prog 3 #[.agg #[.int .i64 n, .bool l, .int .i64 k, .bool h, .string t, .int .i64 m]] w fun e w' => e = .returned (.bool true) ∧ Below w.heap.size w w' := by
  go_enter Try.func3, Try.ntmps3
  go_upto_region 1 with fail
  go_cut [3, 4, 5, 6] from 24 (fun A B s i wx => ∃ p q : Nat, A = .pointer (some ⟨p, 0, none⟩) ∧ B = .pointer (some ⟨q, 0, none⟩) ∧ s = .string t ∧ i = .int .i64 m ∧ wx.cell? ⟨p, 0, none⟩ = some (.int .i64 n) ∧ wx.cell? ⟨p, 1, none⟩ = some (.bool l) ∧ wx.cell? ⟨q, 0, none⟩ = some (.int .i64 k) ∧ wx.cell? ⟨q, 1, none⟩ = some (.bool h) ∧ p < wx.heap.size ∧ q < wx.heap.size ∧ Below w.heap.size w wx)
  case first =>
    go_region
    all_goals go_wp2_with fail
    all_goals go_meet
    · exact ⟨w.heap.size + 1, w.heap.size + 1 + 1, rfl, rfl, rfl, rfl, by simp [go_sem], by simp [go_sem], by simp [go_sem], by simp [go_sem], by (first | (simp; done) | (simp; omega)), by simp, bdrew (baa (baa (ba _ _) _) _)⟩
    · exact ⟨w.heap.size + 1 + 1, w.heap.size + 1, rfl, rfl, rfl, rfl, by simp [go_sem], by simp [go_sem], by simp [go_sem], by simp [go_sem], by simp, by (first | (simp; done) | (simp; omega)), bdrew (baa (baa (ba _ _) _) _)⟩
  case rest =>
    obtain ⟨p, q, rfl, rfl, rfl, rfl, p0, p1, q0, q1, ps, qs, hB0⟩ := hcut
    go_wp2_with fail
    refine (awake9 _).mono ?_
    rintro e w1 ⟨rfl, hb1⟩
    go_wp2_with fail
    go_ret
    exact ⟨rfl, bt hB0 hb1⟩
set_option maxHeartbeats 4000000 in
set_option maxRecDepth 100000 in
theorem CodeTells_short (n : Int) (l : Bool) (k : Int) (h : Bool) (t : ByteArray) (m : Int) (hm : I64 m) (w : World) (rn : Int) (rl rok : Bool) (h100 : ¬ (100 : Int) < (t.size : Int)) (HRd : Hid (∀ w, Calls Try.prog 11 #[.string t] w fun e w' => e = .returned (.tuple #[.agg #[.int .i64 rn, .bool rl], .bool rok]) ∧ Below w.heap.size w w')) (HRr : Hid (∀ w, Calls Try.prog 12 #[.string t] w fun e w' => e = .returned (.tuple #[.agg #[.int .i64 rn, .bool rl], .bool rok]) ∧ Below w.heap.size w w')) :
    Calls Try.prog 3 #[.agg #[.int .i64 n, .bool l, .int .i64 k, .bool h, .string t, .int .i64 m]] w fun e w' => e = .returned (.bool true) ∧ Below w.heap.size w w' := by
  go_enter Try.func3, Try.ntmps3
  go_upto_region 1 with fail
  go_cut [3, 4, 5, 6] from 24 (fun A B s i wx => ∃ p q : Nat, A = .pointer (some ⟨p, 0, none⟩) ∧ B = .pointer (some ⟨q, 0, none⟩) ∧ s = .string t ∧ i = .int .i64 m ∧ wx.cell? ⟨p, 0, none⟩ = some (.int .i64 n) ∧ wx.cell? ⟨p, 1, none⟩ = some (.bool l) ∧ wx.cell? ⟨q, 0, none⟩ = some (.int .i64 k) ∧ wx.cell? ⟨q, 1, none⟩ = some (.bool h) ∧ p < wx.heap.size ∧ q < wx.heap.size ∧ Below w.heap.size w wx)
  case first =>
    go_region
    all_goals go_wp2_with fail
    all_goals go_meet
    · exact ⟨w.heap.size + 1, w.heap.size + 1 + 1, rfl, rfl, rfl, rfl, by simp [go_sem], by simp [go_sem], by simp [go_sem], by simp [go_sem], by (first | (simp; done) | (simp; omega)), by simp, bdrew (baa (baa (ba _ _) _) _)⟩
    · exact ⟨w.heap.size + 1 + 1, w.heap.size + 1, rfl, rfl, rfl, rfl, by simp [go_sem], by simp [go_sem], by simp [go_sem], by simp [go_sem], by simp, by (first | (simp; done) | (simp; omega)), bdrew (baa (baa (ba _ _) _) _)⟩
  case rest =>
    obtain ⟨p, q, rfl, rfl, rfl, rfl, p0, p1, q0, q1, ps, qs, hB0⟩ := hcut
    go_wp2_with fail
    refine (code_Text_any n l _).mono ?_
    rintro e w1 ⟨rfl, hb1⟩
    obtain ⟨hc1, hf1⟩ := bcell hb1
    have hz1 := hb1.size
    try simp at hz1
    have hs1x0 : p < w1.heap.size := by omega
    have hs1x1 : q < w1.heap.size := by omega
    have g1x0 : w1.cell? ⟨p, 0, none⟩ = some (.int .i64 n) := (hc1 _ _ (by first | omega | (simp; done) | (simp; omega))).trans (by first | assumption | simp [go_sem] | simp [go_sem, *])
    have g1x1 : w1.cell? ⟨p, 1, none⟩ = some (.bool l) := (hc1 _ _ (by first | omega | (simp; done) | (simp; omega))).trans (by first | assumption | simp [go_sem] | simp [go_sem, *])
    have g1x2 : w1.cell? ⟨q, 0, none⟩ = some (.int .i64 k) := (hc1 _ _ (by first | omega | (simp; done) | (simp; omega))).trans (by first | assumption | simp [go_sem] | simp [go_sem, *])
    have g1x3 : w1.cell? ⟨q, 1, none⟩ = some (.bool h) := (hc1 _ _ (by first | omega | (simp; done) | (simp; omega))).trans (by first | assumption | simp [go_sem] | simp [go_sem, *])
    go_wp2_with fail
    refine (ref9_Text_any n l _).mono ?_
    rintro e w2 ⟨rfl, hb2⟩
    obtain ⟨hc2, hf2⟩ := bcell hb2
    have hz2 := hb2.size
    try simp at hz2
    have hs2x0 : p < w2.heap.size := by omega
    have hs2x1 : q < w2.heap.size := by omega
    have g2x0 : w2.cell? ⟨p, 0, none⟩ = some (.int .i64 n) := (hc2 _ _ (by first | omega | (simp; done) | (simp; omega))).trans (by first | assumption | simp [go_sem] | simp [go_sem, *])
    have g2x1 : w2.cell? ⟨p, 1, none⟩ = some (.bool l) := (hc2 _ _ (by first | omega | (simp; done) | (simp; omega))).trans (by first | assumption | simp [go_sem] | simp [go_sem, *])
    have g2x2 : w2.cell? ⟨q, 0, none⟩ = some (.int .i64 k) := (hc2 _ _ (by first | omega | (simp; done) | (simp; omega))).trans (by first | assumption | simp [go_sem] | simp [go_sem, *])
    have g2x3 : w2.cell? ⟨q, 1, none⟩ = some (.bool h) := (hc2 _ _ (by first | omega | (simp; done) | (simp; omega))).trans (by first | assumption | simp [go_sem] | simp [go_sem, *])
    go_wp2_with fail
    refine (HRd.out _).mono ?_
    rintro e w3 ⟨rfl, hb3⟩
    obtain ⟨hc3, hf3⟩ := bcell hb3
    have hz3 := hb3.size
    try simp at hz3
    have hs3x0 : p < w3.heap.size := by omega
    have hs3x1 : q < w3.heap.size := by omega
    have g3x0 : w3.cell? ⟨p, 0, none⟩ = some (.int .i64 n) := (hc3 _ _ (by first | omega | (simp; done) | (simp; omega))).trans (by first | assumption | simp [go_sem] | simp [go_sem, *])
    have g3x1 : w3.cell? ⟨p, 1, none⟩ = some (.bool l) := (hc3 _ _ (by first | omega | (simp; done) | (simp; omega))).trans (by first | assumption | simp [go_sem] | simp [go_sem, *])
    have g3x2 : w3.cell? ⟨q, 0, none⟩ = some (.int .i64 k) := (hc3 _ _ (by first | omega | (simp; done) | (simp; omega))).trans (by first | assumption | simp [go_sem] | simp [go_sem, *])
    have g3x3 : w3.cell? ⟨q, 1, none⟩ = some (.bool h) := (hc3 _ _ (by first | omega | (simp; done) | (simp; omega))).trans (by first | assumption | simp [go_sem] | simp [go_sem, *])
    go_wp2_with fail
    refine (HRr.out _).mono ?_
    rintro e w4 ⟨rfl, hb4⟩
    obtain ⟨hc4, hf4⟩ := bcell hb4
    have hz4 := hb4.size
    try simp at hz4
    have hl4w3 : w3.heap.size < w4.heap.size := by omega
    have hm4w3 : w3.heap.size ≤ w4.heap.size := by omega
    have hs4x0 : p < w4.heap.size := by omega
    have hs4x1 : q < w4.heap.size := by omega
    have g4x0 : w4.cell? ⟨p, 0, none⟩ = some (.int .i64 n) := (hc4 _ _ (by first | omega | (simp; done) | (simp; omega))).trans (by first | assumption | simp [go_sem] | simp [go_sem, *])
    have g4x1 : w4.cell? ⟨p, 1, none⟩ = some (.bool l) := (hc4 _ _ (by first | omega | (simp; done) | (simp; omega))).trans (by first | assumption | simp [go_sem] | simp [go_sem, *])
    have g4x2 : w4.cell? ⟨q, 0, none⟩ = some (.int .i64 k) := (hc4 _ _ (by first | omega | (simp; done) | (simp; omega))).trans (by first | assumption | simp [go_sem] | simp [go_sem, *])
    have g4x3 : w4.cell? ⟨q, 1, none⟩ = some (.bool h) := (hc4 _ _ (by first | omega | (simp; done) | (simp; omega))).trans (by first | assumption | simp [go_sem] | simp [go_sem, *])
    have g4x4 : w4.cell? ⟨w3.heap.size, 0, none⟩ = some (.int .i64 rn) := (hc4 _ _ (by first | omega | (simp; done) | (simp; omega))).trans (by first | assumption | simp [go_sem] | simp [go_sem, *])
    have g4x5 : w4.cell? ⟨w3.heap.size, 1, none⟩ = some (.bool rl) := (hc4 _ _ (by first | omega | (simp; done) | (simp; omega))).trans (by first | assumption | simp [go_sem] | simp [go_sem, *])
    go_wp2_with fail
    refine settle (fun W => W.cell? ⟨p, 0, none⟩ = some (.int .i64 n) ∧ W.cell? ⟨p, 1, none⟩ = some (.bool l) ∧ W.cell? ⟨q, 0, none⟩ = some (.int .i64 k) ∧ W.cell? ⟨q, 1, none⟩ = some (.bool h) ∧ W.cell? ⟨w3.heap.size, 0, none⟩ = some (.int .i64 rn) ∧ W.cell? ⟨w3.heap.size, 1, none⟩ = some (.bool rl) ∧ W.cell? ⟨w4.heap.size, 0, none⟩ = some (.int .i64 rn) ∧ W.cell? ⟨w4.heap.size, 1, none⟩ = some (.bool rl) ∧ p < W.heap.size ∧ q < W.heap.size ∧ w3.heap.size < W.heap.size ∧ w4.heap.size < W.heap.size ∧ Below w.heap.size w W) ⟨?_, ?_, ?_, ?_, ?_, ?_, ?_, ?_, ?_, ?_, ?_, ?_, ?_⟩ ?_
    · (first | assumption | (simp [go_sem, *]; done))
    · (first | assumption | (simp [go_sem, *]; done))
    · (first | assumption | (simp [go_sem, *]; done))
    · (first | assumption | (simp [go_sem, *]; done))
    · (first | assumption | (simp [go_sem, *]; done))
    · (first | assumption | (simp [go_sem, *]; done))
    · (first | assumption | (simp [go_sem, *]; done))
    · (first | assumption | (simp [go_sem, *]; done))
    · (first | assumption | (simp; done) | (simp; omega) | omega)
    · (first | assumption | (simp; done) | (simp; omega) | omega)
    · (first | assumption | (simp; done) | (simp; omega) | omega)
    · (first | assumption | (simp; done) | (simp; omega) | omega)
    · (repeat (first | (with_reducible exact Below.refl _ _) | assumption | (with_reducible refine bdrew ?_) | (with_reducible refine baa ?_ _) | (with_reducible refine bs ?_ (by first | exact Nat.le_refl _ | omega | (simp; omega)) _) | (with_reducible refine bt ?_ (by assumption))))
    rintro W5 ⟨r5x0, r5x1, r5x2, r5x3, r5x4, r5x5, r5x6, r5x7, rs5x0, rs5x1, rs5x2, rs5x3, hB5⟩
    clear hb1 hc1 hf1 hz1 hb2 hc2 hf2 hz2 hb3 hc3 hf3 hz3 hb4 hc4 hf4 hz4 p0 p1 q0 q1 ps qs hB0 g1x0 g1x1 g1x2 g1x3 g2x0 g2x1 g2x2 g2x3 g3x0 g3x1 g3x2 g3x3 g4x0 g4x1 g4x2 g4x3 g4x4 g4x5
    refine wp_region_class (by kernel_rfl) (by kernel_rfl) (fun hall => ?_)
    repeat (first | go_big_quiet_skip | (go_big_quiet_want; first | (refine quiet_load1 _ _ _ rfl rfl ?_ ?_ ?_; (focus (intro _; simp; done)); (focus (first | assumption | omega | (simp; done) | (simp; omega))); apply Exists.intro; refine ⟨?_, ?_⟩; assumption; go_simp; go_big_quiet_on) | (refine quiet_load2 _ _ _ _ rfl rfl ?_ ?_ ?_ ?_; (focus (intro _; simp; done)); (focus (intro _; simp; done)); (focus (first | assumption | omega | (simp; done) | (simp; omega))); apply Exists.intro; apply Exists.intro; refine ⟨?_, ?_, ?_⟩; assumption; assumption; go_simp; go_big_quiet_on) | (refine quiet_load3 _ _ _ _ rfl rfl ?_ ?_ ?_ ?_; (focus (intro _; simp; done)); (focus (intro _; simp; done)); (focus (first | assumption | omega | (simp; done) | (simp; omega))); apply Exists.intro; apply Exists.intro; apply Exists.intro; refine ⟨?_, ?_, ?_, ?_⟩; assumption; assumption; assumption; go_simp; go_big_quiet_on) | (refine quiet_load4 _ _ _ _ rfl rfl ?_ ?_ ?_ ?_; (focus (intro _; simp; done)); (focus (intro _; simp; done)); (focus (first | assumption | omega | (simp; done) | (simp; omega))); apply Exists.intro; apply Exists.intro; apply Exists.intro; apply Exists.intro; refine ⟨?_, ?_, ?_, ?_, ?_⟩; assumption; assumption; assumption; assumption; go_simp; go_big_quiet_on) | (go_big_quiet_op; first | go_big_quiet_on | (apply Exists.intro; refine ⟨fun x hx => ?_, ?_⟩; (first | exact call_below hx (code_Right_any n l x) | exact call_below hx (ref9_Right_any n l x) | exact call_below hx (code_Less_any n k l h x) | exact call_below hx (ref9_Less_any n k l h x)); go_big_quiet_on))))
    refine wpQuiet_nil ?_
    clear hall
    intro x6 hx6
    have hB6 : Below w.heap.size w x6 := bt hB5 hx6
    have a60 : x6.cell? ⟨p, 0, none⟩ = some (.int .i64 n) := (hx6.cell rs5x0).trans r5x0
    have a61 : x6.cell? ⟨p, 1, none⟩ = some (.bool l) := (hx6.cell rs5x0).trans r5x1
    have a6s : p < x6.heap.size := Nat.lt_of_lt_of_le rs5x0 hx6.size
    clear hx6 hB5 r5x0 r5x1 r5x2 r5x3 r5x4 r5x5 r5x6 r5x7 rs5x0 rs5x1 rs5x2 rs5x3 HRd HRr
    go_wp2_with fail
    go_loopw [15] (fun i wr => ∃ q : Int, (q = 0 ∨ q = 1 ∨ q = 2) ∧ i = .int .i64 q ∧ wr.cell? ⟨p, 0, none⟩ = some (.int .i64 n) ∧ wr.cell? ⟨p, 1, none⟩ = some (.bool l) ∧ p < wr.heap.size ∧ Below w.heap.size w wr) (fun i _ => 2 - (intOf i).toNat)
    case atStart => exact ⟨0, .inl rfl, rfl, a60, a61, a6s, hB6⟩
    case round =>
      obtain ⟨q, hq, rfl, c0, c1, cs, hB⟩ := hrel
      clear a60 a61 a6s hB6
      rcases hq with rfl | rfl | rfl
      · have HO := Lib.hid (fun w => code_Of_any false m w hm.2)
        have HO2 := Lib.hid (fun w => ref9_Of_any false m w hm.2)
        have HP := Lib.hid (fun w => code_Place_any false n l w)
        have HP2 := Lib.hid (fun w => ref9_Place_any false n l w)
        generalize Cal.ofN false m = on at *
        generalize Cal.ofL false m = ol at *
        generalize Cal.ofOk false m = oo at *
        generalize Cal.plV false n l = pv at *
        generalize Cal.plOk false n l = po at *
        go_wp2_with fail
        refine (HO.out _).mono ?_
        rintro e w7 ⟨rfl, hb7⟩
        obtain ⟨hc7, hf7⟩ := bcell hb7
        have hz7 := hb7.size
        try simp at hz7
        have hs7x0 : p < w7.heap.size := by omega
        have g7x0 : w7.cell? ⟨p, 0, none⟩ = some (.int .i64 n) := (hc7 _ _ (by first | omega | (simp; done) | (simp; omega))).trans (by first | assumption | simp [go_sem] | simp [go_sem, *])
        have g7x1 : w7.cell? ⟨p, 1, none⟩ = some (.bool l) := (hc7 _ _ (by first | omega | (simp; done) | (simp; omega))).trans (by first | assumption | simp [go_sem] | simp [go_sem, *])
        go_wp2_with fail
        refine (HO2.out _).mono ?_
        rintro e w8 ⟨rfl, hb8⟩
        obtain ⟨hc8, hf8⟩ := bcell hb8
        have hz8 := hb8.size
        try simp at hz8
        have hl8w7 : w7.heap.size < w8.heap.size := by omega
        have hm8w7 : w7.heap.size ≤ w8.heap.size := by omega
        have hs8x0 : p < w8.heap.size := by omega
        have g8x0 : w8.cell? ⟨p, 0, none⟩ = some (.int .i64 n) := (hc8 _ _ (by first | omega | (simp; done) | (simp; omega))).trans (by first | assumption | simp [go_sem] | simp [go_sem, *])
        have g8x1 : w8.cell? ⟨p, 1, none⟩ = some (.bool l) := (hc8 _ _ (by first | omega | (simp; done) | (simp; omega))).trans (by first | assumption | simp [go_sem] | simp [go_sem, *])
        have g8x2 : w8.cell? ⟨w7.heap.size, 0, none⟩ = some (.int .i64 on) := (hc8 _ _ (by first | omega | (simp; done) | (simp; omega))).trans (by first | assumption | simp [go_sem] | simp [go_sem, *])
        have g8x3 : w8.cell? ⟨w7.heap.size, 1, none⟩ = some (.bool ol) := (hc8 _ _ (by first | omega | (simp; done) | (simp; omega))).trans (by first | assumption | simp [go_sem] | simp [go_sem, *])
        go_wp2_with fail
        refine (HP.out _).mono ?_
        rintro e w9 ⟨rfl, hb9⟩
        obtain ⟨hc9, hf9⟩ := bcell hb9
        have hz9 := hb9.size
        try simp at hz9
        have hl9w7 : w7.heap.size < w9.heap.size := by omega
        have hm9w7 : w7.heap.size ≤ w9.heap.size := by omega
        have hl9w8 : w8.heap.size < w9.heap.size := by omega
        have hm9w8 : w8.heap.size ≤ w9.heap.size := by omega
        have hs9x0 : p < w9.heap.size := by omega
        have g9x0 : w9.cell? ⟨p, 0, none⟩ = some (.int .i64 n) := (hc9 _ _ (by first | omega | (simp; done) | (simp; omega))).trans (by first | assumption | simp [go_sem] | simp [go_sem, *])
        have g9x1 : w9.cell? ⟨p, 1, none⟩ = some (.bool l) := (hc9 _ _ (by first | omega | (simp; done) | (simp; omega))).trans (by first | assumption | simp [go_sem] | simp [go_sem, *])
        have g9x2 : w9.cell? ⟨w7.heap.size, 0, none⟩ = some (.int .i64 on) := (hc9 _ _ (by first | omega | (simp; done) | (simp; omega))).trans (by first | assumption | simp [go_sem] | simp [go_sem, *])
        have g9x3 : w9.cell? ⟨w7.heap.size, 1, none⟩ = some (.bool ol) := (hc9 _ _ (by first | omega | (simp; done) | (simp; omega))).trans (by first | assumption | simp [go_sem] | simp [go_sem, *])
        have g9x4 : w9.cell? ⟨w8.heap.size, 0, none⟩ = some (.int .i64 on) := (hc9 _ _ (by first | omega | (simp; done) | (simp; omega))).trans (by first | assumption | simp [go_sem] | simp [go_sem, *])
        have g9x5 : w9.cell? ⟨w8.heap.size, 1, none⟩ = some (.bool ol) := (hc9 _ _ (by first | omega | (simp; done) | (simp; omega))).trans (by first | assumption | simp [go_sem] | simp [go_sem, *])
        go_wp2_with fail
        refine (HP2.out _).mono ?_
        rintro e w10 ⟨rfl, hb10⟩
        obtain ⟨hc10, hf10⟩ := bcell hb10
        have hz10 := hb10.size
        try simp at hz10
        have hl10w7 : w7.heap.size < w10.heap.size := by omega
        have hm10w7 : w7.heap.size ≤ w10.heap.size := by omega
        have hl10w8 : w8.heap.size < w10.heap.size := by omega
        have hm10w8 : w8.heap.size ≤ w10.heap.size := by omega
        have hs10x0 : p < w10.heap.size := by omega
        have g10x0 : w10.cell? ⟨p, 0, none⟩ = some (.int .i64 n) := (hc10 _ _ (by first | omega | (simp; done) | (simp; omega))).trans (by first | assumption | simp [go_sem] | simp [go_sem, *])
        have g10x1 : w10.cell? ⟨p, 1, none⟩ = some (.bool l) := (hc10 _ _ (by first | omega | (simp; done) | (simp; omega))).trans (by first | assumption | simp [go_sem] | simp [go_sem, *])
        have g10x2 : w10.cell? ⟨w7.heap.size, 0, none⟩ = some (.int .i64 on) := (hc10 _ _ (by first | omega | (simp; done) | (simp; omega))).trans (by first | assumption | simp [go_sem] | simp [go_sem, *])
        have g10x3 : w10.cell? ⟨w7.heap.size, 1, none⟩ = some (.bool ol) := (hc10 _ _ (by first | omega | (simp; done) | (simp; omega))).trans (by first | assumption | simp [go_sem] | simp [go_sem, *])
        have g10x4 : w10.cell? ⟨w8.heap.size, 0, none⟩ = some (.int .i64 on) := (hc10 _ _ (by first | omega | (simp; done) | (simp; omega))).trans (by first | assumption | simp [go_sem] | simp [go_sem, *])
        have g10x5 : w10.cell? ⟨w8.heap.size, 1, none⟩ = some (.bool ol) := (hc10 _ _ (by first | omega | (simp; done) | (simp; omega))).trans (by first | assumption | simp [go_sem] | simp [go_sem, *])
        go_wp2_with fail
        go_roundw
        case rel => exact ⟨1, by omega, rfl, by assumption, by assumption, by assumption, by repeat (first | (with_reducible exact Below.refl _ _) | assumption | (with_reducible refine bdrew ?_) | (with_reducible refine baa ?_ _) | (with_reducible refine bs ?_ (by first | exact Nat.le_refl _ | omega | (simp; omega)) _) | (with_reducible refine bt ?_ (by assumption)))⟩
        case measure => simp [intOf]
      · have HO := Lib.hid (fun w => code_Of_any true m w hm.2)
        have HO2 := Lib.hid (fun w => ref9_Of_any true m w hm.2)
        have HP := Lib.hid (fun w => code_Place_any true n l w)
        have HP2 := Lib.hid (fun w => ref9_Place_any true n l w)
        generalize Cal.ofN true m = on at *
        generalize Cal.ofL true m = ol at *
        generalize Cal.ofOk true m = oo at *
        generalize Cal.plV true n l = pv at *
        generalize Cal.plOk true n l = po at *
        go_wp2_with fail
        refine (HO.out _).mono ?_
        rintro e w7 ⟨rfl, hb7⟩
        obtain ⟨hc7, hf7⟩ := bcell hb7
        have hz7 := hb7.size
        try simp at hz7
        have hs7x0 : p < w7.heap.size := by omega
        have g7x0 : w7.cell? ⟨p, 0, none⟩ = some (.int .i64 n) := (hc7 _ _ (by first | omega | (simp; done) | (simp; omega))).trans (by first | assumption | simp [go_sem] | simp [go_sem, *])
        have g7x1 : w7.cell? ⟨p, 1, none⟩ = some (.bool l) := (hc7 _ _ (by first | omega | (simp; done) | (simp; omega))).trans (by first | assumption | simp [go_sem] | simp [go_sem, *])
        go_wp2_with fail
        refine (HO2.out _).mono ?_
        rintro e w8 ⟨rfl, hb8⟩
        obtain ⟨hc8, hf8⟩ := bcell hb8
        have hz8 := hb8.size
        try simp at hz8
        have hl8w7 : w7.heap.size < w8.heap.size := by omega
        have hm8w7 : w7.heap.size ≤ w8.heap.size := by omega
        have hs8x0 : p < w8.heap.size := by omega
        have g8x0 : w8.cell? ⟨p, 0, none⟩ = some (.int .i64 n) := (hc8 _ _ (by first | omega | (simp; done) | (simp; omega))).trans (by first | assumption | simp [go_sem] | simp [go_sem, *])
        have g8x1 : w8.cell? ⟨p, 1, none⟩ = some (.bool l) := (hc8 _ _ (by first | omega | (simp; done) | (simp; omega))).trans (by first | assumption | simp [go_sem] | simp [go_sem, *])
        have g8x2 : w8.cell? ⟨w7.heap.size, 0, none⟩ = some (.int .i64 on) := (hc8 _ _ (by first | omega | (simp; done) | (simp; omega))).trans (by first | assumption | simp [go_sem] | simp [go_sem, *])
        have g8x3 : w8.cell? ⟨w7.heap.size, 1, none⟩ = some (.bool ol) := (hc8 _ _ (by first | omega | (simp; done) | (simp; omega))).trans (by first | assumption | simp [go_sem] | simp [go_sem, *])
        go_wp2_with fail
        refine (HP.out _).mono ?_
        rintro e w9 ⟨rfl, hb9⟩
        obtain ⟨hc9, hf9⟩ := bcell hb9
        have hz9 := hb9.size
        try simp at hz9
        have hl9w7 : w7.heap.size < w9.heap.size := by omega
        have hm9w7 : w7.heap.size ≤ w9.heap.size := by omega
        have hl9w8 : w8.heap.size < w9.heap.size := by omega
        have hm9w8 : w8.heap.size ≤ w9.heap.size := by omega
        have hs9x0 : p < w9.heap.size := by omega
        have g9x0 : w9.cell? ⟨p, 0, none⟩ = some (.int .i64 n) := (hc9 _ _ (by first | omega | (simp; done) | (simp; omega))).trans (by first | assumption | simp [go_sem] | simp [go_sem, *])
        have g9x1 : w9.cell? ⟨p, 1, none⟩ = some (.bool l) := (hc9 _ _ (by first | omega | (simp; done) | (simp; omega))).trans (by first | assumption | simp [go_sem] | simp [go_sem, *])
        have g9x2 : w9.cell? ⟨w7.heap.size, 0, none⟩ = some (.int .i64 on) := (hc9 _ _ (by first | omega | (simp; done) | (simp; omega))).trans (by first | assumption | simp [go_sem] | simp [go_sem, *])
        have g9x3 : w9.cell? ⟨w7.heap.size, 1, none⟩ = some (.bool ol) := (hc9 _ _ (by first | omega | (simp; done) | (simp; omega))).trans (by first | assumption | simp [go_sem] | simp [go_sem, *])
        have g9x4 : w9.cell? ⟨w8.heap.size, 0, none⟩ = some (.int .i64 on) := (hc9 _ _ (by first | omega | (simp; done) | (simp; omega))).trans (by first | assumption | simp [go_sem] | simp [go_sem, *])
        have g9x5 : w9.cell? ⟨w8.heap.size, 1, none⟩ = some (.bool ol) := (hc9 _ _ (by first | omega | (simp; done) | (simp; omega))).trans (by first | assumption | simp [go_sem] | simp [go_sem, *])
        go_wp2_with fail
        refine (HP2.out _).mono ?_
        rintro e w10 ⟨rfl, hb10⟩
        obtain ⟨hc10, hf10⟩ := bcell hb10
        have hz10 := hb10.size
        try simp at hz10
        have hl10w7 : w7.heap.size < w10.heap.size := by omega
        have hm10w7 : w7.heap.size ≤ w10.heap.size := by omega
        have hl10w8 : w8.heap.size < w10.heap.size := by omega
        have hm10w8 : w8.heap.size ≤ w10.heap.size := by omega
        have hs10x0 : p < w10.heap.size := by omega
        have g10x0 : w10.cell? ⟨p, 0, none⟩ = some (.int .i64 n) := (hc10 _ _ (by first | omega | (simp; done) | (simp; omega))).trans (by first | assumption | simp [go_sem] | simp [go_sem, *])
        have g10x1 : w10.cell? ⟨p, 1, none⟩ = some (.bool l) := (hc10 _ _ (by first | omega | (simp; done) | (simp; omega))).trans (by first | assumption | simp [go_sem] | simp [go_sem, *])
        have g10x2 : w10.cell? ⟨w7.heap.size, 0, none⟩ = some (.int .i64 on) := (hc10 _ _ (by first | omega | (simp; done) | (simp; omega))).trans (by first | assumption | simp [go_sem] | simp [go_sem, *])
        have g10x3 : w10.cell? ⟨w7.heap.size, 1, none⟩ = some (.bool ol) := (hc10 _ _ (by first | omega | (simp; done) | (simp; omega))).trans (by first | assumption | simp [go_sem] | simp [go_sem, *])
        have g10x4 : w10.cell? ⟨w8.heap.size, 0, none⟩ = some (.int .i64 on) := (hc10 _ _ (by first | omega | (simp; done) | (simp; omega))).trans (by first | assumption | simp [go_sem] | simp [go_sem, *])
        have g10x5 : w10.cell? ⟨w8.heap.size, 1, none⟩ = some (.bool ol) := (hc10 _ _ (by first | omega | (simp; done) | (simp; omega))).trans (by first | assumption | simp [go_sem] | simp [go_sem, *])
        go_wp2_with fail
        go_roundw
        case rel => exact ⟨2, by omega, rfl, by assumption, by assumption, by assumption, by repeat (first | (with_reducible exact Below.refl _ _) | assumption | (with_reducible refine bdrew ?_) | (with_reducible refine baa ?_ _) | (with_reducible refine bs ?_ (by first | exact Nat.le_refl _ | omega | (simp; omega)) _) | (with_reducible refine bt ?_ (by assumption)))⟩
        case measure => simp [intOf]
      · go_wp2_with fail
        refine (awake9 _).mono ?_
        rintro e w7 ⟨rfl, hb7⟩
        go_wp2_with fail
        go_ret
        exact ⟨rfl, bt hB hb7⟩
theorem CodeTells_walk (n : Int) (l : Bool) (k : Int) (h : Bool) (t : ByteArray) (m : Int) (hn : I64 n) (hk : I64 k) (ht : t.size ≤ maxLen) (hm : I64 m) (w : World) :
    Calls Try.prog 3 #[.agg #[.int .i64 n, .bool l, .int .i64 k, .bool h, .string t, .int .i64 m]] w fun e w' => e = .returned (.bool true) ∧ Below w.heap.size w w' := by
  by_cases h100 : t.size ≤ 100
  · obtain ⟨rn, rl, rok, hI⟩ := isCode_some t
    exact CodeTells_short n l k h t m hm w rn rl rok (by omega) (Lib.hid (fun w => code_Read_any t rn rl rok w (by omega) hI)) (Lib.hid (fun w => ref9_Read_any t rn rl rok w (by omega) hI))
  · exact CodeTells_long n l k h t m hm w (by omega)
end Go.Proofs.Ytinpdamfdaefmaa
