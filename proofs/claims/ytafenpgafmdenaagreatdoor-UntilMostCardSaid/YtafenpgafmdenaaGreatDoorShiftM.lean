/- Layer 15: months, months away. -/
import Derived.Test.YtafenpgafmdenaaGreatDoorShiftR
namespace Go.Proofs.YtafenpgafmdenaaGreatDoor
open Go.ChangeShapes Go.WideShapes Go.ChangeAt Go.RowKit Go.Sort
set_option linter.unusedVariables false
set_option maxRecDepth 100000
set_option maxHeartbeats 2000000 in
theorem shift_Months_last (y n : Int) (l : Bool) (k : Int) (w : World) (hy : I64 y) (hT : Tab w 8 kevCells) (hL : Tab w 6 lenCells) (he : ¬ D10.lastE y n l = 0) :
    Calls Tryz.prog 112 #[.int .i64 y, .agg #[.int .i64 n, .bool l], .int .i64 k] w fun e w' => e = .returned (.tuple #[.int .i64 0, .agg #[.int .i64 0, .bool false], .int .i64 (D10.lastE y n l)]) ∧ Below w.heap.size w w' := by
  have HL := Lib.hid (fun w hT hL => heb_Last y n l w hy hT hL)
  generalize hle : D10.lastE y n l = le at *
  generalize D10.lastV y n l = lv at *
  have he2 : (le != 0) = true := by simpa using he
  clear hle
  go_enter Tryz.func112, Tryz.ntmps112
  go_wp2_with fail
  refine settleC (fun W => CodeAt W w.heap.size n l ∧ CodeAt W (w.heap.size + 1) 0 false ∧ Below w.heap.size w W) ⟨CodeAt.below (codeAt_alloc _ _ _ _) (ba _ _), codeAt_alloc2 _ _ _ _ _, baa (ba _ _) _⟩ ?_
  rintro W0 ⟨hC0, hR0, hB0⟩
  have hq := hC0
  obtain ⟨c0, c1, cf, cs⟩ := hq
  have hq := hR0
  obtain ⟨r0, r1, rf, rs⟩ := hq
  refine (HL.out _ (Tab.below hT hB0) (Tab.below hL hB0)).mono ?_
  rintro e W1 ⟨rfl, hb1⟩
  have hC1 := CodeAt.below hC0 hb1
  have hR1 := CodeAt.below hR0 hb1
  have hB1 := bt hB0 hb1
  clear c0 c1 cf cs r0 r1 rf rs
  have hq := hC1
  obtain ⟨c0, c1, cf, cs⟩ := hq
  have hq := hR1
  obtain ⟨r0, r1, rf, rs⟩ := hq
  go_wp2_with fail
  refine bodyPost_ret (v := .tuple #[.int .i64 0, .agg #[.int .i64 0, .bool false], .int .i64 le]) (by simp [results, Tryz.results112, go_sem, *]) rfl ⟨rfl, ?_⟩
  iterate 2 refine Below.setCell ?_ (by first | omega | (simp; done)) _
  exact hB1
set_option maxHeartbeats 2000000 in
theorem shift_Months_low (y n : Int) (l : Bool) (k : Int) (w : World) (hy : I64 y) (hT : Tab w 8 kevCells) (hL : Tab w 6 lenCells) (he : D10.lastE y n l = 0) (hk : k < -4000000) :
    Calls Tryz.prog 112 #[.int .i64 y, .agg #[.int .i64 n, .bool l], .int .i64 k] w fun e w' => e = .returned (.tuple #[.int .i64 0, .agg #[.int .i64 0, .bool false], .int .i64 1]) ∧ Below w.heap.size w w' := by
  have HL := Lib.hid (fun w hT hL => heb_Last y n l w hy hT hL)
  rw [he] at HL
  obtain ⟨h1, h2, hp⟩ := S15.last_in he
  clear he
  generalize D10.lastV y n l = lv at *
  clear hp
  go_enter Tryz.func112, Tryz.ntmps112
  go_wp2_with fail
  refine settleC (fun W => CodeAt W w.heap.size n l ∧ CodeAt W (w.heap.size + 1) 0 false ∧ Below w.heap.size w W) ⟨CodeAt.below (codeAt_alloc _ _ _ _) (ba _ _), codeAt_alloc2 _ _ _ _ _, baa (ba _ _) _⟩ ?_
  rintro W0 ⟨hC0, hR0, hB0⟩
  have hq := hC0
  obtain ⟨c0, c1, cf, cs⟩ := hq
  have hq := hR0
  obtain ⟨r0, r1, rf, rs⟩ := hq
  refine (HL.out _ (Tab.below hT hB0) (Tab.below hL hB0)).mono ?_
  rintro e W1 ⟨rfl, hb1⟩
  have hC1 := CodeAt.below hC0 hb1
  have hR1 := CodeAt.below hR0 hb1
  have hB1 := bt hB0 hb1
  clear c0 c1 cf cs r0 r1 rf rs
  have hq := hC1
  obtain ⟨c0, c1, cf, cs⟩ := hq
  have hq := hR1
  obtain ⟨r0, r1, rf, rs⟩ := hq
  go_wp2_with fail
  refine bodyPost_ret (v := .tuple #[.int .i64 0, .agg #[.int .i64 0, .bool false], .int .i64 1]) (by simp [results, Tryz.results112, go_sem, *]) rfl ⟨rfl, ?_⟩
  iterate 2 refine Below.setCell ?_ (by first | omega | (simp; done)) _
  exact hB1
set_option maxHeartbeats 2000000 in
theorem shift_Months_high (y n : Int) (l : Bool) (k : Int) (w : World) (hy : I64 y) (hT : Tab w 8 kevCells) (hL : Tab w 6 lenCells) (he : D10.lastE y n l = 0) (hk0 : -4000000 ≤ k) (hk : 4000000 < k) :
    Calls Tryz.prog 112 #[.int .i64 y, .agg #[.int .i64 n, .bool l], .int .i64 k] w fun e w' => e = .returned (.tuple #[.int .i64 0, .agg #[.int .i64 0, .bool false], .int .i64 1]) ∧ Below w.heap.size w w' := by
  have HL := Lib.hid (fun w hT hL => heb_Last y n l w hy hT hL)
  rw [he] at HL
  obtain ⟨h1, h2, hp⟩ := S15.last_in he
  clear he
  generalize D10.lastV y n l = lv at *
  clear hp
  go_enter Tryz.func112, Tryz.ntmps112
  go_wp2_with fail
  refine settleC (fun W => CodeAt W w.heap.size n l ∧ CodeAt W (w.heap.size + 1) 0 false ∧ Below w.heap.size w W) ⟨CodeAt.below (codeAt_alloc _ _ _ _) (ba _ _), codeAt_alloc2 _ _ _ _ _, baa (ba _ _) _⟩ ?_
  rintro W0 ⟨hC0, hR0, hB0⟩
  have hq := hC0
  obtain ⟨c0, c1, cf, cs⟩ := hq
  have hq := hR0
  obtain ⟨r0, r1, rf, rs⟩ := hq
  refine (HL.out _ (Tab.below hT hB0) (Tab.below hL hB0)).mono ?_
  rintro e W1 ⟨rfl, hb1⟩
  have hC1 := CodeAt.below hC0 hb1
  have hR1 := CodeAt.below hR0 hb1
  have hB1 := bt hB0 hb1
  clear c0 c1 cf cs r0 r1 rf rs
  have hq := hC1
  obtain ⟨c0, c1, cf, cs⟩ := hq
  have hq := hR1
  obtain ⟨r0, r1, rf, rs⟩ := hq
  go_wp2_with fail
  refine bodyPost_ret (v := .tuple #[.int .i64 0, .agg #[.int .i64 0, .bool false], .int .i64 1]) (by simp [results, Tryz.results112, go_sem, *]) rfl ⟨rfl, ?_⟩
  iterate 2 refine Below.setCell ?_ (by first | omega | (simp; done)) _
  exact hB1
set_option maxHeartbeats 2000000 in
theorem shift_Months_before (y n : Int) (l : Bool) (k : Int) (w : World) (hy : I64 y) (hT : Tab w 8 kevCells) (hL : Tab w 6 lenCells) (he : D10.lastE y n l = 0) (hk0 : -4000000 ≤ k) (hk : k ≤ 4000000) (hA : S15.monA y n l k < 0) :
    Calls Tryz.prog 112 #[.int .i64 y, .agg #[.int .i64 n, .bool l], .int .i64 k] w fun e w' => e = .returned (.tuple #[.int .i64 0, .agg #[.int .i64 0, .bool false], .int .i64 2]) ∧ Below w.heap.size w w' := by
  have HL := Lib.hid (fun w hT hL => heb_Last y n l w hy hT hL)
  rw [he] at HL
  obtain ⟨h1, h2, hp⟩ := S15.last_in he
  clear he
  generalize D10.lastV y n l = lv at *
  have hpb := S15.plV_bd _ _ _ hp
  have hbb := S15.before_bd y (by omega) (by omega)
  have HLp := Lib.hid (fun w => cycle_Leap_ok y w (by omega) (by omega))
  have HPl := Lib.hid (fun w => (hp ▸ code_Place_any (Cal.leap y) n l w : Calls Tryz.prog 154 #[.bool (Cal.leap y), .agg #[.int .i64 n, .bool l]] w fun e w' => e = .returned (.tuple #[.int .i64 (Cal.plV (Cal.leap y) n l), .bool true]) ∧ Below w.heap.size w w'))
  have HBy := Lib.hid (fun w => shift_before y w (by omega) (by omega))
  have HB1 := Lib.hid (fun w => (S15.before_1 ▸ shift_before 1 w (by omega) (by omega) : Calls Tryz.prog 162 #[.int .i64 1] w fun e w' => e = .returned (.int .i64 0) ∧ w = w'))
  have HB2 := Lib.hid (fun w => (S15.before_10000 ▸ shift_before 10000 w (by omega) (by omega) : Calls Tryz.prog 162 #[.int .i64 10000] w fun e w' => e = .returned (.int .i64 123671) ∧ w = w'))
  clear hp
  unfold S15.monA at hA
  generalize Cal.plV (Cal.leap y) n l = pv at *
  generalize Cal.leap y = lp at *
  generalize Cal.before y = bf at *
  have g1 : decide (bf + pv - 1 + k < 0) = true := by simpa using hA
  go_enter Tryz.func112, Tryz.ntmps112
  go_wp2_with fail
  refine settleC (fun W => CodeAt W w.heap.size n l ∧ CodeAt W (w.heap.size + 1) 0 false ∧ Below w.heap.size w W) ⟨CodeAt.below (codeAt_alloc _ _ _ _) (ba _ _), codeAt_alloc2 _ _ _ _ _, baa (ba _ _) _⟩ ?_
  rintro W0 ⟨hC0, hR0, hB0⟩
  have hq := hC0
  obtain ⟨c0, c1, cf, cs⟩ := hq
  have hq := hR0
  obtain ⟨r0, r1, rf, rs⟩ := hq
  refine (HL.out _ (Tab.below hT hB0) (Tab.below hL hB0)).mono ?_
  rintro e W1 ⟨rfl, hb1⟩
  have hC1 := CodeAt.below hC0 hb1
  have hR1 := CodeAt.below hR0 hb1
  have hB1 := bt hB0 hb1
  clear c0 c1 cf cs r0 r1 rf rs
  have hq := hC1
  obtain ⟨c0, c1, cf, cs⟩ := hq
  have hq := hR1
  obtain ⟨r0, r1, rf, rs⟩ := hq
  go_wp2_with fail
  refine (HLp.out _).mono ?_
  rintro e w' ⟨rfl, rfl⟩
  go_wp2_with fail
  refine (HPl.out _).mono ?_
  rintro e W2 ⟨rfl, hb2⟩
  have hC2 := CodeAt.below hC1 hb2
  have hR2 := CodeAt.below hR1 hb2
  have hB2 := bt hB1 hb2
  clear c0 c1 cf cs r0 r1 rf rs
  have hq := hC2
  obtain ⟨c0, c1, cf, cs⟩ := hq
  have hq := hR2
  obtain ⟨r0, r1, rf, rs⟩ := hq
  go_wp2_with fail
  refine (HBy.out _).mono ?_
  rintro e w' ⟨rfl, rfl⟩
  go_wp2_with fail
  refine settle (fun W => W.cell? ⟨W2.heap.size, 0, none⟩ = some (.int .i64 (bf + pv - 1 + k)) ∧ W2.heap.size < W.heap.size ∧ CodeAt W (w.heap.size + 1) 0 false ∧ Below w.heap.size w W) ⟨by simp [go_sem], by simp, CodeAt.below hR2 (ba _ _), baa hB2 _⟩ ?_
  rintro W3 ⟨a0, az, hR3, hB3⟩
  refine wp_region_class (by kernel_rfl) (by kernel_rfl) (fun hall => ?_)
  repeat (first | go_big_quiet_skip | (go_big_quiet_want; first | (refine quiet_load1 _ _ _ rfl rfl ?_ ?_ ?_; (focus (intro _; simp; done)); (focus (first | assumption | omega | (simp; done) | (simp; omega))); apply Exists.intro; refine ⟨?_, ?_⟩; assumption; go_simp; go_big_quiet_on) | (refine quiet_load2 _ _ _ _ rfl rfl ?_ ?_ ?_ ?_; (focus (intro _; simp; done)); (focus (intro _; simp; done)); (focus (first | assumption | omega | (simp; done) | (simp; omega))); apply Exists.intro; apply Exists.intro; refine ⟨?_, ?_, ?_⟩; assumption; assumption; go_simp; go_big_quiet_on) | (refine quiet_load3 _ _ _ _ rfl rfl ?_ ?_ ?_ ?_; (focus (intro _; simp; done)); (focus (intro _; simp; done)); (focus (first | assumption | omega | (simp; done) | (simp; omega))); apply Exists.intro; apply Exists.intro; apply Exists.intro; refine ⟨?_, ?_, ?_, ?_⟩; assumption; assumption; assumption; go_simp; go_big_quiet_on) | (refine quiet_load4 _ _ _ _ rfl rfl ?_ ?_ ?_ ?_; (focus (intro _; simp; done)); (focus (intro _; simp; done)); (focus (first | assumption | omega | (simp; done) | (simp; omega))); apply Exists.intro; apply Exists.intro; apply Exists.intro; apply Exists.intro; refine ⟨?_, ?_, ?_, ?_, ?_⟩; assumption; assumption; assumption; assumption; go_simp; go_big_quiet_on) | (go_big_quiet_op; first | go_big_quiet_on | (apply Exists.intro; refine ⟨fun x hx => ?_, ?_⟩; (first | (with_reducible exact call_same hx (HB1.out x)) | (with_reducible exact call_same hx (HB2.out x)) | exact call_same hx (HB1.out x) | exact call_same hx (HB2.out x)); go_big_quiet_on))))
  refine wpQuiet_nil ?_
  clear hall
  intro x4 hx4
  have a1 := (hx4.cell (p := ⟨W2.heap.size, 0, none⟩) az).trans a0
  have az4 := Nat.lt_of_lt_of_le az hx4.size
  have hR4 := CodeAt.below hR3 hx4
  have hB4 := bt hB3 hx4
  clear a0 az c0 c1 cf cs r0 r1 rf rs
  have hq := hR4
  obtain ⟨r0, r1, rf, rs⟩ := hq
  go_wp2_with fail
  refine bodyPost_ret (v := .tuple #[.int .i64 0, .agg #[.int .i64 0, .bool false], .int .i64 2]) (by simp [results, Tryz.results112, go_sem, *]) rfl ⟨rfl, ?_⟩
  iterate 2 refine Below.setCell ?_ (by first | omega | (simp; done)) _
  exact hB4
set_option maxHeartbeats 2000000 in
theorem shift_Months_beyond (y n : Int) (l : Bool) (k : Int) (w : World) (hy : I64 y) (hT : Tab w 8 kevCells) (hL : Tab w 6 lenCells) (he : D10.lastE y n l = 0) (hk0 : -4000000 ≤ k) (hk : k ≤ 4000000) (hA0 : 0 ≤ S15.monA y n l k) (hA : 123671 ≤ S15.monA y n l k) :
    Calls Tryz.prog 112 #[.int .i64 y, .agg #[.int .i64 n, .bool l], .int .i64 k] w fun e w' => e = .returned (.tuple #[.int .i64 0, .agg #[.int .i64 0, .bool false], .int .i64 2]) ∧ Below w.heap.size w w' := by
  have HL := Lib.hid (fun w hT hL => heb_Last y n l w hy hT hL)
  rw [he] at HL
  obtain ⟨h1, h2, hp⟩ := S15.last_in he
  clear he
  generalize D10.lastV y n l = lv at *
  have hpb := S15.plV_bd _ _ _ hp
  have hbb := S15.before_bd y (by omega) (by omega)
  have HLp := Lib.hid (fun w => cycle_Leap_ok y w (by omega) (by omega))
  have HPl := Lib.hid (fun w => (hp ▸ code_Place_any (Cal.leap y) n l w : Calls Tryz.prog 154 #[.bool (Cal.leap y), .agg #[.int .i64 n, .bool l]] w fun e w' => e = .returned (.tuple #[.int .i64 (Cal.plV (Cal.leap y) n l), .bool true]) ∧ Below w.heap.size w w'))
  have HBy := Lib.hid (fun w => shift_before y w (by omega) (by omega))
  have HB1 := Lib.hid (fun w => (S15.before_1 ▸ shift_before 1 w (by omega) (by omega) : Calls Tryz.prog 162 #[.int .i64 1] w fun e w' => e = .returned (.int .i64 0) ∧ w = w'))
  have HB2 := Lib.hid (fun w => (S15.before_10000 ▸ shift_before 10000 w (by omega) (by omega) : Calls Tryz.prog 162 #[.int .i64 10000] w fun e w' => e = .returned (.int .i64 123671) ∧ w = w'))
  clear hp
  unfold S15.monA at hA hA0
  generalize Cal.plV (Cal.leap y) n l = pv at *
  generalize Cal.leap y = lp at *
  generalize Cal.before y = bf at *
  have g1 : decide (bf + pv - 1 + k < 0) = false := by simp; omega
  have g2 : decide (123671 ≤ bf + pv - 1 + k) = true := by simpa using hA
  go_enter Tryz.func112, Tryz.ntmps112
  go_wp2_with fail
  refine settleC (fun W => CodeAt W w.heap.size n l ∧ CodeAt W (w.heap.size + 1) 0 false ∧ Below w.heap.size w W) ⟨CodeAt.below (codeAt_alloc _ _ _ _) (ba _ _), codeAt_alloc2 _ _ _ _ _, baa (ba _ _) _⟩ ?_
  rintro W0 ⟨hC0, hR0, hB0⟩
  have hq := hC0
  obtain ⟨c0, c1, cf, cs⟩ := hq
  have hq := hR0
  obtain ⟨r0, r1, rf, rs⟩ := hq
  refine (HL.out _ (Tab.below hT hB0) (Tab.below hL hB0)).mono ?_
  rintro e W1 ⟨rfl, hb1⟩
  have hC1 := CodeAt.below hC0 hb1
  have hR1 := CodeAt.below hR0 hb1
  have hB1 := bt hB0 hb1
  clear c0 c1 cf cs r0 r1 rf rs
  have hq := hC1
  obtain ⟨c0, c1, cf, cs⟩ := hq
  have hq := hR1
  obtain ⟨r0, r1, rf, rs⟩ := hq
  go_wp2_with fail
  refine (HLp.out _).mono ?_
  rintro e w' ⟨rfl, rfl⟩
  go_wp2_with fail
  refine (HPl.out _).mono ?_
  rintro e W2 ⟨rfl, hb2⟩
  have hC2 := CodeAt.below hC1 hb2
  have hR2 := CodeAt.below hR1 hb2
  have hB2 := bt hB1 hb2
  clear c0 c1 cf cs r0 r1 rf rs
  have hq := hC2
  obtain ⟨c0, c1, cf, cs⟩ := hq
  have hq := hR2
  obtain ⟨r0, r1, rf, rs⟩ := hq
  go_wp2_with fail
  refine (HBy.out _).mono ?_
  rintro e w' ⟨rfl, rfl⟩
  go_wp2_with fail
  refine settle (fun W => W.cell? ⟨W2.heap.size, 0, none⟩ = some (.int .i64 (bf + pv - 1 + k)) ∧ W2.heap.size < W.heap.size ∧ CodeAt W (w.heap.size + 1) 0 false ∧ Below w.heap.size w W) ⟨by simp [go_sem], by simp, CodeAt.below hR2 (ba _ _), baa hB2 _⟩ ?_
  rintro W3 ⟨a0, az, hR3, hB3⟩
  refine wp_region_class (by kernel_rfl) (by kernel_rfl) (fun hall => ?_)
  repeat (first | go_big_quiet_skip | (go_big_quiet_want; first | (refine quiet_load1 _ _ _ rfl rfl ?_ ?_ ?_; (focus (intro _; simp; done)); (focus (first | assumption | omega | (simp; done) | (simp; omega))); apply Exists.intro; refine ⟨?_, ?_⟩; assumption; go_simp; go_big_quiet_on) | (refine quiet_load2 _ _ _ _ rfl rfl ?_ ?_ ?_ ?_; (focus (intro _; simp; done)); (focus (intro _; simp; done)); (focus (first | assumption | omega | (simp; done) | (simp; omega))); apply Exists.intro; apply Exists.intro; refine ⟨?_, ?_, ?_⟩; assumption; assumption; go_simp; go_big_quiet_on) | (refine quiet_load3 _ _ _ _ rfl rfl ?_ ?_ ?_ ?_; (focus (intro _; simp; done)); (focus (intro _; simp; done)); (focus (first | assumption | omega | (simp; done) | (simp; omega))); apply Exists.intro; apply Exists.intro; apply Exists.intro; refine ⟨?_, ?_, ?_, ?_⟩; assumption; assumption; assumption; go_simp; go_big_quiet_on) | (refine quiet_load4 _ _ _ _ rfl rfl ?_ ?_ ?_ ?_; (focus (intro _; simp; done)); (focus (intro _; simp; done)); (focus (first | assumption | omega | (simp; done) | (simp; omega))); apply Exists.intro; apply Exists.intro; apply Exists.intro; apply Exists.intro; refine ⟨?_, ?_, ?_, ?_, ?_⟩; assumption; assumption; assumption; assumption; go_simp; go_big_quiet_on) | (go_big_quiet_op; first | go_big_quiet_on | (apply Exists.intro; refine ⟨fun x hx => ?_, ?_⟩; (first | (with_reducible exact call_same hx (HB1.out x)) | (with_reducible exact call_same hx (HB2.out x)) | exact call_same hx (HB1.out x) | exact call_same hx (HB2.out x)); go_big_quiet_on))))
  refine wpQuiet_nil ?_
  clear hall
  intro x4 hx4
  have a1 := (hx4.cell (p := ⟨W2.heap.size, 0, none⟩) az).trans a0
  have az4 := Nat.lt_of_lt_of_le az hx4.size
  have hR4 := CodeAt.below hR3 hx4
  have hB4 := bt hB3 hx4
  clear a0 az c0 c1 cf cs r0 r1 rf rs
  have hq := hR4
  obtain ⟨r0, r1, rf, rs⟩ := hq
  go_wp2_with fail
  refine bodyPost_ret (v := .tuple #[.int .i64 0, .agg #[.int .i64 0, .bool false], .int .i64 2]) (by simp [results, Tryz.results112, go_sem, *]) rfl ⟨rfl, ?_⟩
  iterate 2 refine Below.setCell ?_ (by first | omega | (simp; done)) _
  exact hB4
theorem shift_before' (y : Int) (w : World) (h0 : 0 ≤ y) (h1 : y ≤ 10001) : Calls Tryz.prog 162 #[.int .i64 y] w fun e w' => e = .returned (.int .i64 (Cal.before y)) ∧ w' = w := (shift_before y w h0 h1).mono fun _ _ h => ⟨h.1, h.2.symm⟩
theorem shift_Months1 (d i : Int) (B : Nat) (w : World) (hc : w.cell? ⟨B, 0, none⟩ = some (.int .i64 d)) (h0 : 0 ≤ i) (h1 : i < 9998) :
    Calls Tryz.prog 163 #[.int .i64 i, .pointer (some ⟨B, 0, none⟩)] w fun e w' => e = .returned (.bool (decide (d < Cal.before (i + 2)))) ∧ ∃ q, w' = w.drewN q := by
  have H := Lib.hid (fun w => shift_before' (i + 2) w (by omega) (by omega))
  have e1 : IntKind.i64.wrap (1 + i) = 1 + i := IntWalk.i64_in _ (by omega)
  have e2 : IntKind.i64.wrap (1 + i + 1) = i + 2 := by rw [show 1 + i + 1 = i + 2 by omega]; exact IntWalk.i64_in _ (by omega)
  go_enter Tryz.func163, Tryz.ntmps163
  go_wp2_with fail
  clear h0 h1
  go_quiet ((go_at_call 162; exact Calls.quiet_of_same (H.out _)))
  go_wp2_with fail
  go_ret
  exact ⟨rfl, _, rfl⟩
theorem codeAt_drew {w : World} {g : Nat} {n : Int} {l : Bool} (h : CodeAt w g n l) : CodeAt w.drew g n l := CodeAt.below h (bdrew (Below.refl _ _))
set_option maxHeartbeats 2000000 in
theorem shift_Months_ok (y n : Int) (l : Bool) (k : Int) (w : World) (hy : I64 y) (hT : Tab w 8 kevCells) (hL : Tab w 6 lenCells) (he : D10.lastE y n l = 0) (hk0 : -4000000 ≤ k) (hk : k ≤ 4000000) (hA0 : 0 ≤ S15.monA y n l k) (hA1 : S15.monA y n l k < 123671) :
    Calls Tryz.prog 112 #[.int .i64 y, .agg #[.int .i64 n, .bool l], .int .i64 k] w fun e w' => e = .returned (.tuple #[.int .i64 (S15.mY (S15.monA y n l k)), .agg #[.int .i64 (Cal.ofN (Cal.leap (S15.mY (S15.monA y n l k))) (S15.mM (S15.monA y n l k))), .bool (Cal.ofL (Cal.leap (S15.mY (S15.monA y n l k))) (S15.mM (S15.monA y n l k)))], .int .i64 0]) ∧ Below w.heap.size w w' := by
  have HL := Lib.hid (fun w hT hL => heb_Last y n l w hy hT hL)
  rw [he] at HL
  obtain ⟨h1, h2, hp⟩ := S15.last_in he
  clear he
  generalize D10.lastV y n l = lv at *
  have hpb := S15.plV_bd _ _ _ hp
  have hbb := S15.before_bd y (by omega) (by omega)
  have HLp := Lib.hid (fun w => cycle_Leap_ok y w (by omega) (by omega))
  have HPl := Lib.hid (fun w => (hp ▸ code_Place_any (Cal.leap y) n l w : Calls Tryz.prog 154 #[.bool (Cal.leap y), .agg #[.int .i64 n, .bool l]] w fun e w' => e = .returned (.tuple #[.int .i64 (Cal.plV (Cal.leap y) n l), .bool true]) ∧ Below w.heap.size w w'))
  have HBy := Lib.hid (fun w => shift_before y w (by omega) (by omega))
  have HB1 := Lib.hid (fun w => (S15.before_1 ▸ shift_before 1 w (by omega) (by omega) : Calls Tryz.prog 162 #[.int .i64 1] w fun e w' => e = .returned (.int .i64 0) ∧ w = w'))
  have HB2 := Lib.hid (fun w => (S15.before_10000 ▸ shift_before 10000 w (by omega) (by omega) : Calls Tryz.prog 162 #[.int .i64 10000] w fun e w' => e = .returned (.int .i64 123671) ∧ w = w'))
  clear hp
  unfold S15.monA at *
  generalize Cal.plV (Cal.leap y) n l = pv at *
  generalize Cal.leap y = lp at *
  generalize Cal.before y = bf at *
  obtain ⟨t1, t2⟩ := S15.mY_in _ hA0 hA1
  have tm := S15.mM_in (bf + pv - 1 + k)
  have tc := S15.mY_count _ hA0 hA1
  have g1 : decide (bf + pv - 1 + k < 0) = false := by simp; omega
  have g2 : decide (123671 ≤ bf + pv - 1 + k) = false := by simp; omega
  have HBm := Lib.hid (fun w => shift_before (S15.mY (bf + pv - 1 + k)) w (by omega) (by omega))
  have HLm := Lib.hid (fun w => cycle_Leap_ok (S15.mY (bf + pv - 1 + k)) w (by omega) (by omega))
  have hmM : S15.mM (bf + pv - 1 + k) = bf + pv - 1 + k - Cal.before (S15.mY (bf + pv - 1 + k)) + 1 := rfl
  have hbm := S15.before_bd (S15.mY (bf + pv - 1 + k)) (by omega) (by omega)
  have tmb : S15.mM (bf + pv - 1 + k) ≤ 13 := by have := tm.2; unfold Cal.most at this; split at this <;> omega
  have HOf := Lib.hid (fun w => code_Of_any (Cal.leap (S15.mY (bf + pv - 1 + k))) (S15.mM (bf + pv - 1 + k)) w (by omega))
  have HQ : ∀ (B : Nat) (W : World), W.cell? ⟨B, 0, none⟩ = some (.int .i64 (bf + pv - 1 + k)) → B < W.heap.size → Calls Tryz.prog 141 #[.int .i64 9998, .func (.func 163) #[] #[.pointer (some ⟨B, 0, none⟩)]] W fun e w' => e = .returned (.int .i64 (S15.mY (bf + pv - 1 + k) - 1)) ∧ Below W.heap.size W w' := by
    intro B W hW hs
    have hh := Any.sort_Search search 163 #[.pointer (some ⟨B, 0, none⟩)] 9998 (fun i => decide (bf + pv - 1 + k < Cal.before ((i : Int) + 2))) W (enters_of Tryz.func163 (by kernel_rfl) rfl) (by omega)
      (fun m os i hi => (shift_Months1 (bf + pv - 1 + k) i B _ (cell_grown hs hW m os) (by omega) (by omega)).mono fun e w' h => ⟨h.1, by obtain ⟨q, hq⟩ := h.2; exact ⟨q, #[], by rw [hq, grow_empty]⟩⟩)
      (fun a b hab hb hp => by
        have hp' := of_decide_eq_true hp
        have := S15.before_mono ((a : Int) + 2) ((b : Int) + 2) (by omega)
        exact decide_eq_true (by omega))
    rw [tc] at hh
    exact hh.mono fun e w' h => ⟨h.1, by obtain ⟨q, os, rfl⟩ := h.2; exact below_grown_sl _ W q os (Nat.le_refl _)⟩
  have HR := Lib.hid HQ
  clear HQ tc tm
  generalize hAe : bf + pv - 1 + k = A at *
  generalize Cal.ofN (Cal.leap (S15.mY A)) (S15.mM A) = rn at *
  generalize Cal.ofL (Cal.leap (S15.mY A)) (S15.mM A) = rl at *
  generalize Cal.ofOk (Cal.leap (S15.mY A)) (S15.mM A) = ro at *
  generalize S15.mM A = mm at *
  generalize Cal.leap (S15.mY A) = lp2 at *
  generalize Cal.before (S15.mY A) = bm at *
  generalize S15.mY A = ry at *
  have hAh := Lib.hid hAe
  have hmh := Lib.hid hmM
  clear hAe hmM
  go_enter Tryz.func112, Tryz.ntmps112
  go_wp2_with fail
  refine settleC (fun W => CodeAt W w.heap.size n l ∧ CodeAt W (w.heap.size + 1) 0 false ∧ Below w.heap.size w W) ⟨CodeAt.below (codeAt_alloc _ _ _ _) (ba _ _), codeAt_alloc2 _ _ _ _ _, baa (ba _ _) _⟩ ?_
  rintro W0 ⟨hC0, hR0, hB0⟩
  have hq := hC0
  obtain ⟨c0, c1, cf, cs⟩ := hq
  have hq := hR0
  obtain ⟨r0, r1, rf, rs⟩ := hq
  refine (HL.out _ (Tab.below hT hB0) (Tab.below hL hB0)).mono ?_
  rintro e W1 ⟨rfl, hb1⟩
  have hC1 := CodeAt.below hC0 hb1
  have hR1 := CodeAt.below hR0 hb1
  have hB1 := bt hB0 hb1
  clear c0 c1 cf cs r0 r1 rf rs
  have hq := hC1
  obtain ⟨c0, c1, cf, cs⟩ := hq
  have hq := hR1
  obtain ⟨r0, r1, rf, rs⟩ := hq
  go_wp2_with fail
  refine (HLp.out _).mono ?_
  rintro e w' ⟨rfl, rfl⟩
  go_wp2_with fail
  refine (HPl.out _).mono ?_
  rintro e W2 ⟨rfl, hb2⟩
  have hC2 := CodeAt.below hC1 hb2
  have hR2 := CodeAt.below hR1 hb2
  have hB2 := bt hB1 hb2
  clear c0 c1 cf cs r0 r1 rf rs
  have hq := hC2
  obtain ⟨c0, c1, cf, cs⟩ := hq
  have hq := hR2
  obtain ⟨r0, r1, rf, rs⟩ := hq
  go_wp2_with fail
  refine (HBy.out _).mono ?_
  rintro e w' ⟨rfl, rfl⟩
  go_wp2_with fail
  refine settle (fun W => W.cell? ⟨W2.heap.size, 0, none⟩ = some (.int .i64 (A)) ∧ W2.heap.size < W.heap.size ∧ CodeAt W (w.heap.size + 1) 0 false ∧ Below w.heap.size w W) ⟨by rw [← hAh.out]; simp [go_sem], by simp, CodeAt.below hR2 (ba _ _), baa hB2 _⟩ ?_
  rintro W3 ⟨a0, az, hR3, hB3⟩
  refine wp_region_class (by kernel_rfl) (by kernel_rfl) (fun hall => ?_)
  repeat (first | go_big_quiet_skip | (go_big_quiet_want; first | (refine quiet_load1 _ _ _ rfl rfl ?_ ?_ ?_; (focus (intro _; simp; done)); (focus (first | assumption | omega | (simp; done) | (simp; omega))); apply Exists.intro; refine ⟨?_, ?_⟩; assumption; go_simp; go_big_quiet_on) | (refine quiet_load2 _ _ _ _ rfl rfl ?_ ?_ ?_ ?_; (focus (intro _; simp; done)); (focus (intro _; simp; done)); (focus (first | assumption | omega | (simp; done) | (simp; omega))); apply Exists.intro; apply Exists.intro; refine ⟨?_, ?_, ?_⟩; assumption; assumption; go_simp; go_big_quiet_on) | (refine quiet_load3 _ _ _ _ rfl rfl ?_ ?_ ?_ ?_; (focus (intro _; simp; done)); (focus (intro _; simp; done)); (focus (first | assumption | omega | (simp; done) | (simp; omega))); apply Exists.intro; apply Exists.intro; apply Exists.intro; refine ⟨?_, ?_, ?_, ?_⟩; assumption; assumption; assumption; go_simp; go_big_quiet_on) | (refine quiet_load4 _ _ _ _ rfl rfl ?_ ?_ ?_ ?_; (focus (intro _; simp; done)); (focus (intro _; simp; done)); (focus (first | assumption | omega | (simp; done) | (simp; omega))); apply Exists.intro; apply Exists.intro; apply Exists.intro; apply Exists.intro; refine ⟨?_, ?_, ?_, ?_, ?_⟩; assumption; assumption; assumption; assumption; go_simp; go_big_quiet_on) | (go_big_quiet_op; first | go_big_quiet_on | (apply Exists.intro; refine ⟨fun x hx => ?_, ?_⟩; (first | (with_reducible exact call_same hx (HB1.out x)) | (with_reducible exact call_same hx (HB2.out x)) | exact call_same hx (HB1.out x) | exact call_same hx (HB2.out x)); go_big_quiet_on))))
  refine wpQuiet_nil ?_
  clear hall
  intro x4 hx4
  have a1 := (hx4.cell (p := ⟨W2.heap.size, 0, none⟩) az).trans a0
  have az4 := Nat.lt_of_lt_of_le az hx4.size
  have hR4 := CodeAt.below hR3 hx4
  have hB4 := bt hB3 hx4
  clear a0 az c0 c1 cf cs r0 r1 rf rs
  have hq := hR4
  obtain ⟨r0, r1, rf, rs⟩ := hq
  go_wp2_with fail
  refine (HR.out _ _ a1 az4).mono ?_
  rintro e W5 ⟨rfl, hb5⟩
  have a2 := (hb5.cell (p := ⟨W2.heap.size, 0, none⟩) az4).trans a1
  have az5 := Nat.lt_of_lt_of_le az4 hb5.size
  have hR5 := CodeAt.below hR4 hb5
  have hB5 := bt hB4 hb5
  clear a1 az4 r0 r1 rf rs
  have hq := hR5
  obtain ⟨r0, r1, rf, rs⟩ := hq
  have ey : 1 + (ry - 1) = ry := by omega
  go_wp2_with fail
  refine (HLm.out _).mono ?_
  rintro e w' ⟨rfl, rfl⟩
  go_wp2_with fail
  have w1 : IntKind.i64.wrap (A - bm) = A - bm := IntWalk.i64_in _ (by omega)
  have w2 : IntKind.i64.wrap (A - bm + 1) = mm := by rw [hmh.out]; exact IntWalk.i64_in _ (by have := hmh.out; omega)
  clear ey
  go_region_with (first | (go_at_call 162; refine (HBm.out _).mono ?_; rintro e w6 ⟨rfl, rfl⟩) | (go_at_call 164; refine (HOf.out _).mono ?_; rintro e W7 ⟨rfl, hb7⟩; have hW7 := bt (show Below W5.heap.size W5 _ by repeat (first | (with_reducible exact Below.refl _ _) | (with_reducible refine bdrew ?_) | (with_reducible refine baa ?_ _))) hb7; have hR7 := CodeAt.below hR5 hW7; have hB7 := bt hB5 hW7; obtain ⟨hc7, hf7⟩ := bcell hb7; have hz7 := hb7.size; have hq := hR7; obtain ⟨z0, z1, zf, zs⟩ := hq; try simp at hz7))
  all_goals go_wp2_with fail
  all_goals go_region
  all_goals go_wp2_with fail
  all_goals refine bodyPost_ret (v := .tuple #[.int .i64 ry, .agg #[.int .i64 rn, .bool rl], .int .i64 0]) (by simp [results, Tryz.results112, go_sem, *]) rfl ⟨rfl, ?_⟩
  all_goals (repeat (first | (with_reducible exact Below.refl _ _) | (with_reducible assumption) | (with_reducible refine bdrew ?_) | (with_reducible refine baa ?_ _) | (with_reducible refine bs ?_ (by first | exact Nat.le_refl _ | omega | (simp; done) | (simp; omega)) _)))
end Go.Proofs.YtafenpgafmdenaaGreatDoor
