/- Layer 15: the document's months, year by year; both at any input. -/
import Derived.Test.YtafenpgafmdenaaGreatDoorShiftM
namespace Go.Proofs.YtafenpgafmdenaaGreatDoor
open Go.ChangeShapes Go.WideShapes Go.ChangeAt Go.RowKit Go.Sort
set_option linter.unusedVariables false
set_option maxRecDepth 100000
set_option maxHeartbeats 2000000 in
theorem ref15_Months_last (y n : Int) (l : Bool) (k : Int) (w : World) (hy : I64 y)  (he : ¬ D10.lastE y n l = 0) :
    Calls Tryz.prog 71 #[.int .i64 y, .agg #[.int .i64 n, .bool l], .int .i64 k] w fun e w' => e = .returned (.tuple #[.int .i64 0, .agg #[.int .i64 0, .bool false], .int .i64 (D10.lastE y n l)]) ∧ Below w.heap.size w w' := by
  have HL := Lib.hid (fun w => ref10_Last y n l w hy)
  generalize hle : D10.lastE y n l = le at *
  generalize D10.lastV y n l = lv at *
  have he2 : (le != 0) = true := by simpa using he
  clear hle
  go_enter Tryz.func71, Tryz.ntmps71
  go_wp2_with fail
  refine settleC (fun W => CodeAt W w.heap.size n l ∧ CodeAt W (w.heap.size + 1) 0 false ∧ Below w.heap.size w W) ⟨CodeAt.below (codeAt_alloc _ _ _ _) (ba _ _), codeAt_alloc2 _ _ _ _ _, baa (ba _ _) _⟩ ?_
  rintro W0 ⟨hC0, hR0, hB0⟩
  have hq := hC0
  obtain ⟨c0, c1, cf, cs⟩ := hq
  have hq := hR0
  obtain ⟨r0, r1, rf, rs⟩ := hq
  refine (HL.out _).mono ?_
  rintro e W1 ⟨rfl, hb1⟩
  have hC1 := CodeAt.below hC0 hb1
  have hR1 := CodeAt.below hR0 hb1
  have hB1 := bt hB0 hb1
  clear c0 c1 cf cs r0 r1 rf rs
  have hq := hC1
  obtain ⟨c0, c1, cf, cs⟩ := hq
  have hq := hR1
  obtain ⟨r0, r1, rf, rs⟩ := hq
  go_wp2_with fail
  refine bodyPost_ret (v := .tuple #[.int .i64 0, .agg #[.int .i64 0, .bool false], .int .i64 le]) (by simp [results, Tryz.results71, go_sem, *]) rfl ⟨rfl, ?_⟩
  iterate 2 refine Below.setCell ?_ (by first | omega | (simp; done)) _
  exact hB1
set_option maxHeartbeats 2000000 in
theorem ref15_Months_low (y n : Int) (l : Bool) (k : Int) (w : World) (hy : I64 y)  (he : D10.lastE y n l = 0) (hk : k < -4000000) :
    Calls Tryz.prog 71 #[.int .i64 y, .agg #[.int .i64 n, .bool l], .int .i64 k] w fun e w' => e = .returned (.tuple #[.int .i64 0, .agg #[.int .i64 0, .bool false], .int .i64 1]) ∧ Below w.heap.size w w' := by
  have HL := Lib.hid (fun w => ref10_Last y n l w hy)
  rw [he] at HL
  obtain ⟨h1, h2, hp⟩ := S15.last_in he
  clear he
  generalize D10.lastV y n l = lv at *
  clear hp
  go_enter Tryz.func71, Tryz.ntmps71
  go_wp2_with fail
  refine settleC (fun W => CodeAt W w.heap.size n l ∧ CodeAt W (w.heap.size + 1) 0 false ∧ Below w.heap.size w W) ⟨CodeAt.below (codeAt_alloc _ _ _ _) (ba _ _), codeAt_alloc2 _ _ _ _ _, baa (ba _ _) _⟩ ?_
  rintro W0 ⟨hC0, hR0, hB0⟩
  have hq := hC0
  obtain ⟨c0, c1, cf, cs⟩ := hq
  have hq := hR0
  obtain ⟨r0, r1, rf, rs⟩ := hq
  refine (HL.out _).mono ?_
  rintro e W1 ⟨rfl, hb1⟩
  have hC1 := CodeAt.below hC0 hb1
  have hR1 := CodeAt.below hR0 hb1
  have hB1 := bt hB0 hb1
  clear c0 c1 cf cs r0 r1 rf rs
  have hq := hC1
  obtain ⟨c0, c1, cf, cs⟩ := hq
  have hq := hR1
  obtain ⟨r0, r1, rf, rs⟩ := hq
  go_wp2_with fail
  refine bodyPost_ret (v := .tuple #[.int .i64 0, .agg #[.int .i64 0, .bool false], .int .i64 1]) (by simp [results, Tryz.results71, go_sem, *]) rfl ⟨rfl, ?_⟩
  iterate 2 refine Below.setCell ?_ (by first | omega | (simp; done)) _
  exact hB1
set_option maxHeartbeats 2000000 in
theorem ref15_Months_high (y n : Int) (l : Bool) (k : Int) (w : World) (hy : I64 y)  (he : D10.lastE y n l = 0) (hk0 : -4000000 ≤ k) (hk : 4000000 < k) :
    Calls Tryz.prog 71 #[.int .i64 y, .agg #[.int .i64 n, .bool l], .int .i64 k] w fun e w' => e = .returned (.tuple #[.int .i64 0, .agg #[.int .i64 0, .bool false], .int .i64 1]) ∧ Below w.heap.size w w' := by
  have HL := Lib.hid (fun w => ref10_Last y n l w hy)
  rw [he] at HL
  obtain ⟨h1, h2, hp⟩ := S15.last_in he
  clear he
  generalize D10.lastV y n l = lv at *
  clear hp
  go_enter Tryz.func71, Tryz.ntmps71
  go_wp2_with fail
  refine settleC (fun W => CodeAt W w.heap.size n l ∧ CodeAt W (w.heap.size + 1) 0 false ∧ Below w.heap.size w W) ⟨CodeAt.below (codeAt_alloc _ _ _ _) (ba _ _), codeAt_alloc2 _ _ _ _ _, baa (ba _ _) _⟩ ?_
  rintro W0 ⟨hC0, hR0, hB0⟩
  have hq := hC0
  obtain ⟨c0, c1, cf, cs⟩ := hq
  have hq := hR0
  obtain ⟨r0, r1, rf, rs⟩ := hq
  refine (HL.out _).mono ?_
  rintro e W1 ⟨rfl, hb1⟩
  have hC1 := CodeAt.below hC0 hb1
  have hR1 := CodeAt.below hR0 hb1
  have hB1 := bt hB0 hb1
  clear c0 c1 cf cs r0 r1 rf rs
  have hq := hC1
  obtain ⟨c0, c1, cf, cs⟩ := hq
  have hq := hR1
  obtain ⟨r0, r1, rf, rs⟩ := hq
  go_wp2_with fail
  refine bodyPost_ret (v := .tuple #[.int .i64 0, .agg #[.int .i64 0, .bool false], .int .i64 1]) (by simp [results, Tryz.results71, go_sem, *]) rfl ⟨rfl, ?_⟩
  iterate 2 refine Below.setCell ?_ (by first | omega | (simp; done)) _
  exact hB1
namespace S15
/-- What the loop knows: the year z, the month m of it. -/
def Mon (a z m : Int) : Prop := Cal.before z + m = a + 1 ∧ 0 ≤ z ∧ z ≤ 10000 ∧ (1 ≤ z ∨ a < 0) ∧ (z ≤ 9999 ∨ 123671 ≤ a) ∧ -5000000 ≤ m ∧ m ≤ 5000000
theorem months_most (z : Int) : Cal.months z = Cal.most (Cal.leap z) := rfl
theorem mon_up {a z m : Int} (h : Mon a z m) (h1 : 1 ≤ z) (h2 : z ≤ 9999) (hm : Cal.months z < m) : Mon a (z + 1) (m - Cal.months z) ∧ (mY a - (z + 1)).natAbs < (mY a - z).natAbs := by
  obtain ⟨e, _, _, _, _, b1, b2⟩ := h
  have hn := before_next z
  rw [← months_most] at hn
  have hb := months_bd z
  have hz : z = 9999 → Cal.before (z + 1) = 123671 := by rintro rfl; exact before_10000
  have hy : z + 1 ≤ mY a := by
    have : Cal.before (z + 1) ≤ a := by omega
    unfold Cal.before at this; unfold mY; omega
  refine ⟨⟨by omega, by omega, by omega, by omega, ?_, by omega, by omega⟩, by omega⟩
  by_cases c : z = 9999
  · have := hz c; omega
  · omega
theorem mon_down {a z m : Int} (h : Mon a z m) (h1 : 1 ≤ z) (h2 : z ≤ 9999) (hm : m < 1) : Mon a (z - 1) (m + Cal.months (z - 1)) ∧ (mY a - (z - 1)).natAbs < (mY a - z).natAbs := by
  obtain ⟨e, _, _, _, _, b1, b2⟩ := h
  have hn := before_next (z - 1)
  rw [← months_most, show z - 1 + 1 = z by omega] at hn
  have hb := months_bd (z - 1)
  have hz : z = 1 → Cal.before z = 0 := by rintro rfl; exact before_1
  have hy : mY a < z := by
    have : a < Cal.before z := by omega
    unfold Cal.before at this; unfold mY; omega
  refine ⟨⟨by omega, by omega, by omega, ?_, by omega, by omega, by omega⟩, by omega⟩
  by_cases c : z = 1
  · have := hz c; omega
  · omega
theorem mon_at {a z m : Int} (h : Mon a z m) (h1 : 1 ≤ m) (h2 : m ≤ Cal.months z) : mY a = z ∧ mM a = m := by
  obtain ⟨e, _⟩ := h
  have hn := before_next z
  rw [← months_most] at hn
  have hy := mY_one a z (by omega) (by omega)
  exact ⟨hy, by unfold mM; rw [hy]; omega⟩
theorem mon_out {a z m : Int} (h : Mon a z m) (h1 : z < 1 ∨ 9999 < z) : a < 0 ∨ 123671 ≤ a := by
  obtain ⟨_, _, _, c1, c2, _⟩ := h
  omega
theorem mon_in {a z m : Int} (h : Mon a z m) (h1 : 1 ≤ z) (h2 : z ≤ 9999) (m1 : 1 ≤ m) (m2 : m ≤ Cal.months z) : 0 ≤ a ∧ a < 123671 := by
  obtain ⟨e, _⟩ := h
  have hn := before_next z
  rw [← months_most] at hn
  have := before_mono 1 z h1
  have := before_mono (z + 1) 10000 (by omega)
  rw [before_1] at *
  rw [before_10000] at *
  omega
end S15
set_option maxHeartbeats 2000000 in
theorem ref15_Months_ok (y n : Int) (l : Bool) (k : Int) (w : World) (hy : I64 y)  (he : D10.lastE y n l = 0) (hk0 : -4000000 ≤ k) (hk : k ≤ 4000000) (hA0 : 0 ≤ S15.monA y n l k) (hA1 : S15.monA y n l k < 123671) :
    Calls Tryz.prog 71 #[.int .i64 y, .agg #[.int .i64 n, .bool l], .int .i64 k] w fun e w' => e = .returned (.tuple #[.int .i64 (S15.mY (S15.monA y n l k)), .agg #[.int .i64 (Cal.ofN (Cal.leap (S15.mY (S15.monA y n l k))) (S15.mM (S15.monA y n l k))), .bool (Cal.ofL (Cal.leap (S15.mY (S15.monA y n l k))) (S15.mM (S15.monA y n l k)))], .int .i64 0]) ∧ Below w.heap.size w w' := by
  have HL := Lib.hid (fun w => ref10_Last y n l w hy)
  rw [he] at HL
  obtain ⟨h1, h2, hp⟩ := S15.last_in he
  clear he
  generalize D10.lastV y n l = lv at *
  have hpb := S15.plV_bd _ _ _ hp
  have hM : Hid (S15.Mon (S15.monA y n l k) y (Cal.plV (Cal.leap y) n l + k)) := Lib.hid (by
    refine ⟨by unfold S15.monA; omega, by omega, by omega, by omega, by omega, by omega, by omega⟩)
  have HI := Lib.hid (fun w => ref3_Is y w (by omega) (by omega))
  have HPl := Lib.hid (fun w => (hp ▸ ref9_Place_any (Cal.leap y) n l w : Calls Tryz.prog 83 #[.bool (Cal.leap y), .agg #[.int .i64 n, .bool l]] w fun e w' => e = .returned (.tuple #[.int .i64 (Cal.plV (Cal.leap y) n l), .bool true]) ∧ Below w.heap.size w w'))
  clear hp
  generalize S15.monA y n l k = A at *
  generalize hn : Cal.ofN (Cal.leap (S15.mY A)) (S15.mM A) = rn at *
  generalize hl : Cal.ofL (Cal.leap (S15.mY A)) (S15.mM A) = rl at *
  obtain ⟨ry, hry⟩ : ∃ ry, ry = S15.mY A := ⟨_, rfl⟩
  rw [← hry]
  have Hn := Lib.hid hn
  have Hl := Lib.hid hl
  have Hy := Lib.hid hry
  clear hn hl hry
  generalize Cal.plV (Cal.leap y) n l = pv at *
  generalize Cal.leap y = lp at *
  go_enter Tryz.func71, Tryz.ntmps71
  go_wp2_with fail
  refine settleC (fun W => CodeAt W w.heap.size n l ∧ CodeAt W (w.heap.size + 1) 0 false ∧ Below w.heap.size w W) ⟨CodeAt.below (codeAt_alloc _ _ _ _) (ba _ _), codeAt_alloc2 _ _ _ _ _, baa (ba _ _) _⟩ ?_
  rintro W0 ⟨hC0, hR0, hB0⟩
  have hq := hC0
  obtain ⟨c0, c1, cf, cs⟩ := hq
  have hq := hR0
  obtain ⟨r0, r1, rf, rs⟩ := hq
  refine (HL.out _).mono ?_
  rintro e W1 ⟨rfl, hb1⟩
  have hC1 := CodeAt.below hC0 hb1
  have hR1 := CodeAt.below hR0 hb1
  have hB1 := bt hB0 hb1
  clear c0 c1 cf cs r0 r1 rf rs
  have hq := hC1
  obtain ⟨c0, c1, cf, cs⟩ := hq
  have hq := hR1
  obtain ⟨r0, r1, rf, rs⟩ := hq
  go_wp2_with fail
  refine wp_region_class (by kernel_rfl) (by kernel_rfl) (fun hall => ?_)
  repeat (first | go_big_quiet_skip | (go_big_quiet_want; first | (refine quiet_load1 _ _ _ rfl rfl ?_ ?_ ?_; (focus (intro _; simp; done)); (focus (first | assumption | omega | (simp; done) | (simp; omega))); apply Exists.intro; refine ⟨?_, ?_⟩; assumption; go_simp; go_big_quiet_on) | (refine quiet_load2 _ _ _ _ rfl rfl ?_ ?_ ?_ ?_; (focus (intro _; simp; done)); (focus (intro _; simp; done)); (focus (first | assumption | omega | (simp; done) | (simp; omega))); apply Exists.intro; apply Exists.intro; refine ⟨?_, ?_, ?_⟩; assumption; assumption; go_simp; go_big_quiet_on) | (refine quiet_load3 _ _ _ _ rfl rfl ?_ ?_ ?_ ?_; (focus (intro _; simp; done)); (focus (intro _; simp; done)); (focus (first | assumption | omega | (simp; done) | (simp; omega))); apply Exists.intro; apply Exists.intro; apply Exists.intro; refine ⟨?_, ?_, ?_, ?_⟩; assumption; assumption; assumption; go_simp; go_big_quiet_on) | (refine quiet_load4 _ _ _ _ rfl rfl ?_ ?_ ?_ ?_; (focus (intro _; simp; done)); (focus (intro _; simp; done)); (focus (first | assumption | omega | (simp; done) | (simp; omega))); apply Exists.intro; apply Exists.intro; apply Exists.intro; apply Exists.intro; refine ⟨?_, ?_, ?_, ?_, ?_⟩; assumption; assumption; assumption; assumption; go_simp; go_big_quiet_on) | (go_big_quiet_op; first | go_big_quiet_on | (apply Exists.intro; refine ⟨fun x hx => ?_, ?_⟩; (first | (with_reducible exact call_same hx (HI.out x)) | (with_reducible exact call_below hx (HPl.out x)) | exact call_same hx (HI.out x) | exact call_below hx (HPl.out x)); go_big_quiet_on))))
  refine wpQuiet_nil ?_
  clear hall
  intro x2 hx2
  have hR2 := CodeAt.below hR1 hx2
  have hB2 := bt hB1 hx2
  clear c0 c1 cf cs r0 r1 rf rs hx2
  have hq := hR2
  obtain ⟨r0, r1, rf, rs⟩ := hq
  go_wp2_with fail
  go_loop [0, 11] (fun u v => ∃ z m : Int, u = .int .i64 z ∧ v = .int .i64 m ∧ Hid (S15.Mon A z m)) (fun u _ => (S15.mY A - intOf u).natAbs)
  case atStart => exact ⟨y, pv + k, rfl, rfl, hM⟩
  case round =>
    obtain ⟨z, m, rfl, rfl, hm⟩ := hrel
    have hb := hm.out
    obtain ⟨_, z0, z1, _, _, m0, m1⟩ := hb
    by_cases hz : 1 ≤ z ∧ z ≤ 9999
    · obtain ⟨y1, y2⟩ := hz
      have HRt := Lib.hid (fun w => (Cal.yearIn_yes z y1 y2 ▸ ref7_Right z w ⟨by omega, by omega⟩ : Calls Tryz.prog 117 #[.int .i64 z] w fun e w' => e = .returned (.bool true) ∧ w = w'))
      have HIn := Lib.hid (fun w => ref3_In_ok z w (by omega) (by omega))
      have mb := months_bd z
      by_cases c1 : Cal.months z < m
      · obtain ⟨u1, u2⟩ := S15.mon_up hm.out y1 y2 c1
        have u3 := Lib.hid u1
        clear u1
        have u4 := Lib.hid u2
        clear u2
        generalize Cal.months z = mz at *
        clear hM
        go_wp2_with fail
        refine (HRt.out _).mono ?_
        rintro e w' ⟨rfl, rfl⟩
        go_wp2_with fail
        refine (HIn.out _).mono ?_
        rintro e w' ⟨rfl, rfl⟩
        go_wp2_with fail
        go_round
        case rel => exact ⟨z + 1, m - mz, rfl, rfl, u3⟩
        case measure => exact u4.out
      · by_cases c2 : 1 ≤ m
        · obtain ⟨u1, u2⟩ := S15.mon_at hm.out c2 (by omega)
          have HI2 := Lib.hid (fun w => ref3_Is z w (by omega) (by omega))
          have HOf := Lib.hid (fun w => ref9_Of_any (Cal.leap z) m w (by omega))
          have en : Cal.ofN (Cal.leap z) m = rn := by rw [← u2, ← u1]; exact Hn.out
          have el : Cal.ofL (Cal.leap z) m = rl := by rw [← u2, ← u1]; exact Hl.out
          rw [en, el] at HOf
          have ez : ry = z := Hy.out.trans u1
          clear u1 u2 hM en el
          subst ez
          generalize Cal.ofOk (Cal.leap ry) m = ro at *
          generalize Cal.leap ry = lz at *
          generalize Cal.months ry = mz at *
          go_wp2_with fail
          refine (HRt.out _).mono ?_
          rintro e w' ⟨rfl, rfl⟩
          go_wp2_with fail
          refine (HIn.out _).mono ?_
          rintro e w' ⟨rfl, rfl⟩
          go_wp2_with fail
          refine (HI2.out _).mono ?_
          rintro e w' ⟨rfl, rfl⟩
          go_wp2_with fail
          refine (HOf.out _).mono ?_
          rintro e W7 ⟨rfl, hb7⟩
          have hR7 := CodeAt.below hR2 hb7
          have hB7 := bt hB2 hb7
          clear r0 r1 rf rs
          have hq := hR7
          obtain ⟨r0, r1, rf, rs⟩ := hq
          go_wp2_with fail
          go_region
          all_goals go_wp2_with fail
          all_goals refine bodyPost_ret (v := .tuple #[.int .i64 ry, .agg #[.int .i64 rn, .bool rl], .int .i64 0]) (by simp [results, Tryz.results71, go_sem, *]) rfl ⟨rfl, ?_⟩
          all_goals (repeat (first | (with_reducible exact Below.refl _ _) | (with_reducible assumption) | (with_reducible refine bdrew ?_) | (with_reducible refine baa ?_ _) | (with_reducible refine bs ?_ (by first | exact Nat.le_refl _ | omega | (simp; done) | (simp; omega)) _)))
        · obtain ⟨u1, u2⟩ := S15.mon_down hm.out y1 y2 (by omega)
          have u3 := Lib.hid u1
          clear u1
          have u4 := Lib.hid u2
          clear u2
          have HIn2 := Lib.hid (fun w => ref3_In_ok (z - 1) w (by omega) (by omega))
          have mb2 := months_bd (z - 1)
          generalize Cal.months z = mz at *
          generalize Cal.months (z - 1) = my at *
          clear hM
          go_wp2_with fail
          refine (HRt.out _).mono ?_
          rintro e w' ⟨rfl, rfl⟩
          go_wp2_with fail
          refine (HIn.out _).mono ?_
          rintro e w' ⟨rfl, rfl⟩
          go_wp2_with fail
          refine (HIn2.out _).mono ?_
          rintro e w' ⟨rfl, rfl⟩
          go_wp2_with fail
          go_round
          case rel => exact ⟨z - 1, m + my, rfl, rfl, u3⟩
          case measure => exact u4.out
    · exact absurd (S15.mon_out hm.out (by omega)) (by omega)
set_option maxHeartbeats 2000000 in
theorem ref15_Months_out (y n : Int) (l : Bool) (k : Int) (w : World) (hy : I64 y)  (he : D10.lastE y n l = 0) (hk0 : -4000000 ≤ k) (hk : k ≤ 4000000) (hA : S15.monA y n l k < 0 ∨ 123671 ≤ S15.monA y n l k) :
    Calls Tryz.prog 71 #[.int .i64 y, .agg #[.int .i64 n, .bool l], .int .i64 k] w fun e w' => e = .returned (.tuple #[.int .i64 0, .agg #[.int .i64 0, .bool false], .int .i64 2]) ∧ Below w.heap.size w w' := by
  have HL := Lib.hid (fun w => ref10_Last y n l w hy)
  rw [he] at HL
  obtain ⟨h1, h2, hp⟩ := S15.last_in he
  clear he
  generalize D10.lastV y n l = lv at *
  have hpb := S15.plV_bd _ _ _ hp
  have hM : Hid (S15.Mon (S15.monA y n l k) y (Cal.plV (Cal.leap y) n l + k)) := Lib.hid (by
    refine ⟨by unfold S15.monA; omega, by omega, by omega, by omega, by omega, by omega, by omega⟩)
  have HI := Lib.hid (fun w => ref3_Is y w (by omega) (by omega))
  have HPl := Lib.hid (fun w => (hp ▸ ref9_Place_any (Cal.leap y) n l w : Calls Tryz.prog 83 #[.bool (Cal.leap y), .agg #[.int .i64 n, .bool l]] w fun e w' => e = .returned (.tuple #[.int .i64 (Cal.plV (Cal.leap y) n l), .bool true]) ∧ Below w.heap.size w w'))
  clear hp
  generalize S15.monA y n l k = A at *
  generalize Cal.plV (Cal.leap y) n l = pv at *
  generalize Cal.leap y = lp at *
  go_enter Tryz.func71, Tryz.ntmps71
  go_wp2_with fail
  refine settleC (fun W => CodeAt W w.heap.size n l ∧ CodeAt W (w.heap.size + 1) 0 false ∧ Below w.heap.size w W) ⟨CodeAt.below (codeAt_alloc _ _ _ _) (ba _ _), codeAt_alloc2 _ _ _ _ _, baa (ba _ _) _⟩ ?_
  rintro W0 ⟨hC0, hR0, hB0⟩
  have hq := hC0
  obtain ⟨c0, c1, cf, cs⟩ := hq
  have hq := hR0
  obtain ⟨r0, r1, rf, rs⟩ := hq
  refine (HL.out _).mono ?_
  rintro e W1 ⟨rfl, hb1⟩
  have hC1 := CodeAt.below hC0 hb1
  have hR1 := CodeAt.below hR0 hb1
  have hB1 := bt hB0 hb1
  clear c0 c1 cf cs r0 r1 rf rs
  have hq := hC1
  obtain ⟨c0, c1, cf, cs⟩ := hq
  have hq := hR1
  obtain ⟨r0, r1, rf, rs⟩ := hq
  go_wp2_with fail
  refine wp_region_class (by kernel_rfl) (by kernel_rfl) (fun hall => ?_)
  repeat (first | go_big_quiet_skip | (go_big_quiet_want; first | (refine quiet_load1 _ _ _ rfl rfl ?_ ?_ ?_; (focus (intro _; simp; done)); (focus (first | assumption | omega | (simp; done) | (simp; omega))); apply Exists.intro; refine ⟨?_, ?_⟩; assumption; go_simp; go_big_quiet_on) | (refine quiet_load2 _ _ _ _ rfl rfl ?_ ?_ ?_ ?_; (focus (intro _; simp; done)); (focus (intro _; simp; done)); (focus (first | assumption | omega | (simp; done) | (simp; omega))); apply Exists.intro; apply Exists.intro; refine ⟨?_, ?_, ?_⟩; assumption; assumption; go_simp; go_big_quiet_on) | (refine quiet_load3 _ _ _ _ rfl rfl ?_ ?_ ?_ ?_; (focus (intro _; simp; done)); (focus (intro _; simp; done)); (focus (first | assumption | omega | (simp; done) | (simp; omega))); apply Exists.intro; apply Exists.intro; apply Exists.intro; refine ⟨?_, ?_, ?_, ?_⟩; assumption; assumption; assumption; go_simp; go_big_quiet_on) | (refine quiet_load4 _ _ _ _ rfl rfl ?_ ?_ ?_ ?_; (focus (intro _; simp; done)); (focus (intro _; simp; done)); (focus (first | assumption | omega | (simp; done) | (simp; omega))); apply Exists.intro; apply Exists.intro; apply Exists.intro; apply Exists.intro; refine ⟨?_, ?_, ?_, ?_, ?_⟩; assumption; assumption; assumption; assumption; go_simp; go_big_quiet_on) | (go_big_quiet_op; first | go_big_quiet_on | (apply Exists.intro; refine ⟨fun x hx => ?_, ?_⟩; (first | (with_reducible exact call_same hx (HI.out x)) | (with_reducible exact call_below hx (HPl.out x)) | exact call_same hx (HI.out x) | exact call_below hx (HPl.out x)); go_big_quiet_on))))
  refine wpQuiet_nil ?_
  clear hall
  intro x2 hx2
  have hR2 := CodeAt.below hR1 hx2
  have hB2 := bt hB1 hx2
  clear c0 c1 cf cs r0 r1 rf rs hx2
  have hq := hR2
  obtain ⟨r0, r1, rf, rs⟩ := hq
  go_wp2_with fail
  go_loop [0, 11] (fun u v => ∃ z m : Int, u = .int .i64 z ∧ v = .int .i64 m ∧ Hid (S15.Mon A z m)) (fun u _ => (S15.mY A - intOf u).natAbs)
  case atStart => exact ⟨y, pv + k, rfl, rfl, hM⟩
  case round =>
    obtain ⟨z, m, rfl, rfl, hm⟩ := hrel
    have hb := hm.out
    obtain ⟨_, z0, z1, _, _, m0, m1⟩ := hb
    by_cases hz : 1 ≤ z ∧ z ≤ 9999
    · obtain ⟨y1, y2⟩ := hz
      have HRt := Lib.hid (fun w => (Cal.yearIn_yes z y1 y2 ▸ ref7_Right z w ⟨by omega, by omega⟩ : Calls Tryz.prog 117 #[.int .i64 z] w fun e w' => e = .returned (.bool true) ∧ w = w'))
      have HIn := Lib.hid (fun w => ref3_In_ok z w (by omega) (by omega))
      have mb := months_bd z
      by_cases c1 : Cal.months z < m
      · obtain ⟨u1, u2⟩ := S15.mon_up hm.out y1 y2 c1
        have u3 := Lib.hid u1
        clear u1
        have u4 := Lib.hid u2
        clear u2
        generalize Cal.months z = mz at *
        clear hM
        go_wp2_with fail
        refine (HRt.out _).mono ?_
        rintro e w' ⟨rfl, rfl⟩
        go_wp2_with fail
        refine (HIn.out _).mono ?_
        rintro e w' ⟨rfl, rfl⟩
        go_wp2_with fail
        go_round
        case rel => exact ⟨z + 1, m - mz, rfl, rfl, u3⟩
        case measure => exact u4.out
      · by_cases c2 : 1 ≤ m
        · exact absurd (S15.mon_in hm.out y1 y2 c2 (by omega)) (by omega)
        · obtain ⟨u1, u2⟩ := S15.mon_down hm.out y1 y2 (by omega)
          have u3 := Lib.hid u1
          clear u1
          have u4 := Lib.hid u2
          clear u2
          have HIn2 := Lib.hid (fun w => ref3_In_ok (z - 1) w (by omega) (by omega))
          have mb2 := months_bd (z - 1)
          generalize Cal.months z = mz at *
          generalize Cal.months (z - 1) = my at *
          clear hM
          go_wp2_with fail
          refine (HRt.out _).mono ?_
          rintro e w' ⟨rfl, rfl⟩
          go_wp2_with fail
          refine (HIn.out _).mono ?_
          rintro e w' ⟨rfl, rfl⟩
          go_wp2_with fail
          refine (HIn2.out _).mono ?_
          rintro e w' ⟨rfl, rfl⟩
          go_wp2_with fail
          go_round
          case rel => exact ⟨z - 1, m + my, rfl, rfl, u3⟩
          case measure => exact u4.out
    · have HRt := Lib.hid (fun w => (Cal.yearIn_no z (by omega) ▸ ref7_Right z w ⟨by omega, by omega⟩ : Calls Tryz.prog 117 #[.int .i64 z] w fun e w' => e = .returned (.bool false) ∧ w = w'))
      go_wp2_with fail
      refine (HRt.out _).mono ?_
      rintro e w' ⟨rfl, rfl⟩
      go_wp2_with fail
      refine bodyPost_ret (v := .tuple #[.int .i64 0, .agg #[.int .i64 0, .bool false], .int .i64 2]) (by simp [results, Tryz.results71, go_sem, *]) rfl ⟨rfl, ?_⟩
      iterate 2 refine Below.setCell ?_ (by first | omega | (simp; done)) _
      exact hB2
theorem shift_Months (y n : Int) (l : Bool) (k : Int) (w : World) (hy : I64 y) (hT : Tab w 8 kevCells) (hL : Tab w 6 lenCells) :
    Calls Tryz.prog 112 #[.int .i64 y, .agg #[.int .i64 n, .bool l], .int .i64 k] w fun e w' => e = .returned (.tuple #[.int .i64 (S15.monY y n l k), .agg #[.int .i64 (S15.monN y n l k), .bool (S15.monL y n l k)], .int .i64 (S15.monE y n l k)]) ∧ Below w.heap.size w w' := by
  unfold S15.monY S15.monN S15.monL
  by_cases he : D10.lastE y n l = 0
  · by_cases c1 : k < -4000000 ∨ 4000000 < k
    · rw [show S15.monE y n l k = 1 by simp [S15.monE, he, c1]]
      by_cases c : k < -4000000
      · exact shift_Months_low y n l k w hy hT hL he c
      · exact shift_Months_high y n l k w hy hT hL he (by omega) (by omega)
    · by_cases c2 : S15.monA y n l k < 0 ∨ 123671 ≤ S15.monA y n l k
      · rw [show S15.monE y n l k = 2 by simp [S15.monE, he, c1, c2]]
        by_cases c : S15.monA y n l k < 0
        · exact shift_Months_before y n l k w hy hT hL he (by omega) (by omega) c
        · exact shift_Months_beyond y n l k w hy hT hL he (by omega) (by omega) (by omega) (by omega)
      · rw [show S15.monE y n l k = 0 by simp [S15.monE, he, c1, c2], if_pos rfl, if_pos rfl, if_pos rfl]
        exact shift_Months_ok y n l k w hy hT hL he (by omega) (by omega) (by omega) (by omega)
  · have e : S15.monE y n l k = D10.lastE y n l := by simp [S15.monE, he]
    rw [e, if_neg he, if_neg he, if_neg he]
    exact shift_Months_last y n l k w hy hT hL he
theorem ref15_Months (y n : Int) (l : Bool) (k : Int) (w : World) (hy : I64 y)  :
    Calls Tryz.prog 71 #[.int .i64 y, .agg #[.int .i64 n, .bool l], .int .i64 k] w fun e w' => e = .returned (.tuple #[.int .i64 (S15.monY y n l k), .agg #[.int .i64 (S15.monN y n l k), .bool (S15.monL y n l k)], .int .i64 (S15.monE y n l k)]) ∧ Below w.heap.size w w' := by
  unfold S15.monY S15.monN S15.monL
  by_cases he : D10.lastE y n l = 0
  · by_cases c1 : k < -4000000 ∨ 4000000 < k
    · rw [show S15.monE y n l k = 1 by simp [S15.monE, he, c1]]
      by_cases c : k < -4000000
      · exact ref15_Months_low y n l k w hy he c
      · exact ref15_Months_high y n l k w hy he (by omega) (by omega)
    · by_cases c2 : S15.monA y n l k < 0 ∨ 123671 ≤ S15.monA y n l k
      · rw [show S15.monE y n l k = 2 by simp [S15.monE, he, c1, c2]]
        exact ref15_Months_out y n l k w hy he (by omega) (by omega) c2
      · rw [show S15.monE y n l k = 0 by simp [S15.monE, he, c1, c2], if_pos rfl, if_pos rfl, if_pos rfl]
        exact ref15_Months_ok y n l k w hy he (by omega) (by omega) (by omega) (by omega)
  · have e : S15.monE y n l k = D10.lastE y n l := by simp [S15.monE, he]
    rw [e, if_neg he, if_neg he, if_neg he]
    exact ref15_Months_last y n l k w hy he
end Go.Proofs.YtafenpgafmdenaaGreatDoor
