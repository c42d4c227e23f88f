/- Layer 15: months, years away: plain arithmetic; the code's functions. -/
import Derived.Test.YtafenpgafmdenaaGreatDoorHebR2
import Derived.Test.YtafenpgafmdenaaGreatDoorLC
import Derived.Deep.QuietTactic
import Derived.BigQuiet
import Derived.LoopTactic
import Derived.RegionTactic
import Derived.BigRegion
import Derived.Deep.RegionWith
namespace Go.Proofs.YtafenpgafmdenaaGreatDoor
open Go.ChangeShapes Go.WideShapes Go.ChangeAt Go.RowKit Go.Sort
set_option linter.unusedVariables false
set_option maxRecDepth 100000
namespace S15
def mode (m : Int) : Bool := decide (m = 0) || decide (m = 1)
def intoE (y n : Int) (l : Bool) (m : Int) : Int := if mode m then (if Cal.yearIn y then (if Cal.right n l then (if Cal.plOk (Cal.leap y) n l then 0 else if m = 1 then 7 else 0) else 3) else 2) else 1
def intoN (y n : Int) (l : Bool) (m : Int) : Int := if intoE y n l m = 0 then (if Cal.plOk (Cal.leap y) n l then n else 6) else 0
def intoL (y n : Int) (l : Bool) (m : Int) : Bool := if intoE y n l m = 0 then (if Cal.plOk (Cal.leap y) n l then l else false) else false
def mY (a : Int) : Int := (19 * a + 252) / 235
def mM (a : Int) : Int := a - Cal.before (mY a) + 1
def monA (y n : Int) (l : Bool) (k : Int) : Int := Cal.before y + Cal.plV (Cal.leap y) n l - 1 + k
def monE (y n : Int) (l : Bool) (k : Int) : Int := if D10.lastE y n l = 0 then (if k < -4000000 ∨ 4000000 < k then 1 else if monA y n l k < 0 ∨ 123671 ≤ monA y n l k then 2 else 0) else D10.lastE y n l
def monY (y n : Int) (l : Bool) (k : Int) : Int := if monE y n l k = 0 then mY (monA y n l k) else 0
def monN (y n : Int) (l : Bool) (k : Int) : Int := if monE y n l k = 0 then Cal.ofN (Cal.leap (mY (monA y n l k))) (mM (monA y n l k)) else 0
def monL (y n : Int) (l : Bool) (k : Int) : Bool := if monE y n l k = 0 then Cal.ofL (Cal.leap (mY (monA y n l k))) (mM (monA y n l k)) else false
def fitE (y n : Int) (l : Bool) (d m : Int) : Int := if mode m then (if D10.lastE y n l = 0 then (if d < 1 ∨ 30 < d then 4 else if d ≤ D10.lastV y n l then 0 else if m = 1 then 7 else 0) else D10.lastE y n l) else 1
def fitV (y n : Int) (l : Bool) (d m : Int) : Int := if fitE y n l d m = 0 then (if d ≤ D10.lastV y n l then d else D10.lastV y n l) else 0
theorem mY_spec (a : Int) : Cal.before (mY a) ≤ a ∧ a < Cal.before (mY a + 1) := by unfold mY Cal.before; omega
theorem before_mono (a b : Int) (h : a ≤ b) : Cal.before a ≤ Cal.before b := by unfold Cal.before; omega
theorem mY_one (a y : Int) (h1 : Cal.before y ≤ a) (h2 : a < Cal.before (y + 1)) : mY a = y := by unfold Cal.before at h1 h2; unfold mY; omega
theorem before_next (y : Int) : Cal.before (y + 1) = Cal.before y + Cal.most (Cal.leap y) := by
  obtain ⟨q, r, e, r0, r1⟩ : ∃ q r : Int, y = 19 * q + r ∧ 0 ≤ r ∧ r < 19 := ⟨y / 19, y % 19, by omega, by omega, by omega⟩
  subst e
  unfold Cal.before Cal.most Cal.leap
  rw [show (7 * (19 * q + r) + 1) % 19 = (7 * r + 1) % 19 by omega, show (235 * (19 * q + r + 1) - 234) / 19 = 235 * q + (235 * r + 1) / 19 by omega, show (235 * (19 * q + r) - 234) / 19 = 235 * q + (235 * r - 234) / 19 by omega]
  rcases (show r = 0 ∨ r = 1 ∨ r = 2 ∨ r = 3 ∨ r = 4 ∨ r = 5 ∨ r = 6 ∨ r = 7 ∨ r = 8 ∨ r = 9 ∨ r = 10 ∨ r = 11 ∨ r = 12 ∨ r = 13 ∨ r = 14 ∨ r = 15 ∨ r = 16 ∨ r = 17 ∨ r = 18 by omega) with rfl | rfl | rfl | rfl | rfl | rfl | rfl | rfl | rfl | rfl | rfl | rfl | rfl | rfl | rfl | rfl | rfl | rfl | rfl <;> simp <;> omega
theorem before_1 : Cal.before 1 = 0 := by decide
theorem before_10000 : Cal.before 10000 = 123671 := by decide +kernel
theorem mY_in (a : Int) (h0 : 0 ≤ a) (h1 : a < 123671) : 1 ≤ mY a ∧ mY a ≤ 9999 := by unfold mY; omega
theorem mM_in (a : Int) : 1 ≤ mM a ∧ mM a ≤ Cal.most (Cal.leap (mY a)) := by
  have := mY_spec a
  rw [before_next] at this
  unfold mM; omega
theorem mY_count (a : Int) (h0 : 0 ≤ a) (h1 : a < 123671) :
    (((List.range 9998).countP (fun i : Nat => !decide (a < Cal.before ((i : Int) + 2))) : Nat) : Int) = mY a - 1 := by
  obtain ⟨y1, y2⟩ := mY_in a h0 h1
  obtain ⟨s1, s2⟩ := mY_spec a
  have hr : ∀ t, t < 9998 → (List.range 9998)[t]! = t := fun t ht => by rw [getElem!_pos _ t (by simpa using ht)]; simp
  have := Lib.countP_boundary (fun i : Nat => !decide (a < Cal.before ((i : Int) + 2))) (List.range 9998) (mY a - 1).toNat (by simp; omega) (fun t ht => ?_) (fun t h5 h6 => ?_)
  · rw [this]; omega
  · rw [hr t (by omega)]
    have := before_mono ((t : Int) + 2) (mY a) (by omega)
    simp only [Bool.not_eq_true', decide_eq_false_iff_not]
    omega
  · rw [hr t (by simpa using h6)]
    have := before_mono (mY a + 1) ((t : Int) + 2) (by omega)
    simp only [Bool.not_eq_false', decide_eq_true_eq]
    omega
theorem last_in {y n : Int} {l : Bool} (h : D10.lastE y n l = 0) : 1 ≤ y ∧ y ≤ 9999 ∧ Cal.plOk (Cal.leap y) n l = true := by
  unfold D10.lastE at h
  split at h
  · rename_i c
    split at h
    · rename_i p
      obtain ⟨h1, h2⟩ := D10.year_in y c
      exact ⟨h1, h2, p⟩
    · omega
  · omega
theorem before_bd (y : Int) (h1 : 0 ≤ y) (h2 : y ≤ 10000) : -20 ≤ Cal.before y ∧ Cal.before y ≤ 123671 := by unfold Cal.before; omega
theorem plV_bd (lp : Bool) (n : Int) (l : Bool) (h : Cal.plOk lp n l = true) : 1 ≤ Cal.plV lp n l ∧ Cal.plV lp n l ≤ 13 := by
  obtain ⟨a, b, _⟩ := D10.place_in lp n l h
  unfold Cal.most at b
  refine ⟨a, ?_⟩
  split at b <;> omega
theorem lastV_bd {y n : Int} {l : Bool} (h : D10.lastE y n l = 0) : 29 ≤ D10.lastV y n l ∧ D10.lastV y n l ≤ 30 := by
  obtain ⟨h1, h2, p⟩ := last_in h
  obtain ⟨a, b, _⟩ := D10.place_in _ _ _ p
  have e : D10.lastV y n l = D10.dLen y (Cal.plV (Cal.leap y) n l) := by simp [D10.lastV, Cal.yearIn_yes y h1 h2, p]
  rw [e]
  exact D10.len_bd y _ h1 h2 a b
end S15
def CodeAt (w : World) (g : Nat) (n : Int) (l : Bool) : Prop := w.cell? ⟨g, 0, none⟩ = some (.int .i64 n) ∧ w.cell? ⟨g, 1, none⟩ = some (.bool l) ∧ (∀ i, w.frozen? ⟨g, i, none⟩ = false) ∧ g < w.heap.size
theorem CodeAt.below {w w' : World} {g : Nat} {n : Int} {l : Bool} (h : CodeAt w g n l) (hb : Below w.heap.size w w') : CodeAt w' g n l := by
  obtain ⟨h0, h1, hf, hs⟩ := h
  have c := fun i => hb.cell (p := ⟨g, i, none⟩) hs
  exact ⟨(c 0).trans h0, (c 1).trans h1, fun i => (hb.frozen (p := ⟨g, i, none⟩) hs).trans (hf i), Nat.lt_of_lt_of_le hs hb.size⟩
theorem codeAt_alloc (w : World) (n : Int) (l : Bool) (t : TypeId) : CodeAt (w.alloc (.cells #[.int .i64 n, .bool l] t)) w.heap.size n l := ⟨by simp [go_sem], by simp [go_sem], fun i => by simp [go_sem], by simp⟩
theorem codeAt_alloc2 (w : World) (o : Obj) (n : Int) (l : Bool) (t : TypeId) : CodeAt ((w.alloc o).alloc (.cells #[.int .i64 n, .bool l] t)) (w.heap.size + 1) n l := by
  have h := codeAt_alloc (w.alloc o) n l t
  rwa [show (w.alloc o).heap.size = w.heap.size + 1 by simp] at h
theorem shift_isMode (m : Int) (w : World) : Calls Tryz.prog 161 #[.int .i64 m] w fun e w' => e = .returned (.bool (S15.mode m)) ∧ w = w' := by
  by_cases a : m = 0
  · subst a
    go_enter Tryz.func161, Tryz.ntmps161
    go_wp2_with fail
    go_ret
    exact ⟨rfl, rfl⟩
  · by_cases b : m = 1
    · subst b
      go_enter Tryz.func161, Tryz.ntmps161
      go_wp2_with fail
      go_ret
      exact ⟨rfl, rfl⟩
    · have e1 : (m == 0) = false := by simp [a]
      have e2 : (m == 1) = false := by simp [b]
      rw [show S15.mode m = false by simp [S15.mode, a, b]]
      clear a b
      go_enter Tryz.func161, Tryz.ntmps161
      go_wp2_with fail
      go_ret
      exact ⟨rfl, rfl⟩
theorem shift_before (y : Int) (w : World) (h0 : 0 ≤ y) (h1 : y ≤ 10001) : Calls Tryz.prog 162 #[.int .i64 y] w fun e w' => e = .returned (.int .i64 (Cal.before y)) ∧ w = w' := by
  have H := Lib.hid (fun w => cycle_Before_ok y w h0 h1)
  generalize Cal.before y = b at *
  go_enter Tryz.func162, Tryz.ntmps162
  go_wp2_with fail
  refine (H.out _).mono ?_
  rintro e w' ⟨rfl, rfl⟩
  go_wp2_with fail
  go_ret
  exact ⟨rfl, rfl⟩
set_option maxHeartbeats 1000000 in
theorem shift_Into_mode (y n : Int) (l : Bool) (m : Int) (w : World) (hm : S15.mode m = false) :
    Calls Tryz.prog 111 #[.int .i64 y, .agg #[.int .i64 n, .bool l], .int .i64 m] w fun e w' => e = .returned (.tuple #[.agg #[.int .i64 0, .bool false], .int .i64 1]) ∧ Below w.heap.size w w' := by
  have HM := Lib.hid (fun w => (hm ▸ shift_isMode m w : Calls Tryz.prog 161 #[.int .i64 m] w fun e w' => e = .returned (.bool false) ∧ w = w'))
  clear hm
  go_enter Tryz.func111, Tryz.ntmps111
  go_wp2_with fail
  refine settleC (fun W => CodeAt W w.heap.size n l ∧ CodeAt W (w.heap.size + 1) 0 false ∧ Below w.heap.size w W) ⟨CodeAt.below (codeAt_alloc _ _ _ _) (ba _ _), codeAt_alloc2 _ _ _ _ _, baa (ba _ _) _⟩ ?_
  rintro W0 ⟨hC0, hR0, hB0⟩
  have hq := hC0
  obtain ⟨c0, c1, cf, cs⟩ := hq
  have hq := hR0
  obtain ⟨r0, r1, rf, rs⟩ := hq
  refine (HM.out _).mono ?_
  rintro e w' ⟨rfl, rfl⟩
  go_wp2_with fail
  refine bodyPost_ret (v := .tuple #[.agg #[.int .i64 0, .bool false], .int .i64 1]) (by simp [results, Tryz.results111, go_sem, *]) rfl ⟨rfl, ?_⟩
  iterate 2 refine Below.setCell ?_ (by first | omega | (simp; done)) _
  exact hB0
set_option maxHeartbeats 1000000 in
theorem shift_Into_low (y n : Int) (l : Bool) (m : Int) (w : World) (hm : S15.mode m = true) (h : y < 1) :
    Calls Tryz.prog 111 #[.int .i64 y, .agg #[.int .i64 n, .bool l], .int .i64 m] w fun e w' => e = .returned (.tuple #[.agg #[.int .i64 0, .bool false], .int .i64 2]) ∧ Below w.heap.size w w' := by
  have HM := Lib.hid (fun w => (hm ▸ shift_isMode m w : Calls Tryz.prog 161 #[.int .i64 m] w fun e w' => e = .returned (.bool true) ∧ w = w'))
  clear hm
  go_enter Tryz.func111, Tryz.ntmps111
  go_wp2_with fail
  refine settleC (fun W => CodeAt W w.heap.size n l ∧ CodeAt W (w.heap.size + 1) 0 false ∧ Below w.heap.size w W) ⟨CodeAt.below (codeAt_alloc _ _ _ _) (ba _ _), codeAt_alloc2 _ _ _ _ _, baa (ba _ _) _⟩ ?_
  rintro W0 ⟨hC0, hR0, hB0⟩
  have hq := hC0
  obtain ⟨c0, c1, cf, cs⟩ := hq
  have hq := hR0
  obtain ⟨r0, r1, rf, rs⟩ := hq
  refine (HM.out _).mono ?_
  rintro e w' ⟨rfl, rfl⟩
  go_wp2_with fail
  refine bodyPost_ret (v := .tuple #[.agg #[.int .i64 0, .bool false], .int .i64 2]) (by simp [results, Tryz.results111, go_sem, *]) rfl ⟨rfl, ?_⟩
  iterate 2 refine Below.setCell ?_ (by first | omega | (simp; done)) _
  exact hB0
set_option maxHeartbeats 1000000 in
theorem shift_Into_high (y n : Int) (l : Bool) (m : Int) (w : World) (hm : S15.mode m = true) (h0 : 1 ≤ y) (h : 9999 < y) :
    Calls Tryz.prog 111 #[.int .i64 y, .agg #[.int .i64 n, .bool l], .int .i64 m] w fun e w' => e = .returned (.tuple #[.agg #[.int .i64 0, .bool false], .int .i64 2]) ∧ Below w.heap.size w w' := by
  have HM := Lib.hid (fun w => (hm ▸ shift_isMode m w : Calls Tryz.prog 161 #[.int .i64 m] w fun e w' => e = .returned (.bool true) ∧ w = w'))
  clear hm
  go_enter Tryz.func111, Tryz.ntmps111
  go_wp2_with fail
  refine settleC (fun W => CodeAt W w.heap.size n l ∧ CodeAt W (w.heap.size + 1) 0 false ∧ Below w.heap.size w W) ⟨CodeAt.below (codeAt_alloc _ _ _ _) (ba _ _), codeAt_alloc2 _ _ _ _ _, baa (ba _ _) _⟩ ?_
  rintro W0 ⟨hC0, hR0, hB0⟩
  have hq := hC0
  obtain ⟨c0, c1, cf, cs⟩ := hq
  have hq := hR0
  obtain ⟨r0, r1, rf, rs⟩ := hq
  refine (HM.out _).mono ?_
  rintro e w' ⟨rfl, rfl⟩
  go_wp2_with fail
  refine bodyPost_ret (v := .tuple #[.agg #[.int .i64 0, .bool false], .int .i64 2]) (by simp [results, Tryz.results111, go_sem, *]) rfl ⟨rfl, ?_⟩
  iterate 2 refine Below.setCell ?_ (by first | omega | (simp; done)) _
  exact hB0
set_option maxHeartbeats 1000000 in
theorem shift_Into_right (y n : Int) (l : Bool) (m : Int) (w : World) (hm : S15.mode m = true) (h1 : 1 ≤ y) (h2 : y ≤ 9999) (hr : Cal.right n l = false) :
    Calls Tryz.prog 111 #[.int .i64 y, .agg #[.int .i64 n, .bool l], .int .i64 m] w fun e w' => e = .returned (.tuple #[.agg #[.int .i64 0, .bool false], .int .i64 3]) ∧ Below w.heap.size w w' := by
  have HM := Lib.hid (fun w => (hm ▸ shift_isMode m w : Calls Tryz.prog 161 #[.int .i64 m] w fun e w' => e = .returned (.bool true) ∧ w = w'))
  clear hm
  have HR := Lib.hid (fun w => (hr ▸ code_Right_any n l w : Calls Tryz.prog 87 #[.agg #[.int .i64 n, .bool l]] w fun e w' => e = .returned (.bool false) ∧ Below w.heap.size w w'))
  clear hr
  go_enter Tryz.func111, Tryz.ntmps111
  go_wp2_with fail
  refine settleC (fun W => CodeAt W w.heap.size n l ∧ CodeAt W (w.heap.size + 1) 0 false ∧ Below w.heap.size w W) ⟨CodeAt.below (codeAt_alloc _ _ _ _) (ba _ _), codeAt_alloc2 _ _ _ _ _, baa (ba _ _) _⟩ ?_
  rintro W0 ⟨hC0, hR0, hB0⟩
  have hq := hC0
  obtain ⟨c0, c1, cf, cs⟩ := hq
  have hq := hR0
  obtain ⟨r0, r1, rf, rs⟩ := hq
  refine (HM.out _).mono ?_
  rintro e w' ⟨rfl, rfl⟩
  go_wp2_with fail
  refine (HR.out _).mono ?_
  rintro e W1 ⟨rfl, hb1⟩
  have hC1 := CodeAt.below hC0 hb1
  have hR1 := CodeAt.below hR0 hb1
  have hB1 := bt hB0 hb1
  clear c0 c1 cf cs r0 r1 rf rs
  have hq := hC1
  obtain ⟨c0, c1, cf, cs⟩ := hq
  have hq := hR1
  obtain ⟨r0, r1, rf, rs⟩ := hq
  go_wp2_with fail
  refine bodyPost_ret (v := .tuple #[.agg #[.int .i64 0, .bool false], .int .i64 3]) (by simp [results, Tryz.results111, go_sem, *]) rfl ⟨rfl, ?_⟩
  iterate 2 refine Below.setCell ?_ (by first | omega | (simp; done)) _
  exact hB1
set_option maxHeartbeats 1000000 in
theorem shift_Into_ok (y n : Int) (l : Bool) (m : Int) (w : World) (hm : S15.mode m = true) (h1 : 1 ≤ y) (h2 : y ≤ 9999) (hr : Cal.right n l = true) (hp : Cal.plOk (Cal.leap y) n l = true) :
    Calls Tryz.prog 111 #[.int .i64 y, .agg #[.int .i64 n, .bool l], .int .i64 m] w fun e w' => e = .returned (.tuple #[.agg #[.int .i64 n, .bool l], .int .i64 0]) ∧ Below w.heap.size w w' := by
  have HM := Lib.hid (fun w => (hm ▸ shift_isMode m w : Calls Tryz.prog 161 #[.int .i64 m] w fun e w' => e = .returned (.bool true) ∧ w = w'))
  clear hm
  have HR := Lib.hid (fun w => (hr ▸ code_Right_any n l w : Calls Tryz.prog 87 #[.agg #[.int .i64 n, .bool l]] w fun e w' => e = .returned (.bool true) ∧ Below w.heap.size w w'))
  clear hr
  have HL := Lib.hid (fun w => cycle_Leap_ok y w (by omega) (by omega))
  have HP := Lib.hid (fun w => (hp ▸ code_Place_any (Cal.leap y) n l w : Calls Tryz.prog 154 #[.bool (Cal.leap y), .agg #[.int .i64 n, .bool l]] w fun e w' => e = .returned (.tuple #[.int .i64 (Cal.plV (Cal.leap y) n l), .bool true]) ∧ Below w.heap.size w w'))
  clear hp
  generalize Cal.plV (Cal.leap y) n l = pv at *
  generalize Cal.leap y = lp at *
  go_enter Tryz.func111, Tryz.ntmps111
  go_wp2_with fail
  refine settleC (fun W => CodeAt W w.heap.size n l ∧ CodeAt W (w.heap.size + 1) 0 false ∧ Below w.heap.size w W) ⟨CodeAt.below (codeAt_alloc _ _ _ _) (ba _ _), codeAt_alloc2 _ _ _ _ _, baa (ba _ _) _⟩ ?_
  rintro W0 ⟨hC0, hR0, hB0⟩
  have hq := hC0
  obtain ⟨c0, c1, cf, cs⟩ := hq
  have hq := hR0
  obtain ⟨r0, r1, rf, rs⟩ := hq
  refine (HM.out _).mono ?_
  rintro e w' ⟨rfl, rfl⟩
  go_wp2_with fail
  refine (HR.out _).mono ?_
  rintro e W1 ⟨rfl, hb1⟩
  have hC1 := CodeAt.below hC0 hb1
  have hR1 := CodeAt.below hR0 hb1
  have hB1 := bt hB0 hb1
  clear c0 c1 cf cs r0 r1 rf rs
  have hq := hC1
  obtain ⟨c0, c1, cf, cs⟩ := hq
  have hq := hR1
  obtain ⟨r0, r1, rf, rs⟩ := hq
  go_wp2_with fail
  refine (HL.out _).mono ?_
  rintro e w' ⟨rfl, rfl⟩
  go_wp2_with fail
  refine (HP.out _).mono ?_
  rintro e W2 ⟨rfl, hb2⟩
  have hC2 := CodeAt.below hC1 hb2
  have hR2 := CodeAt.below hR1 hb2
  have hB2 := bt hB1 hb2
  clear c0 c1 cf cs r0 r1 rf rs
  have hq := hC2
  obtain ⟨c0, c1, cf, cs⟩ := hq
  have hq := hR2
  obtain ⟨r0, r1, rf, rs⟩ := hq
  go_wp2_with fail
  refine bodyPost_ret (v := .tuple #[.agg #[.int .i64 n, .bool l], .int .i64 0]) (by simp [results, Tryz.results111, go_sem, *]) rfl ⟨rfl, ?_⟩
  iterate 2 refine Below.setCell ?_ (by first | omega | (simp; done)) _
  exact hB2
set_option maxHeartbeats 1000000 in
theorem shift_Into_rej (y n : Int) (l : Bool) (m : Int) (w : World) (hm : S15.mode m = true) (h1 : 1 ≤ y) (h2 : y ≤ 9999) (hr : Cal.right n l = true) (hp : Cal.plOk (Cal.leap y) n l = false) (h7 : m = 1) :
    Calls Tryz.prog 111 #[.int .i64 y, .agg #[.int .i64 n, .bool l], .int .i64 m] w fun e w' => e = .returned (.tuple #[.agg #[.int .i64 0, .bool false], .int .i64 7]) ∧ Below w.heap.size w w' := by
  subst h7
  have HM := Lib.hid (fun w => (hm ▸ shift_isMode 1 w : Calls Tryz.prog 161 #[.int .i64 1] w fun e w' => e = .returned (.bool true) ∧ w = w'))
  clear hm
  have HR := Lib.hid (fun w => (hr ▸ code_Right_any n l w : Calls Tryz.prog 87 #[.agg #[.int .i64 n, .bool l]] w fun e w' => e = .returned (.bool true) ∧ Below w.heap.size w w'))
  clear hr
  have HL := Lib.hid (fun w => cycle_Leap_ok y w (by omega) (by omega))
  have HP := Lib.hid (fun w => (hp ▸ code_Place_any (Cal.leap y) n l w : Calls Tryz.prog 154 #[.bool (Cal.leap y), .agg #[.int .i64 n, .bool l]] w fun e w' => e = .returned (.tuple #[.int .i64 (Cal.plV (Cal.leap y) n l), .bool false]) ∧ Below w.heap.size w w'))
  clear hp
  generalize Cal.plV (Cal.leap y) n l = pv at *
  generalize Cal.leap y = lp at *
  go_enter Tryz.func111, Tryz.ntmps111
  go_wp2_with fail
  refine settleC (fun W => CodeAt W w.heap.size n l ∧ CodeAt W (w.heap.size + 1) 0 false ∧ Below w.heap.size w W) ⟨CodeAt.below (codeAt_alloc _ _ _ _) (ba _ _), codeAt_alloc2 _ _ _ _ _, baa (ba _ _) _⟩ ?_
  rintro W0 ⟨hC0, hR0, hB0⟩
  have hq := hC0
  obtain ⟨c0, c1, cf, cs⟩ := hq
  have hq := hR0
  obtain ⟨r0, r1, rf, rs⟩ := hq
  refine (HM.out _).mono ?_
  rintro e w' ⟨rfl, rfl⟩
  go_wp2_with fail
  refine (HR.out _).mono ?_
  rintro e W1 ⟨rfl, hb1⟩
  have hC1 := CodeAt.below hC0 hb1
  have hR1 := CodeAt.below hR0 hb1
  have hB1 := bt hB0 hb1
  clear c0 c1 cf cs r0 r1 rf rs
  have hq := hC1
  obtain ⟨c0, c1, cf, cs⟩ := hq
  have hq := hR1
  obtain ⟨r0, r1, rf, rs⟩ := hq
  go_wp2_with fail
  refine (HL.out _).mono ?_
  rintro e w' ⟨rfl, rfl⟩
  go_wp2_with fail
  refine (HP.out _).mono ?_
  rintro e W2 ⟨rfl, hb2⟩
  have hC2 := CodeAt.below hC1 hb2
  have hR2 := CodeAt.below hR1 hb2
  have hB2 := bt hB1 hb2
  clear c0 c1 cf cs r0 r1 rf rs
  have hq := hC2
  obtain ⟨c0, c1, cf, cs⟩ := hq
  have hq := hR2
  obtain ⟨r0, r1, rf, rs⟩ := hq
  go_wp2_with fail
  refine bodyPost_ret (v := .tuple #[.agg #[.int .i64 0, .bool false], .int .i64 7]) (by simp [results, Tryz.results111, go_sem, *]) rfl ⟨rfl, ?_⟩
  iterate 2 refine Below.setCell ?_ (by first | omega | (simp; done)) _
  exact hB2
set_option maxHeartbeats 1000000 in
theorem shift_Into_six (y n : Int) (l : Bool) (m : Int) (w : World) (hm : S15.mode m = true) (h1 : 1 ≤ y) (h2 : y ≤ 9999) (hr : Cal.right n l = true) (hp : Cal.plOk (Cal.leap y) n l = false) (h7 : m = 0) :
    Calls Tryz.prog 111 #[.int .i64 y, .agg #[.int .i64 n, .bool l], .int .i64 m] w fun e w' => e = .returned (.tuple #[.agg #[.int .i64 6, .bool false], .int .i64 0]) ∧ Below w.heap.size w w' := by
  subst h7
  have HM := Lib.hid (fun w => (hm ▸ shift_isMode 0 w : Calls Tryz.prog 161 #[.int .i64 0] w fun e w' => e = .returned (.bool true) ∧ w = w'))
  clear hm
  have HR := Lib.hid (fun w => (hr ▸ code_Right_any n l w : Calls Tryz.prog 87 #[.agg #[.int .i64 n, .bool l]] w fun e w' => e = .returned (.bool true) ∧ Below w.heap.size w w'))
  clear hr
  have HL := Lib.hid (fun w => cycle_Leap_ok y w (by omega) (by omega))
  have HP := Lib.hid (fun w => (hp ▸ code_Place_any (Cal.leap y) n l w : Calls Tryz.prog 154 #[.bool (Cal.leap y), .agg #[.int .i64 n, .bool l]] w fun e w' => e = .returned (.tuple #[.int .i64 (Cal.plV (Cal.leap y) n l), .bool false]) ∧ Below w.heap.size w w'))
  clear hp
  generalize Cal.plV (Cal.leap y) n l = pv at *
  generalize Cal.leap y = lp at *
  go_enter Tryz.func111, Tryz.ntmps111
  go_wp2_with fail
  refine settleC (fun W => CodeAt W w.heap.size n l ∧ CodeAt W (w.heap.size + 1) 0 false ∧ Below w.heap.size w W) ⟨CodeAt.below (codeAt_alloc _ _ _ _) (ba _ _), codeAt_alloc2 _ _ _ _ _, baa (ba _ _) _⟩ ?_
  rintro W0 ⟨hC0, hR0, hB0⟩
  have hq := hC0
  obtain ⟨c0, c1, cf, cs⟩ := hq
  have hq := hR0
  obtain ⟨r0, r1, rf, rs⟩ := hq
  refine (HM.out _).mono ?_
  rintro e w' ⟨rfl, rfl⟩
  go_wp2_with fail
  refine (HR.out _).mono ?_
  rintro e W1 ⟨rfl, hb1⟩
  have hC1 := CodeAt.below hC0 hb1
  have hR1 := CodeAt.below hR0 hb1
  have hB1 := bt hB0 hb1
  clear c0 c1 cf cs r0 r1 rf rs
  have hq := hC1
  obtain ⟨c0, c1, cf, cs⟩ := hq
  have hq := hR1
  obtain ⟨r0, r1, rf, rs⟩ := hq
  go_wp2_with fail
  refine (HL.out _).mono ?_
  rintro e w' ⟨rfl, rfl⟩
  go_wp2_with fail
  refine (HP.out _).mono ?_
  rintro e W2 ⟨rfl, hb2⟩
  have hC2 := CodeAt.below hC1 hb2
  have hR2 := CodeAt.below hR1 hb2
  have hB2 := bt hB1 hb2
  clear c0 c1 cf cs r0 r1 rf rs
  have hq := hC2
  obtain ⟨c0, c1, cf, cs⟩ := hq
  have hq := hR2
  obtain ⟨r0, r1, rf, rs⟩ := hq
  go_wp2_with fail
  refine bodyPost_ret (v := .tuple #[.agg #[.int .i64 6, .bool false], .int .i64 0]) (by simp [results, Tryz.results111, go_sem, *]) rfl ⟨rfl, ?_⟩
  iterate 2 refine Below.setCell ?_ (by first | omega | (simp; done)) _
  exact hB2
theorem shift_Into (y n : Int) (l : Bool) (m : Int) (w : World) :
    Calls Tryz.prog 111 #[.int .i64 y, .agg #[.int .i64 n, .bool l], .int .i64 m] w fun e w' => e = .returned (.tuple #[.agg #[.int .i64 (S15.intoN y n l m), .bool (S15.intoL y n l m)], .int .i64 (S15.intoE y n l m)]) ∧ Below w.heap.size w w' := by
  unfold S15.intoN S15.intoL
  cases hm : S15.mode m
  · rw [show S15.intoE y n l m = 1 by simp [S15.intoE, hm]]
    exact shift_Into_mode y n l m w hm
  cases hy : Cal.yearIn y
  · rw [show S15.intoE y n l m = 2 by simp [S15.intoE, hm, hy]]
    rcases D10.year_out y hy with c | c
    · exact shift_Into_low y n l m w hm c
    · exact shift_Into_high y n l m w hm (by omega) c
  obtain ⟨h1, h2⟩ := D10.year_in y hy
  cases hr : Cal.right n l
  · rw [show S15.intoE y n l m = 3 by simp [S15.intoE, hm, hy, hr]]
    exact shift_Into_right y n l m w hm h1 h2 hr
  cases hp : Cal.plOk (Cal.leap y) n l
  · by_cases c : m = 1
    · rw [show S15.intoE y n l m = 7 by subst c; simp [S15.intoE, hm, hy, hr, hp]]
      exact shift_Into_rej y n l m w hm h1 h2 hr hp c
    · have c0 : m = 0 := by simp [S15.mode, c] at hm; exact hm
      rw [show S15.intoE y n l m = 0 by simp [S15.intoE, hm, hy, hr, hp, c]]
      exact shift_Into_six y n l m w hm h1 h2 hr hp c0
  · rw [show S15.intoE y n l m = 0 by simp [S15.intoE, hm, hy, hr, hp]]
    exact shift_Into_ok y n l m w hm h1 h2 hr hp
set_option maxHeartbeats 1000000 in
theorem shift_Fit_mode (y n : Int) (l : Bool) (d m : Int) (w : World) (hy : I64 y) (hT : Tab w 8 kevCells) (hL : Tab w 6 lenCells) (hm : S15.mode m = false) :
    Calls Tryz.prog 113 #[.int .i64 y, .agg #[.int .i64 n, .bool l], .int .i64 d, .int .i64 m] w fun e w' => e = .returned (.tuple #[.int .i64 0, .int .i64 1]) ∧ Below w.heap.size w w' := by
  have HM := Lib.hid (fun w => (hm ▸ shift_isMode m w : Calls Tryz.prog 161 #[.int .i64 m] w fun e w' => e = .returned (.bool false) ∧ w = w'))
  clear hm
  go_enter Tryz.func113, Tryz.ntmps113
  go_wp2_with fail
  refine (HM.out _).mono ?_
  rintro e w' ⟨rfl, rfl⟩
  go_wp2_with fail
  go_ret2
  refine ⟨rfl, ?_⟩
  repeat (first | (with_reducible exact Below.refl _ _) | (with_reducible assumption) | (with_reducible refine bdrew ?_) | (with_reducible refine baa ?_ _) | (with_reducible refine bs ?_ (by first | exact Nat.le_refl _ | omega | (simp; omega)) _) | (with_reducible refine bt ?_ (by with_reducible assumption)))
set_option maxHeartbeats 1000000 in
theorem shift_Fit_last (y n : Int) (l : Bool) (d m : Int) (w : World) (hy : I64 y) (hT : Tab w 8 kevCells) (hL : Tab w 6 lenCells) (hm : S15.mode m = true) (he : ¬ D10.lastE y n l = 0) :
    Calls Tryz.prog 113 #[.int .i64 y, .agg #[.int .i64 n, .bool l], .int .i64 d, .int .i64 m] w fun e w' => e = .returned (.tuple #[.int .i64 0, .int .i64 (D10.lastE y n l)]) ∧ Below w.heap.size w w' := by
  have HM := Lib.hid (fun w => (hm ▸ shift_isMode m w : Calls Tryz.prog 161 #[.int .i64 m] w fun e w' => e = .returned (.bool true) ∧ w = w'))
  clear hm
  have HL := Lib.hid (fun w hT hL => heb_Last y n l w hy hT hL)
  generalize D10.lastE y n l = le at *
  generalize D10.lastV y n l = lv at *
  have he2 : (le != 0) = true := by simpa using he
  go_enter Tryz.func113, Tryz.ntmps113
  go_wp2_with fail
  refine (HM.out _).mono ?_
  rintro e w' ⟨rfl, rfl⟩
  go_wp2_with fail
  refine (HL.out _ (Tab.below hT (by repeat (first | (with_reducible exact Below.refl _ _) | (with_reducible assumption) | (with_reducible refine bdrew ?_) | (with_reducible refine baa ?_ _) | (with_reducible refine bs ?_ (by first | exact Nat.le_refl _ | omega | (simp; omega)) _) | (with_reducible refine bt ?_ (by with_reducible assumption))))) (Tab.below hL (by repeat (first | (with_reducible exact Below.refl _ _) | (with_reducible assumption) | (with_reducible refine bdrew ?_) | (with_reducible refine baa ?_ _) | (with_reducible refine bs ?_ (by first | exact Nat.le_refl _ | omega | (simp; omega)) _) | (with_reducible refine bt ?_ (by with_reducible assumption)))))).mono ?_
  rintro e w1 ⟨rfl, hb1⟩
  obtain ⟨hc1, hf1⟩ := bcell hb1
  have hz1 := hb1.size
  try simp at hz1
  have hs1x0 : w.heap.size < w1.heap.size := by omega
  have g1x0 : w1.cell? ⟨w.heap.size, 0, none⟩ = some (.int .i64 n) := (hc1 _ _ (by first | omega | (simp; done) | (simp; omega))).trans (by first | (with_reducible assumption) | (simp [go_sem]; done) | (simp [go_sem, *]; done) | assumption)
  have g1x1 : w1.cell? ⟨w.heap.size, 1, none⟩ = some (.bool l) := (hc1 _ _ (by first | omega | (simp; done) | (simp; omega))).trans (by first | (with_reducible assumption) | (simp [go_sem]; done) | (simp [go_sem, *]; done) | assumption)
  go_wp2_with fail
  go_ret2
  refine ⟨rfl, ?_⟩
  repeat (first | (with_reducible exact Below.refl _ _) | (with_reducible assumption) | (with_reducible refine bdrew ?_) | (with_reducible refine baa ?_ _) | (with_reducible refine bs ?_ (by first | exact Nat.le_refl _ | omega | (simp; omega)) _) | (with_reducible refine bt ?_ (by with_reducible assumption)))
set_option maxHeartbeats 1000000 in
theorem shift_Fit_low (y n : Int) (l : Bool) (d m : Int) (w : World) (hy : I64 y) (hT : Tab w 8 kevCells) (hL : Tab w 6 lenCells) (hm : S15.mode m = true) (he : D10.lastE y n l = 0) (hd : d < 1) :
    Calls Tryz.prog 113 #[.int .i64 y, .agg #[.int .i64 n, .bool l], .int .i64 d, .int .i64 m] w fun e w' => e = .returned (.tuple #[.int .i64 0, .int .i64 4]) ∧ Below w.heap.size w w' := by
  have HM := Lib.hid (fun w => (hm ▸ shift_isMode m w : Calls Tryz.prog 161 #[.int .i64 m] w fun e w' => e = .returned (.bool true) ∧ w = w'))
  clear hm
  have hbd := S15.lastV_bd he
  have HL := Lib.hid (fun w hT hL => heb_Last y n l w hy hT hL)
  rw [he] at HL
  clear he
  generalize D10.lastV y n l = lv at *
  go_enter Tryz.func113, Tryz.ntmps113
  go_wp2_with fail
  refine (HM.out _).mono ?_
  rintro e w' ⟨rfl, rfl⟩
  go_wp2_with fail
  refine (HL.out _ (Tab.below hT (by repeat (first | (with_reducible exact Below.refl _ _) | (with_reducible assumption) | (with_reducible refine bdrew ?_) | (with_reducible refine baa ?_ _) | (with_reducible refine bs ?_ (by first | exact Nat.le_refl _ | omega | (simp; omega)) _) | (with_reducible refine bt ?_ (by with_reducible assumption))))) (Tab.below hL (by repeat (first | (with_reducible exact Below.refl _ _) | (with_reducible assumption) | (with_reducible refine bdrew ?_) | (with_reducible refine baa ?_ _) | (with_reducible refine bs ?_ (by first | exact Nat.le_refl _ | omega | (simp; omega)) _) | (with_reducible refine bt ?_ (by with_reducible assumption)))))).mono ?_
  rintro e w1 ⟨rfl, hb1⟩
  obtain ⟨hc1, hf1⟩ := bcell hb1
  have hz1 := hb1.size
  try simp at hz1
  have hs1x0 : w.heap.size < w1.heap.size := by omega
  have g1x0 : w1.cell? ⟨w.heap.size, 0, none⟩ = some (.int .i64 n) := (hc1 _ _ (by first | omega | (simp; done) | (simp; omega))).trans (by first | (with_reducible assumption) | (simp [go_sem]; done) | (simp [go_sem, *]; done) | assumption)
  have g1x1 : w1.cell? ⟨w.heap.size, 1, none⟩ = some (.bool l) := (hc1 _ _ (by first | omega | (simp; done) | (simp; omega))).trans (by first | (with_reducible assumption) | (simp [go_sem]; done) | (simp [go_sem, *]; done) | assumption)
  go_wp2_with fail
  go_ret2
  refine ⟨rfl, ?_⟩
  repeat (first | (with_reducible exact Below.refl _ _) | (with_reducible assumption) | (with_reducible refine bdrew ?_) | (with_reducible refine baa ?_ _) | (with_reducible refine bs ?_ (by first | exact Nat.le_refl _ | omega | (simp; omega)) _) | (with_reducible refine bt ?_ (by with_reducible assumption)))
set_option maxHeartbeats 1000000 in
theorem shift_Fit_high (y n : Int) (l : Bool) (d m : Int) (w : World) (hy : I64 y) (hT : Tab w 8 kevCells) (hL : Tab w 6 lenCells) (hm : S15.mode m = true) (he : D10.lastE y n l = 0) (hd0 : 1 ≤ d) (hd : 30 < d) :
    Calls Tryz.prog 113 #[.int .i64 y, .agg #[.int .i64 n, .bool l], .int .i64 d, .int .i64 m] w fun e w' => e = .returned (.tuple #[.int .i64 0, .int .i64 4]) ∧ Below w.heap.size w w' := by
  have HM := Lib.hid (fun w => (hm ▸ shift_isMode m w : Calls Tryz.prog 161 #[.int .i64 m] w fun e w' => e = .returned (.bool true) ∧ w = w'))
  clear hm
  have hbd := S15.lastV_bd he
  have HL := Lib.hid (fun w hT hL => heb_Last y n l w hy hT hL)
  rw [he] at HL
  clear he
  generalize D10.lastV y n l = lv at *
  go_enter Tryz.func113, Tryz.ntmps113
  go_wp2_with fail
  refine (HM.out _).mono ?_
  rintro e w' ⟨rfl, rfl⟩
  go_wp2_with fail
  refine (HL.out _ (Tab.below hT (by repeat (first | (with_reducible exact Below.refl _ _) | (with_reducible assumption) | (with_reducible refine bdrew ?_) | (with_reducible refine baa ?_ _) | (with_reducible refine bs ?_ (by first | exact Nat.le_refl _ | omega | (simp; omega)) _) | (with_reducible refine bt ?_ (by with_reducible assumption))))) (Tab.below hL (by repeat (first | (with_reducible exact Below.refl _ _) | (with_reducible assumption) | (with_reducible refine bdrew ?_) | (with_reducible refine baa ?_ _) | (with_reducible refine bs ?_ (by first | exact Nat.le_refl _ | omega | (simp; omega)) _) | (with_reducible refine bt ?_ (by with_reducible assumption)))))).mono ?_
  rintro e w1 ⟨rfl, hb1⟩
  obtain ⟨hc1, hf1⟩ := bcell hb1
  have hz1 := hb1.size
  try simp at hz1
  have hs1x0 : w.heap.size < w1.heap.size := by omega
  have g1x0 : w1.cell? ⟨w.heap.size, 0, none⟩ = some (.int .i64 n) := (hc1 _ _ (by first | omega | (simp; done) | (simp; omega))).trans (by first | (with_reducible assumption) | (simp [go_sem]; done) | (simp [go_sem, *]; done) | assumption)
  have g1x1 : w1.cell? ⟨w.heap.size, 1, none⟩ = some (.bool l) := (hc1 _ _ (by first | omega | (simp; done) | (simp; omega))).trans (by first | (with_reducible assumption) | (simp [go_sem]; done) | (simp [go_sem, *]; done) | assumption)
  go_wp2_with fail
  go_ret2
  refine ⟨rfl, ?_⟩
  repeat (first | (with_reducible exact Below.refl _ _) | (with_reducible assumption) | (with_reducible refine bdrew ?_) | (with_reducible refine baa ?_ _) | (with_reducible refine bs ?_ (by first | exact Nat.le_refl _ | omega | (simp; omega)) _) | (with_reducible refine bt ?_ (by with_reducible assumption)))
set_option maxHeartbeats 1000000 in
theorem shift_Fit_ok (y n : Int) (l : Bool) (d m : Int) (w : World) (hy : I64 y) (hT : Tab w 8 kevCells) (hL : Tab w 6 lenCells) (hm : S15.mode m = true) (he : D10.lastE y n l = 0) (hd0 : 1 ≤ d) (hd : d ≤ 30) (hv : d ≤ D10.lastV y n l) :
    Calls Tryz.prog 113 #[.int .i64 y, .agg #[.int .i64 n, .bool l], .int .i64 d, .int .i64 m] w fun e w' => e = .returned (.tuple #[.int .i64 d, .int .i64 0]) ∧ Below w.heap.size w w' := by
  have HM := Lib.hid (fun w => (hm ▸ shift_isMode m w : Calls Tryz.prog 161 #[.int .i64 m] w fun e w' => e = .returned (.bool true) ∧ w = w'))
  clear hm
  have hbd := S15.lastV_bd he
  have HL := Lib.hid (fun w hT hL => heb_Last y n l w hy hT hL)
  rw [he] at HL
  clear he
  generalize D10.lastV y n l = lv at *
  go_enter Tryz.func113, Tryz.ntmps113
  go_wp2_with fail
  refine (HM.out _).mono ?_
  rintro e w' ⟨rfl, rfl⟩
  go_wp2_with fail
  refine (HL.out _ (Tab.below hT (by repeat (first | (with_reducible exact Below.refl _ _) | (with_reducible assumption) | (with_reducible refine bdrew ?_) | (with_reducible refine baa ?_ _) | (with_reducible refine bs ?_ (by first | exact Nat.le_refl _ | omega | (simp; omega)) _) | (with_reducible refine bt ?_ (by with_reducible assumption))))) (Tab.below hL (by repeat (first | (with_reducible exact Below.refl _ _) | (with_reducible assumption) | (with_reducible refine bdrew ?_) | (with_reducible refine baa ?_ _) | (with_reducible refine bs ?_ (by first | exact Nat.le_refl _ | omega | (simp; omega)) _) | (with_reducible refine bt ?_ (by with_reducible assumption)))))).mono ?_
  rintro e w1 ⟨rfl, hb1⟩
  obtain ⟨hc1, hf1⟩ := bcell hb1
  have hz1 := hb1.size
  try simp at hz1
  have hs1x0 : w.heap.size < w1.heap.size := by omega
  have g1x0 : w1.cell? ⟨w.heap.size, 0, none⟩ = some (.int .i64 n) := (hc1 _ _ (by first | omega | (simp; done) | (simp; omega))).trans (by first | (with_reducible assumption) | (simp [go_sem]; done) | (simp [go_sem, *]; done) | assumption)
  have g1x1 : w1.cell? ⟨w.heap.size, 1, none⟩ = some (.bool l) := (hc1 _ _ (by first | omega | (simp; done) | (simp; omega))).trans (by first | (with_reducible assumption) | (simp [go_sem]; done) | (simp [go_sem, *]; done) | assumption)
  go_wp2_with fail
  go_ret2
  refine ⟨rfl, ?_⟩
  repeat (first | (with_reducible exact Below.refl _ _) | (with_reducible assumption) | (with_reducible refine bdrew ?_) | (with_reducible refine baa ?_ _) | (with_reducible refine bs ?_ (by first | exact Nat.le_refl _ | omega | (simp; omega)) _) | (with_reducible refine bt ?_ (by with_reducible assumption)))
set_option maxHeartbeats 1000000 in
theorem shift_Fit_rej (y n : Int) (l : Bool) (d m : Int) (w : World) (hy : I64 y) (hT : Tab w 8 kevCells) (hL : Tab w 6 lenCells) (hm : S15.mode m = true) (he : D10.lastE y n l = 0) (hd0 : 1 ≤ d) (hd : d ≤ 30) (hv : D10.lastV y n l < d) (h7 : m = 1) :
    Calls Tryz.prog 113 #[.int .i64 y, .agg #[.int .i64 n, .bool l], .int .i64 d, .int .i64 m] w fun e w' => e = .returned (.tuple #[.int .i64 0, .int .i64 7]) ∧ Below w.heap.size w w' := by
  subst h7
  have HM := Lib.hid (fun w => (hm ▸ shift_isMode 1 w : Calls Tryz.prog 161 #[.int .i64 1] w fun e w' => e = .returned (.bool true) ∧ w = w'))
  clear hm
  have hbd := S15.lastV_bd he
  have HL := Lib.hid (fun w hT hL => heb_Last y n l w hy hT hL)
  rw [he] at HL
  clear he
  generalize D10.lastV y n l = lv at *
  go_enter Tryz.func113, Tryz.ntmps113
  go_wp2_with fail
  refine (HM.out _).mono ?_
  rintro e w' ⟨rfl, rfl⟩
  go_wp2_with fail
  refine (HL.out _ (Tab.below hT (by repeat (first | (with_reducible exact Below.refl _ _) | (with_reducible assumption) | (with_reducible refine bdrew ?_) | (with_reducible refine baa ?_ _) | (with_reducible refine bs ?_ (by first | exact Nat.le_refl _ | omega | (simp; omega)) _) | (with_reducible refine bt ?_ (by with_reducible assumption))))) (Tab.below hL (by repeat (first | (with_reducible exact Below.refl _ _) | (with_reducible assumption) | (with_reducible refine bdrew ?_) | (with_reducible refine baa ?_ _) | (with_reducible refine bs ?_ (by first | exact Nat.le_refl _ | omega | (simp; omega)) _) | (with_reducible refine bt ?_ (by with_reducible assumption)))))).mono ?_
  rintro e w1 ⟨rfl, hb1⟩
  obtain ⟨hc1, hf1⟩ := bcell hb1
  have hz1 := hb1.size
  try simp at hz1
  have hs1x0 : w.heap.size < w1.heap.size := by omega
  have g1x0 : w1.cell? ⟨w.heap.size, 0, none⟩ = some (.int .i64 n) := (hc1 _ _ (by first | omega | (simp; done) | (simp; omega))).trans (by first | (with_reducible assumption) | (simp [go_sem]; done) | (simp [go_sem, *]; done) | assumption)
  have g1x1 : w1.cell? ⟨w.heap.size, 1, none⟩ = some (.bool l) := (hc1 _ _ (by first | omega | (simp; done) | (simp; omega))).trans (by first | (with_reducible assumption) | (simp [go_sem]; done) | (simp [go_sem, *]; done) | assumption)
  go_wp2_with fail
  go_ret2
  refine ⟨rfl, ?_⟩
  repeat (first | (with_reducible exact Below.refl _ _) | (with_reducible assumption) | (with_reducible refine bdrew ?_) | (with_reducible refine baa ?_ _) | (with_reducible refine bs ?_ (by first | exact Nat.le_refl _ | omega | (simp; omega)) _) | (with_reducible refine bt ?_ (by with_reducible assumption)))
set_option maxHeartbeats 1000000 in
theorem shift_Fit_last_ok (y n : Int) (l : Bool) (d m : Int) (w : World) (hy : I64 y) (hT : Tab w 8 kevCells) (hL : Tab w 6 lenCells) (hm : S15.mode m = true) (he : D10.lastE y n l = 0) (hd0 : 1 ≤ d) (hd : d ≤ 30) (hv : D10.lastV y n l < d) (h7 : m = 0) :
    Calls Tryz.prog 113 #[.int .i64 y, .agg #[.int .i64 n, .bool l], .int .i64 d, .int .i64 m] w fun e w' => e = .returned (.tuple #[.int .i64 (D10.lastV y n l), .int .i64 0]) ∧ Below w.heap.size w w' := by
  subst h7
  have HM := Lib.hid (fun w => (hm ▸ shift_isMode 0 w : Calls Tryz.prog 161 #[.int .i64 0] w fun e w' => e = .returned (.bool true) ∧ w = w'))
  clear hm
  have hbd := S15.lastV_bd he
  have HL := Lib.hid (fun w hT hL => heb_Last y n l w hy hT hL)
  rw [he] at HL
  clear he
  generalize D10.lastV y n l = lv at *
  go_enter Tryz.func113, Tryz.ntmps113
  go_wp2_with fail
  refine (HM.out _).mono ?_
  rintro e w' ⟨rfl, rfl⟩
  go_wp2_with fail
  refine (HL.out _ (Tab.below hT (by repeat (first | (with_reducible exact Below.refl _ _) | (with_reducible assumption) | (with_reducible refine bdrew ?_) | (with_reducible refine baa ?_ _) | (with_reducible refine bs ?_ (by first | exact Nat.le_refl _ | omega | (simp; omega)) _) | (with_reducible refine bt ?_ (by with_reducible assumption))))) (Tab.below hL (by repeat (first | (with_reducible exact Below.refl _ _) | (with_reducible assumption) | (with_reducible refine bdrew ?_) | (with_reducible refine baa ?_ _) | (with_reducible refine bs ?_ (by first | exact Nat.le_refl _ | omega | (simp; omega)) _) | (with_reducible refine bt ?_ (by with_reducible assumption)))))).mono ?_
  rintro e w1 ⟨rfl, hb1⟩
  obtain ⟨hc1, hf1⟩ := bcell hb1
  have hz1 := hb1.size
  try simp at hz1
  have hs1x0 : w.heap.size < w1.heap.size := by omega
  have g1x0 : w1.cell? ⟨w.heap.size, 0, none⟩ = some (.int .i64 n) := (hc1 _ _ (by first | omega | (simp; done) | (simp; omega))).trans (by first | (with_reducible assumption) | (simp [go_sem]; done) | (simp [go_sem, *]; done) | assumption)
  have g1x1 : w1.cell? ⟨w.heap.size, 1, none⟩ = some (.bool l) := (hc1 _ _ (by first | omega | (simp; done) | (simp; omega))).trans (by first | (with_reducible assumption) | (simp [go_sem]; done) | (simp [go_sem, *]; done) | assumption)
  go_wp2_with fail
  go_ret2
  refine ⟨rfl, ?_⟩
  repeat (first | (with_reducible exact Below.refl _ _) | (with_reducible assumption) | (with_reducible refine bdrew ?_) | (with_reducible refine baa ?_ _) | (with_reducible refine bs ?_ (by first | exact Nat.le_refl _ | omega | (simp; omega)) _) | (with_reducible refine bt ?_ (by with_reducible assumption)))
theorem shift_Fit (y n : Int) (l : Bool) (d m : Int) (w : World) (hy : I64 y) (hT : Tab w 8 kevCells) (hL : Tab w 6 lenCells) :
    Calls Tryz.prog 113 #[.int .i64 y, .agg #[.int .i64 n, .bool l], .int .i64 d, .int .i64 m] w fun e w' => e = .returned (.tuple #[.int .i64 (S15.fitV y n l d m), .int .i64 (S15.fitE y n l d m)]) ∧ Below w.heap.size w w' := by
  unfold S15.fitV
  cases hm : S15.mode m
  · rw [show S15.fitE y n l d m = 1 by simp [S15.fitE, hm]]
    exact shift_Fit_mode y n l d m w hy hT hL hm
  by_cases he : D10.lastE y n l = 0
  · by_cases c1 : d < 1 ∨ 30 < d
    · rw [show S15.fitE y n l d m = 4 by simp [S15.fitE, hm, he, c1]]
      by_cases c : d < 1
      · exact shift_Fit_low y n l d m w hy hT hL hm he c
      · exact shift_Fit_high y n l d m w hy hT hL hm he (by omega) (by omega)
    · by_cases c2 : d ≤ D10.lastV y n l
      · rw [show S15.fitE y n l d m = 0 by simp [S15.fitE, hm, he, c1, c2], if_pos rfl, if_pos c2]
        exact shift_Fit_ok y n l d m w hy hT hL hm he (by omega) (by omega) c2
      · by_cases c3 : m = 1
        · rw [show S15.fitE y n l d m = 7 by subst c3; simp [S15.fitE, hm, he, c1, c2]]
          exact shift_Fit_rej y n l d m w hy hT hL hm he (by omega) (by omega) (by omega) c3
        · have c0 : m = 0 := by simp [S15.mode, c3] at hm; exact hm
          rw [show S15.fitE y n l d m = 0 by simp [S15.fitE, hm, he, c1, c2, c3], if_pos rfl, if_neg c2]
          exact shift_Fit_last_ok y n l d m w hy hT hL hm he (by omega) (by omega) (by omega) c0
  · have e : S15.fitE y n l d m = D10.lastE y n l := by simp [S15.fitE, hm, he]
    rw [e, if_neg he]
    exact shift_Fit_last y n l d m w hy hT hL hm he
end Go.Proofs.YtafenpgafmdenaaGreatDoor
