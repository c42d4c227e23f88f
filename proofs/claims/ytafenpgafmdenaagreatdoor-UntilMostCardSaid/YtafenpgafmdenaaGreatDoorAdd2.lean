/- Layer 16: a duration, added. -/
import Derived.Test.YtafenpgafmdenaaGreatDoorAddM
import Derived.Test.YtafenpgafmdenaaGreatDoorAddF
import Derived.Test.YtafenpgafmdenaaGreatDoorA16
import Derived.RegionTactic
import Derived.Deep.RegionHeld3
namespace Go.Proofs.YtafenpgafmdenaaGreatDoor
open Go.ChangeShapes Go.WideShapes Go.ChangeAt Go.RowKit
set_option linter.unusedVariables false
set_option maxRecDepth 100000
theorem add_may (x : Int) (w : World) : Calls Tryz.prog 74 #[.int .i64 x] w fun e w' => e = .returned (.bool (A16.may x)) ∧ w = w' := by
  by_cases a : -4000000 ≤ x
  · have a2 : decide (-4000000 ≤ x) = true := by simpa using a
    go_enter Tryz.func74, Tryz.ntmps74
    go_wp2_with fail
    go_ret
    exact ⟨by simp [A16.may, a], rfl⟩
  · have a2 : decide (-4000000 ≤ x) = false := by simpa using a
    go_enter Tryz.func74, Tryz.ntmps74
    go_wp2_with fail
    go_ret
    exact ⟨by unfold A16.may; rw [a2]; rfl, rfl⟩
set_option maxHeartbeats 2000000 in
theorem add_Right (a b c d : Int) (w : World) : Calls Tryz.prog 30 #[.agg #[.int .i64 a, .int .i64 b, .int .i64 c, .int .i64 d]] w fun e w' => e = .returned (.bool (A16.right a b c d)) ∧ Below w.heap.size w w' := by
  have Ha := Lib.hid (fun w => add_may a w)
  have Hb := Lib.hid (fun w => add_may b w)
  have Hc := Lib.hid (fun w => add_may c w)
  have Hd := Lib.hid (fun w => add_may d w)
  unfold A16.right
  generalize A16.may a = ba at *
  generalize A16.may b = bb at *
  generalize A16.may c = bc at *
  generalize A16.may d = bd at *
  cases ba
  · go_enter Tryz.func30, Tryz.ntmps30
    go_wp2_with fail
    refine (Ha.out _).mono ?_
    rintro e w' ⟨rfl, rfl⟩
    go_wp2_with fail
    go_ret
    exact ⟨rfl, ba _ _⟩
  cases bb
  · go_enter Tryz.func30, Tryz.ntmps30
    go_wp2_with fail
    refine (Ha.out _).mono ?_
    rintro e w' ⟨rfl, rfl⟩
    go_wp2_with fail
    refine (Hb.out _).mono ?_
    rintro e w' ⟨rfl, rfl⟩
    go_wp2_with fail
    go_ret
    exact ⟨rfl, ba _ _⟩
  cases bc
  · go_enter Tryz.func30, Tryz.ntmps30
    go_wp2_with fail
    refine (Ha.out _).mono ?_
    rintro e w' ⟨rfl, rfl⟩
    go_wp2_with fail
    refine (Hb.out _).mono ?_
    rintro e w' ⟨rfl, rfl⟩
    go_wp2_with fail
    refine (Hc.out _).mono ?_
    rintro e w' ⟨rfl, rfl⟩
    go_wp2_with fail
    go_ret
    exact ⟨rfl, ba _ _⟩
  · go_enter Tryz.func30, Tryz.ntmps30
    go_wp2_with fail
    refine (Ha.out _).mono ?_
    rintro e w' ⟨rfl, rfl⟩
    go_wp2_with fail
    refine (Hb.out _).mono ?_
    rintro e w' ⟨rfl, rfl⟩
    go_wp2_with fail
    refine (Hc.out _).mono ?_
    rintro e w' ⟨rfl, rfl⟩
    go_wp2_with fail
    refine (Hd.out _).mono ?_
    rintro e w' ⟨rfl, rfl⟩
    go_wp2_with fail
    go_ret
    exact ⟨by cases bd <;> rfl, ba _ _⟩
theorem walk_alloc (w : World) (y n : Int) (l : Bool) (d m e : Int) (t : TypeId) : WalkAt (w.alloc (.cells #[.int .i64 y, .int .i64 n, .bool l, .int .i64 d, .int .i64 m, .int .i64 e] t)) w.heap.size y n l d m e := ⟨by simp [go_sem], by simp [go_sem], by simp [go_sem], by simp [go_sem], by simp [go_sem], by simp [go_sem], fun i => by simp [go_sem], by simp⟩
/-- What the walk of add.To knows of the world besides the walk at block g. -/
def AddSt (w W : World) (g : Nat) (a b c f : Int) : Prop :=
  W.cell? ⟨w.heap.size + 1, 0, none⟩ = some (.int .i64 a) ∧ W.cell? ⟨w.heap.size + 1, 1, none⟩ = some (.int .i64 b) ∧ W.cell? ⟨w.heap.size + 1, 2, none⟩ = some (.int .i64 c) ∧ W.cell? ⟨w.heap.size + 1, 3, none⟩ = some (.int .i64 f) ∧ ResAt W (w.heap.size + 1 + 1) ∧ Below w.heap.size w W ∧ Tab W 8 kevCells ∧ Tab W 6 lenCells ∧ w.heap.size + 1 + 1 < g ∧ 8 < w.heap.size ∧ 6 < w.heap.size
theorem AddSt.but {w W W' : World} {g : Nat} {a b c f : Int} (h : AddSt w W g a b c f) (hb : But g W W') : AddSt w W' g a b c f := by
  obtain ⟨h0, h1, h2, h3, hR, hB, hT, hL, hg, w1, w2⟩ := h
  have hs : w.heap.size + 1 < W.heap.size := by have := hR.2.2.2.2.2; omega
  have cc := fun i => hb.cell (k := w.heap.size + 1) (o := i) hs (by omega)
  exact ⟨(cc 0).trans h0, (cc 1).trans h1, (cc 2).trans h2, (cc 3).trans h3, ResAt.but hR hb (by omega), hb.below hB (by omega), But.tab hT hb (by omega), But.tab hL hb (by omega), hg, w1, w2⟩
theorem AddSt.start {w W1 wx : World} {g : Nat} {a b c f : Int} (t0 : W1.cell? ⟨w.heap.size + 1, 0, none⟩ = some (.int .i64 a)) (t1 : W1.cell? ⟨w.heap.size + 1, 1, none⟩ = some (.int .i64 b)) (t2 : W1.cell? ⟨w.heap.size + 1, 2, none⟩ = some (.int .i64 c)) (t3 : W1.cell? ⟨w.heap.size + 1, 3, none⟩ = some (.int .i64 f)) (hR : ResAt W1 (w.heap.size + 1 + 1)) (hB : Below w.heap.size w W1) (hT : Tab w 8 kevCells) (hL : Tab w 6 lenCells) (hX : Below W1.heap.size W1 wx) (hg : w.heap.size + 1 + 1 < g) : AddSt w wx g a b c f := by
  have hs : w.heap.size + 1 < W1.heap.size := by have := hR.2.2.2.2.2; omega
  have cc := fun i => hX.cell (p := ⟨w.heap.size + 1, i, none⟩) hs
  have hB2 := bt hB hX
  exact ⟨(cc 0).trans t0, (cc 1).trans t1, (cc 2).trans t2, (cc 3).trans t3, ResAt.below hR hX, hB2, Tab.below hT hB2, Tab.below hL hB2, hg, hT.lt, hL.lt⟩
set_option maxHeartbeats 4000000 in
theorem add_To_right (y n : Int) (l : Bool) (d a b c f m : Int) (w : World) (hy : I64 y) (hT : Tab w 8 kevCells) (hL : Tab w 6 lenCells) (hr : A16.right a b c f = false) :
    Calls Tryz.prog 27 #[.agg #[.int .i64 y, .int .i64 n, .bool l, .int .i64 d], .agg #[.int .i64 a, .int .i64 b, .int .i64 c, .int .i64 f], .int .i64 m] w fun e w' => e = .returned (.tuple #[.agg #[.int .i64 0, .int .i64 0, .bool false, .int .i64 0], .int .i64 1]) ∧ Below w.heap.size w w' := by
  have HRt := Lib.hid (fun w => (hr ▸ add_Right a b c f w : Calls Tryz.prog 30 #[.agg #[.int .i64 a, .int .i64 b, .int .i64 c, .int .i64 f]] w fun e w' => e = .returned (.bool false) ∧ Below w.heap.size w w'))
  clear hr
  go_enter Tryz.func27, Tryz.ntmps27
  go_wp2_with fail
  refine settleC (fun W => W.cell? ⟨w.heap.size, 0, none⟩ = some (.int .i64 y) ∧ W.cell? ⟨w.heap.size, 1, none⟩ = some (.int .i64 n) ∧ W.cell? ⟨w.heap.size, 2, none⟩ = some (.bool l) ∧ W.cell? ⟨w.heap.size, 3, none⟩ = some (.int .i64 d) ∧ W.cell? ⟨w.heap.size + 1, 0, none⟩ = some (.int .i64 a) ∧ W.cell? ⟨w.heap.size + 1, 1, none⟩ = some (.int .i64 b) ∧ W.cell? ⟨w.heap.size + 1, 2, none⟩ = some (.int .i64 c) ∧ W.cell? ⟨w.heap.size + 1, 3, none⟩ = some (.int .i64 f) ∧ ResAt W (w.heap.size + 1 + 1) ∧ Below w.heap.size w W) ⟨by simp [go_sem], by simp [go_sem], by simp [go_sem], by simp [go_sem], by simp [go_sem], by simp [go_sem], by simp [go_sem], by simp [go_sem], ⟨by simp [go_sem], by simp [go_sem], by simp [go_sem], by simp [go_sem], fun i => by simp [go_sem], by simp⟩, baa (baa (ba _ _) _) _⟩ ?_
  rintro W0 ⟨c0, c1, c2, c3, s0, s1, s2, s3, hR0, hB0⟩
  have hz0 := hR0.2.2.2.2.2
  refine (HRt.out _).mono ?_
  rintro e W1 ⟨rfl, hb1⟩
  have hR1 := ResAt.below hR0 hb1
  have hB1 := bt hB0 hb1
  have hz1 := hR1.2.2.2.2.2
  have k0 := (hb1.cell (p := ⟨w.heap.size, 0, none⟩) (show w.heap.size < W0.heap.size by omega)).trans c0
  have t0 := (hb1.cell (p := ⟨w.heap.size + 1, 0, none⟩) (show w.heap.size + 1 < W0.heap.size by omega)).trans s0
  have k1 := (hb1.cell (p := ⟨w.heap.size, 1, none⟩) (show w.heap.size < W0.heap.size by omega)).trans c1
  have t1 := (hb1.cell (p := ⟨w.heap.size + 1, 1, none⟩) (show w.heap.size + 1 < W0.heap.size by omega)).trans s1
  have k2 := (hb1.cell (p := ⟨w.heap.size, 2, none⟩) (show w.heap.size < W0.heap.size by omega)).trans c2
  have t2 := (hb1.cell (p := ⟨w.heap.size + 1, 2, none⟩) (show w.heap.size + 1 < W0.heap.size by omega)).trans s2
  have k3 := (hb1.cell (p := ⟨w.heap.size, 3, none⟩) (show w.heap.size < W0.heap.size by omega)).trans c3
  have t3 := (hb1.cell (p := ⟨w.heap.size + 1, 3, none⟩) (show w.heap.size + 1 < W0.heap.size by omega)).trans s3
  clear c0 c1 c2 c3 s0 s1 s2 s3 hz0
  have hl0 : w.heap.size < W1.heap.size := by omega
  have hl1 : w.heap.size + 1 < W1.heap.size := by omega
  have hq := hR1
  obtain ⟨r0, r1, r2, r3, rf, rs⟩ := hq
  go_wp2_with fail
  refine bodyPost_ret (v := .tuple #[.agg #[.int .i64 0, .int .i64 0, .bool false, .int .i64 0], .int .i64 1]) (by simp [results, Tryz.results27, go_sem, *]) rfl ⟨rfl, ?_⟩
  iterate 4 refine Below.setCell ?_ (show w.heap.size ≤ w.heap.size + 1 + 1 by omega) _
  exact hB1
set_option maxHeartbeats 4000000 in
theorem add_To_mode (y n : Int) (l : Bool) (d a b c f m : Int) (w : World) (hy : I64 y) (hT : Tab w 8 kevCells) (hL : Tab w 6 lenCells) (hr : A16.right a b c f = true) (hm : S15.mode m = false) :
    Calls Tryz.prog 27 #[.agg #[.int .i64 y, .int .i64 n, .bool l, .int .i64 d], .agg #[.int .i64 a, .int .i64 b, .int .i64 c, .int .i64 f], .int .i64 m] w fun e w' => e = .returned (.tuple #[.agg #[.int .i64 0, .int .i64 0, .bool false, .int .i64 0], .int .i64 1]) ∧ Below w.heap.size w w' := by
  have HRt := Lib.hid (fun w => (hr ▸ add_Right a b c f w : Calls Tryz.prog 30 #[.agg #[.int .i64 a, .int .i64 b, .int .i64 c, .int .i64 f]] w fun e w' => e = .returned (.bool true) ∧ Below w.heap.size w w'))
  clear hr
  have m0 : (m != 0) = true := by simp [S15.mode] at hm; simp [hm.1]
  have m1 : (m != 1) = true := by simp [S15.mode] at hm; simp [hm.2]
  clear hm
  go_enter Tryz.func27, Tryz.ntmps27
  go_wp2_with fail
  refine settleC (fun W => W.cell? ⟨w.heap.size, 0, none⟩ = some (.int .i64 y) ∧ W.cell? ⟨w.heap.size, 1, none⟩ = some (.int .i64 n) ∧ W.cell? ⟨w.heap.size, 2, none⟩ = some (.bool l) ∧ W.cell? ⟨w.heap.size, 3, none⟩ = some (.int .i64 d) ∧ W.cell? ⟨w.heap.size + 1, 0, none⟩ = some (.int .i64 a) ∧ W.cell? ⟨w.heap.size + 1, 1, none⟩ = some (.int .i64 b) ∧ W.cell? ⟨w.heap.size + 1, 2, none⟩ = some (.int .i64 c) ∧ W.cell? ⟨w.heap.size + 1, 3, none⟩ = some (.int .i64 f) ∧ ResAt W (w.heap.size + 1 + 1) ∧ Below w.heap.size w W) ⟨by simp [go_sem], by simp [go_sem], by simp [go_sem], by simp [go_sem], by simp [go_sem], by simp [go_sem], by simp [go_sem], by simp [go_sem], ⟨by simp [go_sem], by simp [go_sem], by simp [go_sem], by simp [go_sem], fun i => by simp [go_sem], by simp⟩, baa (baa (ba _ _) _) _⟩ ?_
  rintro W0 ⟨c0, c1, c2, c3, s0, s1, s2, s3, hR0, hB0⟩
  have hz0 := hR0.2.2.2.2.2
  refine (HRt.out _).mono ?_
  rintro e W1 ⟨rfl, hb1⟩
  have hR1 := ResAt.below hR0 hb1
  have hB1 := bt hB0 hb1
  have hz1 := hR1.2.2.2.2.2
  have k0 := (hb1.cell (p := ⟨w.heap.size, 0, none⟩) (show w.heap.size < W0.heap.size by omega)).trans c0
  have t0 := (hb1.cell (p := ⟨w.heap.size + 1, 0, none⟩) (show w.heap.size + 1 < W0.heap.size by omega)).trans s0
  have k1 := (hb1.cell (p := ⟨w.heap.size, 1, none⟩) (show w.heap.size < W0.heap.size by omega)).trans c1
  have t1 := (hb1.cell (p := ⟨w.heap.size + 1, 1, none⟩) (show w.heap.size + 1 < W0.heap.size by omega)).trans s1
  have k2 := (hb1.cell (p := ⟨w.heap.size, 2, none⟩) (show w.heap.size < W0.heap.size by omega)).trans c2
  have t2 := (hb1.cell (p := ⟨w.heap.size + 1, 2, none⟩) (show w.heap.size + 1 < W0.heap.size by omega)).trans s2
  have k3 := (hb1.cell (p := ⟨w.heap.size, 3, none⟩) (show w.heap.size < W0.heap.size by omega)).trans c3
  have t3 := (hb1.cell (p := ⟨w.heap.size + 1, 3, none⟩) (show w.heap.size + 1 < W0.heap.size by omega)).trans s3
  clear c0 c1 c2 c3 s0 s1 s2 s3 hz0
  have hl0 : w.heap.size < W1.heap.size := by omega
  have hl1 : w.heap.size + 1 < W1.heap.size := by omega
  have hq := hR1
  obtain ⟨r0, r1, r2, r3, rf, rs⟩ := hq
  go_wp2_with fail
  refine bodyPost_ret (v := .tuple #[.agg #[.int .i64 0, .int .i64 0, .bool false, .int .i64 0], .int .i64 1]) (by simp [results, Tryz.results27, go_sem, *]) rfl ⟨rfl, ?_⟩
  iterate 4 refine Below.setCell ?_ (show w.heap.size ≤ w.heap.size + 1 + 1 by omega) _
  exact hB1
set_option maxHeartbeats 40000000 in
theorem add_To_m0 (y n : Int) (l : Bool) (d a b c f : Int) (w : World) (hy : I64 y) (hT : Tab w 8 kevCells) (hL : Tab w 6 lenCells) (ry rn : Int) (rl : Bool) (rd er : Int) (hr : A16.right a b c f = true) (hres : Hid (A16.ToIs y n l d a b c f 0 ry rn rl rd er)) :
    Calls Tryz.prog 27 #[.agg #[.int .i64 y, .int .i64 n, .bool l, .int .i64 d], .agg #[.int .i64 a, .int .i64 b, .int .i64 c, .int .i64 f], .int .i64 0] w fun e w' => e = .returned (.tuple #[.agg #[.int .i64 ry, .int .i64 rn, .bool rl, .int .i64 rd], .int .i64 er]) ∧ Below w.heap.size w w' := by
  have HRt := Lib.hid (fun w => (hr ▸ add_Right a b c f w : Calls Tryz.prog 30 #[.agg #[.int .i64 a, .int .i64 b, .int .i64 c, .int .i64 f]] w fun e w' => e = .returned (.bool true) ∧ Below w.heap.size w w'))
  obtain ⟨⟨a1, a2⟩, ⟨b1, b2⟩, ⟨x1, x2⟩, ⟨f1, f2⟩⟩ := A16.right_in hr
  have HC := Lib.hid (fun w hT hL => heb_Check y n l d w hy hT hL)
  have hmr := Lib.hid (show (A16.right a b c f && S15.mode 0) = true by rw [hr]; rfl)
  clear hr
  have hw1 := hT.lt
  have hw2 := hL.lt
  go_enter Tryz.func27, Tryz.ntmps27
  go_wp2_with fail
  refine settleC (fun W => W.cell? ⟨w.heap.size, 0, none⟩ = some (.int .i64 y) ∧ W.cell? ⟨w.heap.size, 1, none⟩ = some (.int .i64 n) ∧ W.cell? ⟨w.heap.size, 2, none⟩ = some (.bool l) ∧ W.cell? ⟨w.heap.size, 3, none⟩ = some (.int .i64 d) ∧ W.cell? ⟨w.heap.size + 1, 0, none⟩ = some (.int .i64 a) ∧ W.cell? ⟨w.heap.size + 1, 1, none⟩ = some (.int .i64 b) ∧ W.cell? ⟨w.heap.size + 1, 2, none⟩ = some (.int .i64 c) ∧ W.cell? ⟨w.heap.size + 1, 3, none⟩ = some (.int .i64 f) ∧ ResAt W (w.heap.size + 1 + 1) ∧ Below w.heap.size w W) ⟨by simp [go_sem], by simp [go_sem], by simp [go_sem], by simp [go_sem], by simp [go_sem], by simp [go_sem], by simp [go_sem], by simp [go_sem], ⟨by simp [go_sem], by simp [go_sem], by simp [go_sem], by simp [go_sem], fun i => by simp [go_sem], by simp⟩, baa (baa (ba _ _) _) _⟩ ?_
  rintro W0 ⟨c0, c1, c2, c3, s0, s1, s2, s3, hR0, hB0⟩
  have hz0 := hR0.2.2.2.2.2
  refine (HRt.out _).mono ?_
  rintro e W1 ⟨rfl, hb1⟩
  have hR1 := ResAt.below hR0 hb1
  have hB1 := bt hB0 hb1
  have hz1 := hR1.2.2.2.2.2
  have k0 := (hb1.cell (p := ⟨w.heap.size, 0, none⟩) (show w.heap.size < W0.heap.size by omega)).trans c0
  have t0 := (hb1.cell (p := ⟨w.heap.size + 1, 0, none⟩) (show w.heap.size + 1 < W0.heap.size by omega)).trans s0
  have k1 := (hb1.cell (p := ⟨w.heap.size, 1, none⟩) (show w.heap.size < W0.heap.size by omega)).trans c1
  have t1 := (hb1.cell (p := ⟨w.heap.size + 1, 1, none⟩) (show w.heap.size + 1 < W0.heap.size by omega)).trans s1
  have k2 := (hb1.cell (p := ⟨w.heap.size, 2, none⟩) (show w.heap.size < W0.heap.size by omega)).trans c2
  have t2 := (hb1.cell (p := ⟨w.heap.size + 1, 2, none⟩) (show w.heap.size + 1 < W0.heap.size by omega)).trans s2
  have k3 := (hb1.cell (p := ⟨w.heap.size, 3, none⟩) (show w.heap.size < W0.heap.size by omega)).trans c3
  have t3 := (hb1.cell (p := ⟨w.heap.size + 1, 3, none⟩) (show w.heap.size + 1 < W0.heap.size by omega)).trans s3
  clear c0 c1 c2 c3 s0 s1 s2 s3 hz0
  have hl0 : w.heap.size < W1.heap.size := by omega
  have hl1 : w.heap.size + 1 < W1.heap.size := by omega
  have hq := hR1
  obtain ⟨r0, r1, r2, r3, rf, rs⟩ := hq
  go_wp2_with fail
  go_cut [8] from 21 (fun v wx => ∃ g : Nat, v = .pointer (some ⟨g, 0, none⟩) ∧ WalkAt wx g y n l d 0 (D10.dateE y n l d) ∧ AddSt w wx g a b c f)
  case first =>
    have nn0 := World.new_ne W1 _ k0
    have nn1 := World.new_ne W1 _ k1
    have nn2 := World.new_ne W1 _ k2
    have nn3 := World.new_ne W1 _ k3
    go_region_held3 (fun x => x.cell? ⟨w.heap.size, 0, none⟩ = some (.int .i64 y) ∧ x.cell? ⟨w.heap.size, 1, none⟩ = some (.int .i64 n) ∧ x.cell? ⟨w.heap.size, 2, none⟩ = some (.bool l) ∧ x.cell? ⟨w.heap.size, 3, none⟩ = some (.int .i64 d)) (first | exact ⟨by with_reducible assumption, by with_reducible assumption, by with_reducible assumption, by with_reducible assumption⟩ | go_keep) (first | (go_at_call 38; refine (HC.out _ (Tab.below hT (by repeat (first | (with_reducible assumption) | (with_reducible exact Below.refl _ _) | (with_reducible refine bdrew ?_) | (with_reducible refine baa ?_ _)))) (Tab.below hL (by repeat (first | (with_reducible assumption) | (with_reducible exact Below.refl _ _) | (with_reducible refine bdrew ?_) | (with_reducible refine baa ?_ _))))).mono ?_; rintro e W2 ⟨rfl, hb2⟩; have hW2 := bt (show Below W1.heap.size W1 _ by repeat (first | (with_reducible exact Below.refl _ _) | (with_reducible refine bdrew ?_) | (with_reducible refine baa ?_ _))) hb2; have hz2 := hW2.size; have kk0 := (hW2.cell (p := ⟨w.heap.size, 0, none⟩) hl0).trans k0; have kk1 := (hW2.cell (p := ⟨w.heap.size, 1, none⟩) hl0).trans k1; have kk2 := (hW2.cell (p := ⟨w.heap.size, 2, none⟩) hl0).trans k2; have kk3 := (hW2.cell (p := ⟨w.heap.size, 3, none⟩) hl0).trans k3; have hm0 : w.heap.size < W2.heap.size := Nat.lt_of_lt_of_le hl0 hz2; obtain ⟨hc2, hf2⟩ := bcell hb2; have nx0 := World.new_ne W2 _ kk0; have nx1 := World.new_ne W2 _ kk1; have nx2 := World.new_ne W2 _ kk2; have nx3 := World.new_ne W2 _ kk3))
    all_goals simp only [Exit.then]
    all_goals refine ‹∀ (a' : Act) (w' : World), Met _ a' w' → _› _ _ ?_
    all_goals go_meet
    · refine ⟨W2.heap.size, rfl, ?_, ?_⟩
      · exact walk_alloc _ _ _ _ _ _ _ _
      · refine AddSt.start t0 t1 t2 t3 hR1 hB1 hT hL ?_ (by omega)
        exact baa hW2 _
    · refine ⟨W1.heap.size, rfl, ?_, ?_⟩
      · have q0 := walk_below (walk_drew (walk_alloc W1 0 0 false 0 0 0 82)) hb2
        exact walk_set5 (walk_set4 (walk_set3 (walk_set2 (walk_set1 (walk_set0 q0 _) _) _) _) _) _
      · refine AddSt.start t0 t1 t2 t3 hR1 hB1 hT hL ?_ (by omega)
        iterate 6 refine bs ?_ (Nat.le_refl _) _
        exact hW2
  case rest =>
    obtain ⟨g, rfl, hP0, hS0⟩ := hcut
    clear k0 k1 k2 k3 t0 t1 t2 t3 r0 r1 r2 r3 rf rs hR1 hB1 hz1 hl0 hl1 hb1
    have hq := hS0
    obtain ⟨s0, s1, s2, s3, hR, hB, hTx, hLx, hg, v1, v2⟩ := hq
    go_wp2_with fail
    by_cases hcase : (D10.dateE y n l d) = 0
    · have he := hcase
      clear hcase
      have hv := (D10.date_valid he).1
      have y1 := hv.1
      have y9 := hv.2.1
      clear hv
      rw [he] at hP0
      refine (walk_years a y n l d 0 ⟨y1, y9⟩ ⟨a1, a2⟩ g _ hP0).mono ?_
      rintro e w1 ⟨rfl, hP1, hU1⟩
      have hS1 := AddSt.but hS0 hU1
      clear s0 s1 s2 s3 hR hB hTx hLx hg v1 v2
      have hq := hS1
      obtain ⟨s0, s1, s2, s3, hR, hB, hTx, hLx, hg, v1, v2⟩ := hq
      go_wp2_with fail
      by_cases hcase : (S15.intoE (y + a) n l 0) = 0
      · have hi := hcase
        clear hcase
        rw [hi] at hP1
        refine (walk_months b (y + a) (A16.n1 y n l a 0) (A16.l1 y n l a 0) d 0 ⟨by omega, by omega⟩ g _ hTx hLx hP1).mono ?_
        rintro e w2 ⟨rfl, hP2, hU2⟩
        have hS2 := AddSt.but hS1 hU2
        clear s0 s1 s2 s3 hR hB hTx hLx hg v1 v2
        have hq := hS2
        obtain ⟨s0, s1, s2, s3, hR, hB, hTx, hLx, hg, v1, v2⟩ := hq
        go_wp2_with fail
        by_cases hcase : (A16.e2 y n l a b 0) = 0
        · have h2 := hcase
          clear hcase
          have hP2' : WalkAt w2 g (A16.y2 y n l a b 0) (A16.n2 y n l a b 0) (A16.l2 y n l a b 0) d 0 (A16.e2 y n l a b 0) := hP2
          rw [h2] at hP2'
          have hyb := (S15.mon_there h2).2
          have yb1 : 1 ≤ (A16.y2 y n l a b 0) := hyb.1
          have yb2 : (A16.y2 y n l a b 0) ≤ 9999 := hyb.2.1
          clear hyb
          refine (walk_fit (A16.y2 y n l a b 0) (A16.n2 y n l a b 0) (A16.l2 y n l a b 0) d 0 ⟨by omega, by omega⟩ g _ hTx hLx hP2').mono ?_
          rintro e w3 ⟨rfl, hP3, hU3⟩
          have hS3 := AddSt.but hS2 hU3
          clear s0 s1 s2 s3 hR hB hTx hLx hg v1 v2
          have hq := hS3
          obtain ⟨s0, s1, s2, s3, hR, hB, hTx, hLx, hg, v1, v2⟩ := hq
          go_wp2_with fail
          by_cases hcase : (A16.e3 y n l d a b 0) = 0
          · have h3 := hcase
            clear hcase
            have hP3' : WalkAt w3 g (A16.y2 y n l a b 0) (A16.n2 y n l a b 0) (A16.l2 y n l a b 0) (A16.d2 y n l d a b 0) 0 (A16.e3 y n l d a b 0) := hP3
            rw [h3] at hP3'
            have hdt := A16.fit_date h3
            by_cases ho : A16.out (A16.day y n l d a b c f 0)
            · have hE : A16.toE y n l d a b c f 0 = 2 := by unfold A16.toE; rw [hmr.out, if_pos rfl, if_pos he, if_pos hi, if_pos h2, if_pos h3, if_pos ho]
              have hne : ¬ (2 : Int) = 0 := by decide
              obtain ⟨rfl, rfl, rfl, rfl, rfl⟩ := hres.out.err hE hne
              refine (walk_days_no (7 * c + f) (A16.y2 y n l a b 0) (A16.n2 y n l a b 0) (A16.l2 y n l a b 0) (A16.d2 y n l d a b 0) 0 ⟨by omega, by omega⟩ hdt ⟨by omega, by omega⟩ ho g _ hTx hLx hP3').mono ?_
              rintro e w4 ⟨rfl, hP4, hU4⟩
              have hS4 := AddSt.but hS3 hU4
              clear s0 s1 s2 s3 hR hB hTx hLx hg v1 v2
              have hq := hS4
              obtain ⟨s0, s1, s2, s3, hR, hB, hTx, hLx, hg, v1, v2⟩ := hq
              have hq := hP4
              obtain ⟨p0, p1, p2, p3, p4, p5, pf, ps⟩ := hq
              obtain ⟨r0, r1, r2, r3, rf, rs⟩ := hR
              go_wp2_with fail
              go_region
              all_goals go_wp2_with fail
              all_goals refine bodyPost_ret (v := .tuple #[.agg #[.int .i64 0, .int .i64 0, .bool false, .int .i64 0], .int .i64 (2)]) (by simp [results, Tryz.results27, go_sem, *]) rfl ⟨rfl, ?_⟩
              all_goals repeat (first | (with_reducible assumption) | (with_reducible refine bdrew ?_) | (with_reducible refine bs ?_ (show w.heap.size ≤ w.heap.size + 1 + 1 by omega) _))
            · have hE : A16.toE y n l d a b c f 0 = 0 := by unfold A16.toE; rw [hmr.out, if_pos rfl, if_pos he, if_pos hi, if_pos h2, if_pos h3, if_neg ho]
              obtain ⟨rfl, rm, hv, hday, rfl, rfl⟩ := hres.out.ok hE
              refine (walk_days_at (7 * c + f) (A16.y2 y n l a b 0) (A16.n2 y n l a b 0) (A16.l2 y n l a b 0) (A16.d2 y n l d a b 0) 0 ⟨by omega, by omega⟩ hdt ⟨by omega, by omega⟩ ry rm rd hv hday g _ hTx hLx hP3').mono ?_
              rintro e w4 ⟨rfl, hP4, hU4⟩
              have hS4 := AddSt.but hS3 hU4
              clear s0 s1 s2 s3 hR hB hTx hLx hg v1 v2
              have hq := hS4
              obtain ⟨s0, s1, s2, s3, hR, hB, hTx, hLx, hg, v1, v2⟩ := hq
              have hq := hP4
              obtain ⟨p0, p1, p2, p3, p4, p5, pf, ps⟩ := hq
              obtain ⟨r0, r1, r2, r3, rf, rs⟩ := hR
              go_wp2_with fail
              refine bodyPost_ret (v := .tuple #[.agg #[.int .i64 ry, .int .i64 (Cal.ofN (Cal.leap ry) rm), .bool (Cal.ofL (Cal.leap ry) rm), .int .i64 rd], .int .i64 0]) (by simp [results, Tryz.results27, go_sem, *]) rfl ⟨rfl, ?_⟩
              iterate 4 refine Below.setCell ?_ (show w.heap.size ≤ w.heap.size + 1 + 1 by omega) _
              exact hB
          · have hne : ¬ (A16.e3 y n l d a b 0) = 0 := hcase
            clear hcase
            obtain ⟨rfl, rfl, rfl, rfl, rfl⟩ := hres.out.err (E := (A16.e3 y n l d a b 0)) (by unfold A16.toE; rw [hmr.out, if_pos rfl, if_pos he, if_pos hi, if_pos h2, if_neg hne]) hne
            have hne2 : ((A16.e3 y n l d a b 0) != 0) = true := by simpa using hne
            refine (walk_days_err (7 * c + f) (A16.y2 y n l a b 0) (A16.n2 y n l a b 0) (A16.l2 y n l a b 0) (A16.d2 y n l d a b 0) 0 (A16.e3 y n l d a b 0) hne g _ hP3).mono ?_
            rintro e w4 ⟨rfl, hP4, hU4⟩
            have hS4 := AddSt.but hS3 hU4
            clear s0 s1 s2 s3 hR hB hTx hLx hg v1 v2
            have hq := hS4
            obtain ⟨s0, s1, s2, s3, hR, hB, hTx, hLx, hg, v1, v2⟩ := hq
            have hq := hP4
            obtain ⟨p0, p1, p2, p3, p4, p5, pf, ps⟩ := hq
            obtain ⟨r0, r1, r2, r3, rf, rs⟩ := hR
            go_wp2_with fail
            go_region
            all_goals go_wp2_with fail
            all_goals refine bodyPost_ret (v := .tuple #[.agg #[.int .i64 0, .int .i64 0, .bool false, .int .i64 0], .int .i64 ((A16.e3 y n l d a b 0))]) (by simp [results, Tryz.results27, go_sem, *]) rfl ⟨rfl, ?_⟩
            all_goals repeat (first | (with_reducible assumption) | (with_reducible refine bdrew ?_) | (with_reducible refine bs ?_ (show w.heap.size ≤ w.heap.size + 1 + 1 by omega) _))
        · have hne : ¬ (A16.e2 y n l a b 0) = 0 := hcase
          clear hcase
          obtain ⟨rfl, rfl, rfl, rfl, rfl⟩ := hres.out.err (E := (A16.e2 y n l a b 0)) (by unfold A16.toE; rw [hmr.out, if_pos rfl, if_pos he, if_pos hi, if_neg hne]) hne
          have hne2 : ((A16.e2 y n l a b 0) != 0) = true := by simpa using hne
          refine (walk_fit_err (A16.y2 y n l a b 0) (A16.n2 y n l a b 0) (A16.l2 y n l a b 0) d 0 (A16.e2 y n l a b 0) hne g _ hP2).mono ?_
          rintro e w3 ⟨rfl, hP3, hU3⟩
          have hS3 := AddSt.but hS2 hU3
          clear s0 s1 s2 s3 hR hB hTx hLx hg v1 v2
          have hq := hS3
          obtain ⟨s0, s1, s2, s3, hR, hB, hTx, hLx, hg, v1, v2⟩ := hq
          go_wp2_with fail
          refine (walk_days_err (7 * c + f) (A16.y2 y n l a b 0) (A16.n2 y n l a b 0) (A16.l2 y n l a b 0) d 0 (A16.e2 y n l a b 0) hne g _ hP3).mono ?_
          rintro e w4 ⟨rfl, hP4, hU4⟩
          have hS4 := AddSt.but hS3 hU4
          clear s0 s1 s2 s3 hR hB hTx hLx hg v1 v2
          have hq := hS4
          obtain ⟨s0, s1, s2, s3, hR, hB, hTx, hLx, hg, v1, v2⟩ := hq
          have hq := hP4
          obtain ⟨p0, p1, p2, p3, p4, p5, pf, ps⟩ := hq
          obtain ⟨r0, r1, r2, r3, rf, rs⟩ := hR
          go_wp2_with fail
          go_region
          all_goals go_wp2_with fail
          all_goals refine bodyPost_ret (v := .tuple #[.agg #[.int .i64 0, .int .i64 0, .bool false, .int .i64 0], .int .i64 ((A16.e2 y n l a b 0))]) (by simp [results, Tryz.results27, go_sem, *]) rfl ⟨rfl, ?_⟩
          all_goals repeat (first | (with_reducible assumption) | (with_reducible refine bdrew ?_) | (with_reducible refine bs ?_ (show w.heap.size ≤ w.heap.size + 1 + 1 by omega) _))
      · have hne : ¬ (S15.intoE (y + a) n l 0) = 0 := hcase
        clear hcase
        obtain ⟨rfl, rfl, rfl, rfl, rfl⟩ := hres.out.err (E := (S15.intoE (y + a) n l 0)) (by unfold A16.toE; rw [hmr.out, if_pos rfl, if_pos he, if_neg hne]) hne
        have hne2 : ((S15.intoE (y + a) n l 0) != 0) = true := by simpa using hne
        refine (walk_months_err b (y + a) (A16.n1 y n l a 0) (A16.l1 y n l a 0) d 0 (S15.intoE (y + a) n l 0) hne g _ hP1).mono ?_
        rintro e w2 ⟨rfl, hP2, hU2⟩
        have hS2 := AddSt.but hS1 hU2
        clear s0 s1 s2 s3 hR hB hTx hLx hg v1 v2
        have hq := hS2
        obtain ⟨s0, s1, s2, s3, hR, hB, hTx, hLx, hg, v1, v2⟩ := hq
        go_wp2_with fail
        refine (walk_fit_err (y + a) (A16.n1 y n l a 0) (A16.l1 y n l a 0) d 0 (S15.intoE (y + a) n l 0) hne g _ hP2).mono ?_
        rintro e w3 ⟨rfl, hP3, hU3⟩
        have hS3 := AddSt.but hS2 hU3
        clear s0 s1 s2 s3 hR hB hTx hLx hg v1 v2
        have hq := hS3
        obtain ⟨s0, s1, s2, s3, hR, hB, hTx, hLx, hg, v1, v2⟩ := hq
        go_wp2_with fail
        refine (walk_days_err (7 * c + f) (y + a) (A16.n1 y n l a 0) (A16.l1 y n l a 0) d 0 (S15.intoE (y + a) n l 0) hne g _ hP3).mono ?_
        rintro e w4 ⟨rfl, hP4, hU4⟩
        have hS4 := AddSt.but hS3 hU4
        clear s0 s1 s2 s3 hR hB hTx hLx hg v1 v2
        have hq := hS4
        obtain ⟨s0, s1, s2, s3, hR, hB, hTx, hLx, hg, v1, v2⟩ := hq
        have hq := hP4
        obtain ⟨p0, p1, p2, p3, p4, p5, pf, ps⟩ := hq
        obtain ⟨r0, r1, r2, r3, rf, rs⟩ := hR
        go_wp2_with fail
        go_region
        all_goals go_wp2_with fail
        all_goals refine bodyPost_ret (v := .tuple #[.agg #[.int .i64 0, .int .i64 0, .bool false, .int .i64 0], .int .i64 ((S15.intoE (y + a) n l 0))]) (by simp [results, Tryz.results27, go_sem, *]) rfl ⟨rfl, ?_⟩
        all_goals repeat (first | (with_reducible assumption) | (with_reducible refine bdrew ?_) | (with_reducible refine bs ?_ (show w.heap.size ≤ w.heap.size + 1 + 1 by omega) _))
    · have hne : ¬ (D10.dateE y n l d) = 0 := hcase
      clear hcase
      obtain ⟨rfl, rfl, rfl, rfl, rfl⟩ := hres.out.err (E := (D10.dateE y n l d)) (by unfold A16.toE; rw [hmr.out, if_pos rfl, if_neg hne]) hne
      have hne2 : ((D10.dateE y n l d) != 0) = true := by simpa using hne
      refine (walk_years_err a y n l d 0 (D10.dateE y n l d) hne g _ hP0).mono ?_
      rintro e w1 ⟨rfl, hP1, hU1⟩
      have hS1 := AddSt.but hS0 hU1
      clear s0 s1 s2 s3 hR hB hTx hLx hg v1 v2
      have hq := hS1
      obtain ⟨s0, s1, s2, s3, hR, hB, hTx, hLx, hg, v1, v2⟩ := hq
      go_wp2_with fail
      refine (walk_months_err b y n l d 0 (D10.dateE y n l d) hne g _ hP1).mono ?_
      rintro e w2 ⟨rfl, hP2, hU2⟩
      have hS2 := AddSt.but hS1 hU2
      clear s0 s1 s2 s3 hR hB hTx hLx hg v1 v2
      have hq := hS2
      obtain ⟨s0, s1, s2, s3, hR, hB, hTx, hLx, hg, v1, v2⟩ := hq
      go_wp2_with fail
      refine (walk_fit_err y n l d 0 (D10.dateE y n l d) hne g _ hP2).mono ?_
      rintro e w3 ⟨rfl, hP3, hU3⟩
      have hS3 := AddSt.but hS2 hU3
      clear s0 s1 s2 s3 hR hB hTx hLx hg v1 v2
      have hq := hS3
      obtain ⟨s0, s1, s2, s3, hR, hB, hTx, hLx, hg, v1, v2⟩ := hq
      go_wp2_with fail
      refine (walk_days_err (7 * c + f) y n l d 0 (D10.dateE y n l d) hne g _ hP3).mono ?_
      rintro e w4 ⟨rfl, hP4, hU4⟩
      have hS4 := AddSt.but hS3 hU4
      clear s0 s1 s2 s3 hR hB hTx hLx hg v1 v2
      have hq := hS4
      obtain ⟨s0, s1, s2, s3, hR, hB, hTx, hLx, hg, v1, v2⟩ := hq
      have hq := hP4
      obtain ⟨p0, p1, p2, p3, p4, p5, pf, ps⟩ := hq
      obtain ⟨r0, r1, r2, r3, rf, rs⟩ := hR
      go_wp2_with fail
      go_region
      all_goals go_wp2_with fail
      all_goals refine bodyPost_ret (v := .tuple #[.agg #[.int .i64 0, .int .i64 0, .bool false, .int .i64 0], .int .i64 ((D10.dateE y n l d))]) (by simp [results, Tryz.results27, go_sem, *]) rfl ⟨rfl, ?_⟩
      all_goals repeat (first | (with_reducible assumption) | (with_reducible refine bdrew ?_) | (with_reducible refine bs ?_ (show w.heap.size ≤ w.heap.size + 1 + 1 by omega) _))
set_option maxHeartbeats 40000000 in
theorem add_To_m1 (y n : Int) (l : Bool) (d a b c f : Int) (w : World) (hy : I64 y) (hT : Tab w 8 kevCells) (hL : Tab w 6 lenCells) (ry rn : Int) (rl : Bool) (rd er : Int) (hr : A16.right a b c f = true) (hres : Hid (A16.ToIs y n l d a b c f 1 ry rn rl rd er)) :
    Calls Tryz.prog 27 #[.agg #[.int .i64 y, .int .i64 n, .bool l, .int .i64 d], .agg #[.int .i64 a, .int .i64 b, .int .i64 c, .int .i64 f], .int .i64 1] w fun e w' => e = .returned (.tuple #[.agg #[.int .i64 ry, .int .i64 rn, .bool rl, .int .i64 rd], .int .i64 er]) ∧ Below w.heap.size w w' := by
  have HRt := Lib.hid (fun w => (hr ▸ add_Right a b c f w : Calls Tryz.prog 30 #[.agg #[.int .i64 a, .int .i64 b, .int .i64 c, .int .i64 f]] w fun e w' => e = .returned (.bool true) ∧ Below w.heap.size w w'))
  obtain ⟨⟨a1, a2⟩, ⟨b1, b2⟩, ⟨x1, x2⟩, ⟨f1, f2⟩⟩ := A16.right_in hr
  have HC := Lib.hid (fun w hT hL => heb_Check y n l d w hy hT hL)
  have hmr := Lib.hid (show (A16.right a b c f && S15.mode 1) = true by rw [hr]; rfl)
  clear hr
  have hw1 := hT.lt
  have hw2 := hL.lt
  go_enter Tryz.func27, Tryz.ntmps27
  go_wp2_with fail
  refine settleC (fun W => W.cell? ⟨w.heap.size, 0, none⟩ = some (.int .i64 y) ∧ W.cell? ⟨w.heap.size, 1, none⟩ = some (.int .i64 n) ∧ W.cell? ⟨w.heap.size, 2, none⟩ = some (.bool l) ∧ W.cell? ⟨w.heap.size, 3, none⟩ = some (.int .i64 d) ∧ W.cell? ⟨w.heap.size + 1, 0, none⟩ = some (.int .i64 a) ∧ W.cell? ⟨w.heap.size + 1, 1, none⟩ = some (.int .i64 b) ∧ W.cell? ⟨w.heap.size + 1, 2, none⟩ = some (.int .i64 c) ∧ W.cell? ⟨w.heap.size + 1, 3, none⟩ = some (.int .i64 f) ∧ ResAt W (w.heap.size + 1 + 1) ∧ Below w.heap.size w W) ⟨by simp [go_sem], by simp [go_sem], by simp [go_sem], by simp [go_sem], by simp [go_sem], by simp [go_sem], by simp [go_sem], by simp [go_sem], ⟨by simp [go_sem], by simp [go_sem], by simp [go_sem], by simp [go_sem], fun i => by simp [go_sem], by simp⟩, baa (baa (ba _ _) _) _⟩ ?_
  rintro W0 ⟨c0, c1, c2, c3, s0, s1, s2, s3, hR0, hB0⟩
  have hz0 := hR0.2.2.2.2.2
  refine (HRt.out _).mono ?_
  rintro e W1 ⟨rfl, hb1⟩
  have hR1 := ResAt.below hR0 hb1
  have hB1 := bt hB0 hb1
  have hz1 := hR1.2.2.2.2.2
  have k0 := (hb1.cell (p := ⟨w.heap.size, 0, none⟩) (show w.heap.size < W0.heap.size by omega)).trans c0
  have t0 := (hb1.cell (p := ⟨w.heap.size + 1, 0, none⟩) (show w.heap.size + 1 < W0.heap.size by omega)).trans s0
  have k1 := (hb1.cell (p := ⟨w.heap.size, 1, none⟩) (show w.heap.size < W0.heap.size by omega)).trans c1
  have t1 := (hb1.cell (p := ⟨w.heap.size + 1, 1, none⟩) (show w.heap.size + 1 < W0.heap.size by omega)).trans s1
  have k2 := (hb1.cell (p := ⟨w.heap.size, 2, none⟩) (show w.heap.size < W0.heap.size by omega)).trans c2
  have t2 := (hb1.cell (p := ⟨w.heap.size + 1, 2, none⟩) (show w.heap.size + 1 < W0.heap.size by omega)).trans s2
  have k3 := (hb1.cell (p := ⟨w.heap.size, 3, none⟩) (show w.heap.size < W0.heap.size by omega)).trans c3
  have t3 := (hb1.cell (p := ⟨w.heap.size + 1, 3, none⟩) (show w.heap.size + 1 < W0.heap.size by omega)).trans s3
  clear c0 c1 c2 c3 s0 s1 s2 s3 hz0
  have hl0 : w.heap.size < W1.heap.size := by omega
  have hl1 : w.heap.size + 1 < W1.heap.size := by omega
  have hq := hR1
  obtain ⟨r0, r1, r2, r3, rf, rs⟩ := hq
  go_wp2_with fail
  go_cut [8] from 21 (fun v wx => ∃ g : Nat, v = .pointer (some ⟨g, 0, none⟩) ∧ WalkAt wx g y n l d 1 (D10.dateE y n l d) ∧ AddSt w wx g a b c f)
  case first =>
    have nn0 := World.new_ne W1 _ k0
    have nn1 := World.new_ne W1 _ k1
    have nn2 := World.new_ne W1 _ k2
    have nn3 := World.new_ne W1 _ k3
    go_region_held3 (fun x => x.cell? ⟨w.heap.size, 0, none⟩ = some (.int .i64 y) ∧ x.cell? ⟨w.heap.size, 1, none⟩ = some (.int .i64 n) ∧ x.cell? ⟨w.heap.size, 2, none⟩ = some (.bool l) ∧ x.cell? ⟨w.heap.size, 3, none⟩ = some (.int .i64 d)) (first | exact ⟨by with_reducible assumption, by with_reducible assumption, by with_reducible assumption, by with_reducible assumption⟩ | go_keep) (first | (go_at_call 38; refine (HC.out _ (Tab.below hT (by repeat (first | (with_reducible assumption) | (with_reducible exact Below.refl _ _) | (with_reducible refine bdrew ?_) | (with_reducible refine baa ?_ _)))) (Tab.below hL (by repeat (first | (with_reducible assumption) | (with_reducible exact Below.refl _ _) | (with_reducible refine bdrew ?_) | (with_reducible refine baa ?_ _))))).mono ?_; rintro e W2 ⟨rfl, hb2⟩; have hW2 := bt (show Below W1.heap.size W1 _ by repeat (first | (with_reducible exact Below.refl _ _) | (with_reducible refine bdrew ?_) | (with_reducible refine baa ?_ _))) hb2; have hz2 := hW2.size; have kk0 := (hW2.cell (p := ⟨w.heap.size, 0, none⟩) hl0).trans k0; have kk1 := (hW2.cell (p := ⟨w.heap.size, 1, none⟩) hl0).trans k1; have kk2 := (hW2.cell (p := ⟨w.heap.size, 2, none⟩) hl0).trans k2; have kk3 := (hW2.cell (p := ⟨w.heap.size, 3, none⟩) hl0).trans k3; have hm0 : w.heap.size < W2.heap.size := Nat.lt_of_lt_of_le hl0 hz2; obtain ⟨hc2, hf2⟩ := bcell hb2; have nx0 := World.new_ne W2 _ kk0; have nx1 := World.new_ne W2 _ kk1; have nx2 := World.new_ne W2 _ kk2; have nx3 := World.new_ne W2 _ kk3))
    all_goals simp only [Exit.then]
    all_goals refine ‹∀ (a' : Act) (w' : World), Met _ a' w' → _› _ _ ?_
    all_goals go_meet
    · refine ⟨W2.heap.size, rfl, ?_, ?_⟩
      · exact walk_alloc _ _ _ _ _ _ _ _
      · refine AddSt.start t0 t1 t2 t3 hR1 hB1 hT hL ?_ (by omega)
        exact baa hW2 _
    · refine ⟨W1.heap.size, rfl, ?_, ?_⟩
      · have q0 := walk_below (walk_drew (walk_alloc W1 0 0 false 0 0 0 82)) hb2
        exact walk_set5 (walk_set4 (walk_set3 (walk_set2 (walk_set1 (walk_set0 q0 _) _) _) _) _) _
      · refine AddSt.start t0 t1 t2 t3 hR1 hB1 hT hL ?_ (by omega)
        iterate 6 refine bs ?_ (Nat.le_refl _) _
        exact hW2
  case rest =>
    obtain ⟨g, rfl, hP0, hS0⟩ := hcut
    clear k0 k1 k2 k3 t0 t1 t2 t3 r0 r1 r2 r3 rf rs hR1 hB1 hz1 hl0 hl1 hb1
    have hq := hS0
    obtain ⟨s0, s1, s2, s3, hR, hB, hTx, hLx, hg, v1, v2⟩ := hq
    go_wp2_with fail
    by_cases hcase : (D10.dateE y n l d) = 0
    · have he := hcase
      clear hcase
      have hv := (D10.date_valid he).1
      have y1 := hv.1
      have y9 := hv.2.1
      clear hv
      rw [he] at hP0
      refine (walk_years a y n l d 1 ⟨y1, y9⟩ ⟨a1, a2⟩ g _ hP0).mono ?_
      rintro e w1 ⟨rfl, hP1, hU1⟩
      have hS1 := AddSt.but hS0 hU1
      clear s0 s1 s2 s3 hR hB hTx hLx hg v1 v2
      have hq := hS1
      obtain ⟨s0, s1, s2, s3, hR, hB, hTx, hLx, hg, v1, v2⟩ := hq
      go_wp2_with fail
      by_cases hcase : (S15.intoE (y + a) n l 1) = 0
      · have hi := hcase
        clear hcase
        rw [hi] at hP1
        refine (walk_months b (y + a) (A16.n1 y n l a 1) (A16.l1 y n l a 1) d 1 ⟨by omega, by omega⟩ g _ hTx hLx hP1).mono ?_
        rintro e w2 ⟨rfl, hP2, hU2⟩
        have hS2 := AddSt.but hS1 hU2
        clear s0 s1 s2 s3 hR hB hTx hLx hg v1 v2
        have hq := hS2
        obtain ⟨s0, s1, s2, s3, hR, hB, hTx, hLx, hg, v1, v2⟩ := hq
        go_wp2_with fail
        by_cases hcase : (A16.e2 y n l a b 1) = 0
        · have h2 := hcase
          clear hcase
          have hP2' : WalkAt w2 g (A16.y2 y n l a b 1) (A16.n2 y n l a b 1) (A16.l2 y n l a b 1) d 1 (A16.e2 y n l a b 1) := hP2
          rw [h2] at hP2'
          have hyb := (S15.mon_there h2).2
          have yb1 : 1 ≤ (A16.y2 y n l a b 1) := hyb.1
          have yb2 : (A16.y2 y n l a b 1) ≤ 9999 := hyb.2.1
          clear hyb
          refine (walk_fit (A16.y2 y n l a b 1) (A16.n2 y n l a b 1) (A16.l2 y n l a b 1) d 1 ⟨by omega, by omega⟩ g _ hTx hLx hP2').mono ?_
          rintro e w3 ⟨rfl, hP3, hU3⟩
          have hS3 := AddSt.but hS2 hU3
          clear s0 s1 s2 s3 hR hB hTx hLx hg v1 v2
          have hq := hS3
          obtain ⟨s0, s1, s2, s3, hR, hB, hTx, hLx, hg, v1, v2⟩ := hq
          go_wp2_with fail
          by_cases hcase : (A16.e3 y n l d a b 1) = 0
          · have h3 := hcase
            clear hcase
            have hP3' : WalkAt w3 g (A16.y2 y n l a b 1) (A16.n2 y n l a b 1) (A16.l2 y n l a b 1) (A16.d2 y n l d a b 1) 1 (A16.e3 y n l d a b 1) := hP3
            rw [h3] at hP3'
            have hdt := A16.fit_date h3
            by_cases ho : A16.out (A16.day y n l d a b c f 1)
            · have hE : A16.toE y n l d a b c f 1 = 2 := by unfold A16.toE; rw [hmr.out, if_pos rfl, if_pos he, if_pos hi, if_pos h2, if_pos h3, if_pos ho]
              have hne : ¬ (2 : Int) = 0 := by decide
              obtain ⟨rfl, rfl, rfl, rfl, rfl⟩ := hres.out.err hE hne
              refine (walk_days_no (7 * c + f) (A16.y2 y n l a b 1) (A16.n2 y n l a b 1) (A16.l2 y n l a b 1) (A16.d2 y n l d a b 1) 1 ⟨by omega, by omega⟩ hdt ⟨by omega, by omega⟩ ho g _ hTx hLx hP3').mono ?_
              rintro e w4 ⟨rfl, hP4, hU4⟩
              have hS4 := AddSt.but hS3 hU4
              clear s0 s1 s2 s3 hR hB hTx hLx hg v1 v2
              have hq := hS4
              obtain ⟨s0, s1, s2, s3, hR, hB, hTx, hLx, hg, v1, v2⟩ := hq
              have hq := hP4
              obtain ⟨p0, p1, p2, p3, p4, p5, pf, ps⟩ := hq
              obtain ⟨r0, r1, r2, r3, rf, rs⟩ := hR
              go_wp2_with fail
              go_region
              all_goals go_wp2_with fail
              all_goals refine bodyPost_ret (v := .tuple #[.agg #[.int .i64 0, .int .i64 0, .bool false, .int .i64 0], .int .i64 (2)]) (by simp [results, Tryz.results27, go_sem, *]) rfl ⟨rfl, ?_⟩
              all_goals repeat (first | (with_reducible assumption) | (with_reducible refine bdrew ?_) | (with_reducible refine bs ?_ (show w.heap.size ≤ w.heap.size + 1 + 1 by omega) _))
            · have hE : A16.toE y n l d a b c f 1 = 0 := by unfold A16.toE; rw [hmr.out, if_pos rfl, if_pos he, if_pos hi, if_pos h2, if_pos h3, if_neg ho]
              obtain ⟨rfl, rm, hv, hday, rfl, rfl⟩ := hres.out.ok hE
              refine (walk_days_at (7 * c + f) (A16.y2 y n l a b 1) (A16.n2 y n l a b 1) (A16.l2 y n l a b 1) (A16.d2 y n l d a b 1) 1 ⟨by omega, by omega⟩ hdt ⟨by omega, by omega⟩ ry rm rd hv hday g _ hTx hLx hP3').mono ?_
              rintro e w4 ⟨rfl, hP4, hU4⟩
              have hS4 := AddSt.but hS3 hU4
              clear s0 s1 s2 s3 hR hB hTx hLx hg v1 v2
              have hq := hS4
              obtain ⟨s0, s1, s2, s3, hR, hB, hTx, hLx, hg, v1, v2⟩ := hq
              have hq := hP4
              obtain ⟨p0, p1, p2, p3, p4, p5, pf, ps⟩ := hq
              obtain ⟨r0, r1, r2, r3, rf, rs⟩ := hR
              go_wp2_with fail
              refine bodyPost_ret (v := .tuple #[.agg #[.int .i64 ry, .int .i64 (Cal.ofN (Cal.leap ry) rm), .bool (Cal.ofL (Cal.leap ry) rm), .int .i64 rd], .int .i64 0]) (by simp [results, Tryz.results27, go_sem, *]) rfl ⟨rfl, ?_⟩
              iterate 4 refine Below.setCell ?_ (show w.heap.size ≤ w.heap.size + 1 + 1 by omega) _
              exact hB
          · have hne : ¬ (A16.e3 y n l d a b 1) = 0 := hcase
            clear hcase
            obtain ⟨rfl, rfl, rfl, rfl, rfl⟩ := hres.out.err (E := (A16.e3 y n l d a b 1)) (by unfold A16.toE; rw [hmr.out, if_pos rfl, if_pos he, if_pos hi, if_pos h2, if_neg hne]) hne
            have hne2 : ((A16.e3 y n l d a b 1) != 0) = true := by simpa using hne
            refine (walk_days_err (7 * c + f) (A16.y2 y n l a b 1) (A16.n2 y n l a b 1) (A16.l2 y n l a b 1) (A16.d2 y n l d a b 1) 1 (A16.e3 y n l d a b 1) hne g _ hP3).mono ?_
            rintro e w4 ⟨rfl, hP4, hU4⟩
            have hS4 := AddSt.but hS3 hU4
            clear s0 s1 s2 s3 hR hB hTx hLx hg v1 v2
            have hq := hS4
            obtain ⟨s0, s1, s2, s3, hR, hB, hTx, hLx, hg, v1, v2⟩ := hq
            have hq := hP4
            obtain ⟨p0, p1, p2, p3, p4, p5, pf, ps⟩ := hq
            obtain ⟨r0, r1, r2, r3, rf, rs⟩ := hR
            go_wp2_with fail
            go_region
            all_goals go_wp2_with fail
            all_goals refine bodyPost_ret (v := .tuple #[.agg #[.int .i64 0, .int .i64 0, .bool false, .int .i64 0], .int .i64 ((A16.e3 y n l d a b 1))]) (by simp [results, Tryz.results27, go_sem, *]) rfl ⟨rfl, ?_⟩
            all_goals repeat (first | (with_reducible assumption) | (with_reducible refine bdrew ?_) | (with_reducible refine bs ?_ (show w.heap.size ≤ w.heap.size + 1 + 1 by omega) _))
        · have hne : ¬ (A16.e2 y n l a b 1) = 0 := hcase
          clear hcase
          obtain ⟨rfl, rfl, rfl, rfl, rfl⟩ := hres.out.err (E := (A16.e2 y n l a b 1)) (by unfold A16.toE; rw [hmr.out, if_pos rfl, if_pos he, if_pos hi, if_neg hne]) hne
          have hne2 : ((A16.e2 y n l a b 1) != 0) = true := by simpa using hne
          refine (walk_fit_err (A16.y2 y n l a b 1) (A16.n2 y n l a b 1) (A16.l2 y n l a b 1) d 1 (A16.e2 y n l a b 1) hne g _ hP2).mono ?_
          rintro e w3 ⟨rfl, hP3, hU3⟩
          have hS3 := AddSt.but hS2 hU3
          clear s0 s1 s2 s3 hR hB hTx hLx hg v1 v2
          have hq := hS3
          obtain ⟨s0, s1, s2, s3, hR, hB, hTx, hLx, hg, v1, v2⟩ := hq
          go_wp2_with fail
          refine (walk_days_err (7 * c + f) (A16.y2 y n l a b 1) (A16.n2 y n l a b 1) (A16.l2 y n l a b 1) d 1 (A16.e2 y n l a b 1) hne g _ hP3).mono ?_
          rintro e w4 ⟨rfl, hP4, hU4⟩
          have hS4 := AddSt.but hS3 hU4
          clear s0 s1 s2 s3 hR hB hTx hLx hg v1 v2
          have hq := hS4
          obtain ⟨s0, s1, s2, s3, hR, hB, hTx, hLx, hg, v1, v2⟩ := hq
          have hq := hP4
          obtain ⟨p0, p1, p2, p3, p4, p5, pf, ps⟩ := hq
          obtain ⟨r0, r1, r2, r3, rf, rs⟩ := hR
          go_wp2_with fail
          go_region
          all_goals go_wp2_with fail
          all_goals refine bodyPost_ret (v := .tuple #[.agg #[.int .i64 0, .int .i64 0, .bool false, .int .i64 0], .int .i64 ((A16.e2 y n l a b 1))]) (by simp [results, Tryz.results27, go_sem, *]) rfl ⟨rfl, ?_⟩
          all_goals repeat (first | (with_reducible assumption) | (with_reducible refine bdrew ?_) | (with_reducible refine bs ?_ (show w.heap.size ≤ w.heap.size + 1 + 1 by omega) _))
      · have hne : ¬ (S15.intoE (y + a) n l 1) = 0 := hcase
        clear hcase
        obtain ⟨rfl, rfl, rfl, rfl, rfl⟩ := hres.out.err (E := (S15.intoE (y + a) n l 1)) (by unfold A16.toE; rw [hmr.out, if_pos rfl, if_pos he, if_neg hne]) hne
        have hne2 : ((S15.intoE (y + a) n l 1) != 0) = true := by simpa using hne
        refine (walk_months_err b (y + a) (A16.n1 y n l a 1) (A16.l1 y n l a 1) d 1 (S15.intoE (y + a) n l 1) hne g _ hP1).mono ?_
        rintro e w2 ⟨rfl, hP2, hU2⟩
        have hS2 := AddSt.but hS1 hU2
        clear s0 s1 s2 s3 hR hB hTx hLx hg v1 v2
        have hq := hS2
        obtain ⟨s0, s1, s2, s3, hR, hB, hTx, hLx, hg, v1, v2⟩ := hq
        go_wp2_with fail
        refine (walk_fit_err (y + a) (A16.n1 y n l a 1) (A16.l1 y n l a 1) d 1 (S15.intoE (y + a) n l 1) hne g _ hP2).mono ?_
        rintro e w3 ⟨rfl, hP3, hU3⟩
        have hS3 := AddSt.but hS2 hU3
        clear s0 s1 s2 s3 hR hB hTx hLx hg v1 v2
        have hq := hS3
        obtain ⟨s0, s1, s2, s3, hR, hB, hTx, hLx, hg, v1, v2⟩ := hq
        go_wp2_with fail
        refine (walk_days_err (7 * c + f) (y + a) (A16.n1 y n l a 1) (A16.l1 y n l a 1) d 1 (S15.intoE (y + a) n l 1) hne g _ hP3).mono ?_
        rintro e w4 ⟨rfl, hP4, hU4⟩
        have hS4 := AddSt.but hS3 hU4
        clear s0 s1 s2 s3 hR hB hTx hLx hg v1 v2
        have hq := hS4
        obtain ⟨s0, s1, s2, s3, hR, hB, hTx, hLx, hg, v1, v2⟩ := hq
        have hq := hP4
        obtain ⟨p0, p1, p2, p3, p4, p5, pf, ps⟩ := hq
        obtain ⟨r0, r1, r2, r3, rf, rs⟩ := hR
        go_wp2_with fail
        go_region
        all_goals go_wp2_with fail
        all_goals refine bodyPost_ret (v := .tuple #[.agg #[.int .i64 0, .int .i64 0, .bool false, .int .i64 0], .int .i64 ((S15.intoE (y + a) n l 1))]) (by simp [results, Tryz.results27, go_sem, *]) rfl ⟨rfl, ?_⟩
        all_goals repeat (first | (with_reducible assumption) | (with_reducible refine bdrew ?_) | (with_reducible refine bs ?_ (show w.heap.size ≤ w.heap.size + 1 + 1 by omega) _))
    · have hne : ¬ (D10.dateE y n l d) = 0 := hcase
      clear hcase
      obtain ⟨rfl, rfl, rfl, rfl, rfl⟩ := hres.out.err (E := (D10.dateE y n l d)) (by unfold A16.toE; rw [hmr.out, if_pos rfl, if_neg hne]) hne
      have hne2 : ((D10.dateE y n l d) != 0) = true := by simpa using hne
      refine (walk_years_err a y n l d 1 (D10.dateE y n l d) hne g _ hP0).mono ?_
      rintro e w1 ⟨rfl, hP1, hU1⟩
      have hS1 := AddSt.but hS0 hU1
      clear s0 s1 s2 s3 hR hB hTx hLx hg v1 v2
      have hq := hS1
      obtain ⟨s0, s1, s2, s3, hR, hB, hTx, hLx, hg, v1, v2⟩ := hq
      go_wp2_with fail
      refine (walk_months_err b y n l d 1 (D10.dateE y n l d) hne g _ hP1).mono ?_
      rintro e w2 ⟨rfl, hP2, hU2⟩
      have hS2 := AddSt.but hS1 hU2
      clear s0 s1 s2 s3 hR hB hTx hLx hg v1 v2
      have hq := hS2
      obtain ⟨s0, s1, s2, s3, hR, hB, hTx, hLx, hg, v1, v2⟩ := hq
      go_wp2_with fail
      refine (walk_fit_err y n l d 1 (D10.dateE y n l d) hne g _ hP2).mono ?_
      rintro e w3 ⟨rfl, hP3, hU3⟩
      have hS3 := AddSt.but hS2 hU3
      clear s0 s1 s2 s3 hR hB hTx hLx hg v1 v2
      have hq := hS3
      obtain ⟨s0, s1, s2, s3, hR, hB, hTx, hLx, hg, v1, v2⟩ := hq
      go_wp2_with fail
      refine (walk_days_err (7 * c + f) y n l d 1 (D10.dateE y n l d) hne g _ hP3).mono ?_
      rintro e w4 ⟨rfl, hP4, hU4⟩
      have hS4 := AddSt.but hS3 hU4
      clear s0 s1 s2 s3 hR hB hTx hLx hg v1 v2
      have hq := hS4
      obtain ⟨s0, s1, s2, s3, hR, hB, hTx, hLx, hg, v1, v2⟩ := hq
      have hq := hP4
      obtain ⟨p0, p1, p2, p3, p4, p5, pf, ps⟩ := hq
      obtain ⟨r0, r1, r2, r3, rf, rs⟩ := hR
      go_wp2_with fail
      go_region
      all_goals go_wp2_with fail
      all_goals refine bodyPost_ret (v := .tuple #[.agg #[.int .i64 0, .int .i64 0, .bool false, .int .i64 0], .int .i64 ((D10.dateE y n l d))]) (by simp [results, Tryz.results27, go_sem, *]) rfl ⟨rfl, ?_⟩
      all_goals repeat (first | (with_reducible assumption) | (with_reducible refine bdrew ?_) | (with_reducible refine bs ?_ (show w.heap.size ≤ w.heap.size + 1 + 1 by omega) _))
end Go.Proofs.YtafenpgafmdenaaGreatDoor
