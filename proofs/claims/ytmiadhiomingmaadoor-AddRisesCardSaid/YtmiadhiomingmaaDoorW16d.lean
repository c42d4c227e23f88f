/- Layer 16: AddRises. -/
import Derived.Test.YtmiadhiomingmaaDoorW16b
import Derived.RegionTactic
import Derived.Deep.RegionHeld3
namespace Go.Proofs.YtmiadhiomingmaaDoor
open Go.ChangeShapes Go.WideShapes Go.ChangeAt Go.RowKit
set_option linter.unusedVariables false
set_option maxRecDepth 100000
theorem set2_other (X : World) (g h : Nat) (u v : Value) {k i : Nat} (h1 : k ≠ g) (h2 : k ≠ h) : ((X.setCell ⟨g, 0, none⟩ u).setCell ⟨h, 1, none⟩ v).cell? ⟨k, i, none⟩ = X.cell? ⟨k, i, none⟩ := by
  rw [World.cell?_setCell_other _ _ _ _ (fun e => h2 (by have := congrArg Addr.block e; first | exact this | exact this.symm)), World.cell?_setCell_other _ _ _ _ (fun e => h1 (by have := congrArg Addr.block e; first | exact this | exact this.symm))]
theorem set2_g (X : World) (g h : Nat) (u v : Value) {i : Nat} (h1 : g ≠ h) (h2 : i ≠ 0) : ((X.setCell ⟨g, 0, none⟩ u).setCell ⟨h, 1, none⟩ v).cell? ⟨g, i, none⟩ = X.cell? ⟨g, i, none⟩ := by
  rw [World.cell?_setCell_other _ _ _ _ (fun e => h1 (by have := congrArg Addr.block e; first | exact this | exact this.symm)), World.cell?_setCell_other _ _ _ _ (fun e => h2 (by have := congrArg Addr.off e; first | exact this | exact this.symm))]
theorem set2_g0 (X : World) (g h : Nat) (u v : Value) {z : Value} (h1 : g ≠ h) (h2 : X.cell? ⟨g, 0, none⟩ = some z) : ((X.setCell ⟨g, 0, none⟩ u).setCell ⟨h, 1, none⟩ v).cell? ⟨g, 0, none⟩ = some u := by
  rw [World.cell?_setCell_other _ _ _ _ (fun e => h1 (by have := congrArg Addr.block e; first | exact this | exact this.symm))]
  exact World.cell?_setCell_same _ _ _ h2
theorem set2_h (X : World) (g h : Nat) (u v : Value) {i : Nat} (h1 : g ≠ h) (h2 : i ≠ 1) : ((X.setCell ⟨g, 0, none⟩ u).setCell ⟨h, 1, none⟩ v).cell? ⟨h, i, none⟩ = X.cell? ⟨h, i, none⟩ := by
  rw [World.cell?_setCell_other _ _ _ _ (fun e => h2 (by have := congrArg Addr.off e; first | exact this | exact this.symm)), World.cell?_setCell_other _ _ _ _ (fun e => h1 (by have := congrArg Addr.block e; first | exact this | exact this.symm))]
theorem set2_h1 (X : World) (g h : Nat) (u v : Value) {z : Value} (h1 : g ≠ h) (h2 : X.cell? ⟨h, 1, none⟩ = some z) : ((X.setCell ⟨g, 0, none⟩ u).setCell ⟨h, 1, none⟩ v).cell? ⟨h, 1, none⟩ = some v :=
  World.cell?_setCell_same _ _ _ ((World.cell?_setCell_other _ _ _ _ (fun e => h1 (by have := congrArg Addr.block e; first | exact this | exact this.symm))).trans h2)
set_option maxHeartbeats 12000000 in
theorem AddRises_go (y n : Int) (l : Bool) (d p q k : Int) (hp : -32768 ≤ p ∧ p ≤ 32767) (hq : -32768 ≤ q ∧ q ≤ 32767) (hk : 0 ≤ k ∧ k ≤ 255) (ry rn : Int) (rl : Bool) (rd er sy sn : Int) (sl : Bool) (sd es ty tn : Int) (tl : Bool) (td et : Int) (b1 b2 : Bool) (w : World) (hT : Tab w 8 kevCells) (hL : Tab w 5 lenCells) (HA : Hid (∀ w : World, Tab w 8 kevCells → Tab w 5 lenCells → Calls Tryd.prog 21 #[.agg #[.int .i64 (y), .int .i64 (n), .bool (l), .int .i64 (d)], .agg #[.int .i64 (p), .int .i64 (q), .int .i64 (0), .int .i64 (0)], .int .i64 0] w fun e w' => e = .returned (.tuple #[.agg #[.int .i64 (ry), .int .i64 (rn), .bool (rl), .int .i64 (rd)], .int .i64 (er)]) ∧ Below w.heap.size w w')) (HB : Hid (∀ w : World, Tab w 8 kevCells → Tab w 5 lenCells → Calls Tryd.prog 21 #[.agg #[.int .i64 (y), .int .i64 (n), .bool (l), .int .i64 (d)], .agg #[.int .i64 (p + 1 + k), .int .i64 (q), .int .i64 (0), .int .i64 (0)], .int .i64 0] w fun e w' => e = .returned (.tuple #[.agg #[.int .i64 (sy), .int .i64 (sn), .bool (sl), .int .i64 (sd)], .int .i64 (es)]) ∧ Below w.heap.size w w')) (HC : Hid (∀ w : World, Tab w 8 kevCells → Tab w 5 lenCells → Calls Tryd.prog 21 #[.agg #[.int .i64 (y), .int .i64 (n), .bool (l), .int .i64 (d)], .agg #[.int .i64 (p), .int .i64 (q + 1 + k), .int .i64 (0), .int .i64 (0)], .int .i64 0] w fun e w' => e = .returned (.tuple #[.agg #[.int .i64 (ty), .int .i64 (tn), .bool (tl), .int .i64 (td)], .int .i64 (et)]) ∧ Below w.heap.size w w')) (H1 : Hid (∀ w : World, Calls Tryd.prog 14 #[.agg #[.int .i64 (ry), .int .i64 (rn), .bool (rl), .int .i64 (rd)], .agg #[.int .i64 (sy), .int .i64 (sn), .bool (sl), .int .i64 (sd)]] w fun e w' => e = .returned (.bool b1) ∧ Below w.heap.size w w')) (H2 : Hid (∀ w : World, Calls Tryd.prog 14 #[.agg #[.int .i64 (ry), .int .i64 (rn), .bool (rl), .int .i64 (rd)], .agg #[.int .i64 (ty), .int .i64 (tn), .bool (tl), .int .i64 (td)]] w fun e w' => e = .returned (.bool b2) ∧ Below w.heap.size w w')) (HQ : Hid ((er != 0) = true ∨ ((er != 0) = false ∧ ((es != 0) = true ∨ ((es != 0) = false ∧ b1 = true)) ∧ ((et != 0) = true ∨ ((et != 0) = false ∧ b2 = true)))))  :
    Calls Tryd.prog 8 #[.agg #[.int .i64 y, .int .i64 n, .bool l, .int .i64 d, .int .i16 p, .int .i16 q, .int .u8 k]] w fun e w' => e = .returned (.bool true) ∧ Below w.heap.size w w' := by
  obtain ⟨p1, p2⟩ := hp
  obtain ⟨q1, q2⟩ := hq
  obtain ⟨k1, k2⟩ := hk
  go_enter Tryd.func8, Tryd.ntmps8
  go_wp2_with fail
  go_region
  go_wp2_with fail
  refine settleC (fun W => W.cell? ⟨(w.heap.size + 1), 0, none⟩ = some (.int .i64 y) ∧ W.cell? ⟨(w.heap.size + 1), 1, none⟩ = some (.int .i64 n) ∧ W.cell? ⟨(w.heap.size + 1), 2, none⟩ = some (.bool l) ∧ W.cell? ⟨(w.heap.size + 1), 3, none⟩ = some (.int .i64 d) ∧ W.cell? ⟨(w.heap.size + 1 + 1), 0, none⟩ = some (.int .i64 (p)) ∧ W.cell? ⟨(w.heap.size + 1 + 1), 1, none⟩ = some (.int .i64 (q)) ∧ W.cell? ⟨(w.heap.size + 1 + 1), 2, none⟩ = some (.int .i64 (0)) ∧ W.cell? ⟨(w.heap.size + 1 + 1), 3, none⟩ = some (.int .i64 (0)) ∧ w.heap.size + 1 + 1 < W.heap.size ∧ Below w.heap.size w W) ⟨by simp [go_sem], by simp [go_sem], by simp [go_sem], by simp [go_sem], by simp [go_sem], by simp [go_sem], by simp [go_sem], by simp [go_sem], by simp, ?_⟩ ?_
  · repeat (first | (with_reducible exact Below.refl _ _) | (with_reducible assumption) | (with_reducible refine bdrew ?_) | (with_reducible refine baa ?_ _) | (with_reducible refine bs ?_ (by first | exact Nat.le_refl _ | omega | (simp; done) | (simp; omega)) _) | (with_reducible refine bt ?_ (by with_reducible assumption)))
  rintro W0 ⟨c0, c1, c2, c3, c4, c5, c6, c7, hz0, hB0⟩
  refine (HA.out _ (Tab.below hT (by repeat (first | (with_reducible exact Below.refl _ _) | (with_reducible assumption) | (with_reducible refine bdrew ?_) | (with_reducible refine baa ?_ _) | (with_reducible refine bs ?_ (by first | exact Nat.le_refl _ | omega | (simp; done) | (simp; omega)) _) | (with_reducible refine bt ?_ (by with_reducible assumption))))) (Tab.below hL (by repeat (first | (with_reducible exact Below.refl _ _) | (with_reducible assumption) | (with_reducible refine bdrew ?_) | (with_reducible refine baa ?_ _) | (with_reducible refine bs ?_ (by first | exact Nat.le_refl _ | omega | (simp; done) | (simp; omega)) _) | (with_reducible refine bt ?_ (by with_reducible assumption)))))).mono ?_
  rintro e w1 ⟨rfl, hb1⟩
  obtain ⟨hc1, hf1⟩ := bcell hb1
  have hz1 := hb1.size
  try simp at hz1
  have hl1w : w.heap.size < w1.heap.size := by omega
  have hm1w : w.heap.size ≤ w1.heap.size := by omega
  have hs1x0 : (w.heap.size + 1) < w1.heap.size := by omega
  have hs1x1 : (w.heap.size + 1 + 1) < w1.heap.size := by omega
  have g1x0 : w1.cell? ⟨(w.heap.size + 1), 0, none⟩ = some (.int .i64 y) := (hc1 _ _ (by first | omega | (simp; done) | (simp; omega))).trans (by first | (with_reducible assumption) | (simp [go_sem]; done) | (simp [go_sem, *]; done) | assumption)
  have g1x1 : w1.cell? ⟨(w.heap.size + 1), 1, none⟩ = some (.int .i64 n) := (hc1 _ _ (by first | omega | (simp; done) | (simp; omega))).trans (by first | (with_reducible assumption) | (simp [go_sem]; done) | (simp [go_sem, *]; done) | assumption)
  have g1x2 : w1.cell? ⟨(w.heap.size + 1), 2, none⟩ = some (.bool l) := (hc1 _ _ (by first | omega | (simp; done) | (simp; omega))).trans (by first | (with_reducible assumption) | (simp [go_sem]; done) | (simp [go_sem, *]; done) | assumption)
  have g1x3 : w1.cell? ⟨(w.heap.size + 1), 3, none⟩ = some (.int .i64 d) := (hc1 _ _ (by first | omega | (simp; done) | (simp; omega))).trans (by first | (with_reducible assumption) | (simp [go_sem]; done) | (simp [go_sem, *]; done) | assumption)
  have g1x4 : w1.cell? ⟨(w.heap.size + 1 + 1), 0, none⟩ = some (.int .i64 (p)) := (hc1 _ _ (by first | omega | (simp; done) | (simp; omega))).trans (by first | (with_reducible assumption) | (simp [go_sem]; done) | (simp [go_sem, *]; done) | assumption)
  have g1x5 : w1.cell? ⟨(w.heap.size + 1 + 1), 1, none⟩ = some (.int .i64 (q)) := (hc1 _ _ (by first | omega | (simp; done) | (simp; omega))).trans (by first | (with_reducible assumption) | (simp [go_sem]; done) | (simp [go_sem, *]; done) | assumption)
  have g1x6 : w1.cell? ⟨(w.heap.size + 1 + 1), 2, none⟩ = some (.int .i64 (0)) := (hc1 _ _ (by first | omega | (simp; done) | (simp; omega))).trans (by first | (with_reducible assumption) | (simp [go_sem]; done) | (simp [go_sem, *]; done) | assumption)
  have g1x7 : w1.cell? ⟨(w.heap.size + 1 + 1), 3, none⟩ = some (.int .i64 (0)) := (hc1 _ _ (by first | omega | (simp; done) | (simp; omega))).trans (by first | (with_reducible assumption) | (simp [go_sem]; done) | (simp [go_sem, *]; done) | assumption)
  go_wp2_with fail
  refine settle (fun W => W.cell? ⟨(w.heap.size + 1), 0, none⟩ = some (.int .i64 y) ∧ W.cell? ⟨(w.heap.size + 1), 1, none⟩ = some (.int .i64 n) ∧ W.cell? ⟨(w.heap.size + 1), 2, none⟩ = some (.bool l) ∧ W.cell? ⟨(w.heap.size + 1), 3, none⟩ = some (.int .i64 d) ∧ W.cell? ⟨(w.heap.size + 1 + 1), 0, none⟩ = some (.int .i64 (p)) ∧ W.cell? ⟨(w.heap.size + 1 + 1), 1, none⟩ = some (.int .i64 (q)) ∧ W.cell? ⟨(w.heap.size + 1 + 1), 2, none⟩ = some (.int .i64 (0)) ∧ W.cell? ⟨(w.heap.size + 1 + 1), 3, none⟩ = some (.int .i64 (0)) ∧ W.cell? ⟨w1.heap.size, 0, none⟩ = some (.int .i64 ry) ∧ W.cell? ⟨w1.heap.size, 1, none⟩ = some (.int .i64 rn) ∧ W.cell? ⟨w1.heap.size, 2, none⟩ = some (.bool rl) ∧ W.cell? ⟨w1.heap.size, 3, none⟩ = some (.int .i64 rd) ∧ (w.heap.size + 1) < W.heap.size ∧ (w.heap.size + 1 + 1) < W.heap.size ∧ w1.heap.size < W.heap.size ∧ Below w.heap.size w W) ⟨?_, ?_, ?_, ?_, ?_, ?_, ?_, ?_, ?_, ?_, ?_, ?_, ?_, ?_, ?_, ?_⟩ ?_
  · (first | (with_reducible assumption) | (simp [go_sem, *]; done))
  · (first | (with_reducible assumption) | (simp [go_sem, *]; done))
  · (first | (with_reducible assumption) | (simp [go_sem, *]; done))
  · (first | (with_reducible assumption) | (simp [go_sem, *]; done))
  · (first | (with_reducible assumption) | (simp [go_sem, *]; done))
  · (first | (with_reducible assumption) | (simp [go_sem, *]; done))
  · (first | (with_reducible assumption) | (simp [go_sem, *]; done))
  · (first | (with_reducible assumption) | (simp [go_sem, *]; done))
  · (first | (with_reducible assumption) | (simp [go_sem, *]; done))
  · (first | (with_reducible assumption) | (simp [go_sem, *]; done))
  · (first | (with_reducible assumption) | (simp [go_sem, *]; done))
  · (first | (with_reducible assumption) | (simp [go_sem, *]; done))
  · (first | (with_reducible assumption) | (simp; done) | (simp; omega) | omega)
  · (first | (with_reducible assumption) | (simp; done) | (simp; omega) | omega)
  · (first | (with_reducible assumption) | (simp; done) | (simp; omega) | omega)
  · (repeat (first | (with_reducible exact Below.refl _ _) | (with_reducible assumption) | (with_reducible refine bdrew ?_) | (with_reducible refine baa ?_ _) | (with_reducible refine bs ?_ (by first | exact Nat.le_refl _ | omega | (simp; done) | (simp; omega)) _) | (with_reducible refine bt ?_ (by with_reducible assumption))))
  rintro W5 ⟨r5x0, r5x1, r5x2, r5x3, r5x4, r5x5, r5x6, r5x7, r5x8, r5x9, r5x10, r5x11, rs5x0, rs5x1, rs5x2, hB5⟩
  have nw0 := World.new_ne W5 _ r5x0
  have nw1 := World.new_ne W5 _ r5x1
  have nw2 := World.new_ne W5 _ r5x2
  have nw3 := World.new_ne W5 _ r5x3
  have nw4 := World.new_ne W5 _ r5x4
  have nw5 := World.new_ne W5 _ r5x5
  have nw6 := World.new_ne W5 _ r5x6
  have nw7 := World.new_ne W5 _ r5x7
  have nw8 := World.new_ne W5 _ r5x8
  have nw9 := World.new_ne W5 _ r5x9
  have nw10 := World.new_ne W5 _ r5x10
  have nw11 := World.new_ne W5 _ r5x11
  go_cut [10, 11] from 35 (fun a b wx => ∃ g h : Nat, a = .pointer (some ⟨g, 0, none⟩) ∧ b = .pointer (some ⟨h, 0, none⟩) ∧ wx.cell? ⟨(w.heap.size + 1), 0, none⟩ = some (.int .i64 y) ∧ wx.cell? ⟨(w.heap.size + 1), 1, none⟩ = some (.int .i64 n) ∧ wx.cell? ⟨(w.heap.size + 1), 2, none⟩ = some (.bool l) ∧ wx.cell? ⟨(w.heap.size + 1), 3, none⟩ = some (.int .i64 d) ∧ wx.cell? ⟨w1.heap.size, 0, none⟩ = some (.int .i64 ry) ∧ wx.cell? ⟨w1.heap.size, 1, none⟩ = some (.int .i64 rn) ∧ wx.cell? ⟨w1.heap.size, 2, none⟩ = some (.bool rl) ∧ wx.cell? ⟨w1.heap.size, 3, none⟩ = some (.int .i64 rd) ∧ wx.cell? ⟨g, 0, none⟩ = some (.int .i64 (p)) ∧ wx.cell? ⟨g, 1, none⟩ = some (.int .i64 (q)) ∧ wx.cell? ⟨g, 2, none⟩ = some (.int .i64 (0)) ∧ wx.cell? ⟨g, 3, none⟩ = some (.int .i64 (0)) ∧ wx.cell? ⟨h, 0, none⟩ = some (.int .i64 (p)) ∧ wx.cell? ⟨h, 1, none⟩ = some (.int .i64 (q)) ∧ wx.cell? ⟨h, 2, none⟩ = some (.int .i64 (0)) ∧ wx.cell? ⟨h, 3, none⟩ = some (.int .i64 (0)) ∧ wx.frozen? ⟨g, 0, none⟩ = false ∧ wx.frozen? ⟨h, 1, none⟩ = false ∧ g ≠ h ∧ w1.heap.size < g ∧ w1.heap.size < h ∧ g < wx.heap.size ∧ h < wx.heap.size ∧ Below w.heap.size w wx)
  case first =>
    go_region_held3 (fun x => x.cell? ⟨(w.heap.size + 1 + 1), 0, none⟩ = some (.int .i64 (p)) ∧ x.cell? ⟨(w.heap.size + 1 + 1), 1, none⟩ = some (.int .i64 (q)) ∧ x.cell? ⟨(w.heap.size + 1 + 1), 2, none⟩ = some (.int .i64 (0)) ∧ x.cell? ⟨(w.heap.size + 1 + 1), 3, none⟩ = some (.int .i64 (0))) (first | exact ⟨by with_reducible assumption, by with_reducible assumption, by with_reducible assumption, by with_reducible assumption⟩ | go_keep) (first | fail)
    all_goals simp only [Exit.then]
    all_goals refine ‹∀ (a' : Act) (w' : World), Met _ a' w' → _› _ _ ?_
    all_goals go_meet
    · have hX := bdrew (baa (ba W5 (.cells #[.int .i64 p, .int .i64 q, .int .i64 0, .int .i64 0] 42)) (.cells #[.int .i64 p, .int .i64 q, .int .i64 0, .int .i64 0] 42))
      exact ⟨W5.heap.size, W5.heap.size + 1, rfl, rfl, (hX.cell (p := ⟨(w.heap.size + 1), 0, none⟩) (show (w.heap.size + 1) < W5.heap.size by omega)).trans r5x0, (hX.cell (p := ⟨(w.heap.size + 1), 1, none⟩) (show (w.heap.size + 1) < W5.heap.size by omega)).trans r5x1, (hX.cell (p := ⟨(w.heap.size + 1), 2, none⟩) (show (w.heap.size + 1) < W5.heap.size by omega)).trans r5x2, (hX.cell (p := ⟨(w.heap.size + 1), 3, none⟩) (show (w.heap.size + 1) < W5.heap.size by omega)).trans r5x3, (hX.cell (p := ⟨w1.heap.size, 0, none⟩) (show w1.heap.size < W5.heap.size by omega)).trans r5x8, (hX.cell (p := ⟨w1.heap.size, 1, none⟩) (show w1.heap.size < W5.heap.size by omega)).trans r5x9, (hX.cell (p := ⟨w1.heap.size, 2, none⟩) (show w1.heap.size < W5.heap.size by omega)).trans r5x10, (hX.cell (p := ⟨w1.heap.size, 3, none⟩) (show w1.heap.size < W5.heap.size by omega)).trans r5x11, by simp [go_sem], by simp [go_sem], by simp [go_sem], by simp [go_sem], by simp [go_sem], by simp [go_sem], by simp [go_sem], by simp [go_sem], by simp [go_sem], by simp [go_sem], by omega, by omega, by omega, by simp; omega, by simp, bt hB5 hX⟩
    · have hX := bdrew (baa (ba W5 (.cells #[.int .i64 p, .int .i64 q, .int .i64 0, .int .i64 0] 42)) (.cells #[.int .i64 p, .int .i64 q, .int .i64 0, .int .i64 0] 42))
      exact ⟨W5.heap.size + 1, W5.heap.size, rfl, rfl, (hX.cell (p := ⟨(w.heap.size + 1), 0, none⟩) (show (w.heap.size + 1) < W5.heap.size by omega)).trans r5x0, (hX.cell (p := ⟨(w.heap.size + 1), 1, none⟩) (show (w.heap.size + 1) < W5.heap.size by omega)).trans r5x1, (hX.cell (p := ⟨(w.heap.size + 1), 2, none⟩) (show (w.heap.size + 1) < W5.heap.size by omega)).trans r5x2, (hX.cell (p := ⟨(w.heap.size + 1), 3, none⟩) (show (w.heap.size + 1) < W5.heap.size by omega)).trans r5x3, (hX.cell (p := ⟨w1.heap.size, 0, none⟩) (show w1.heap.size < W5.heap.size by omega)).trans r5x8, (hX.cell (p := ⟨w1.heap.size, 1, none⟩) (show w1.heap.size < W5.heap.size by omega)).trans r5x9, (hX.cell (p := ⟨w1.heap.size, 2, none⟩) (show w1.heap.size < W5.heap.size by omega)).trans r5x10, (hX.cell (p := ⟨w1.heap.size, 3, none⟩) (show w1.heap.size < W5.heap.size by omega)).trans r5x11, by simp [go_sem], by simp [go_sem], by simp [go_sem], by simp [go_sem], by simp [go_sem], by simp [go_sem], by simp [go_sem], by simp [go_sem], by simp [go_sem], by simp [go_sem], by omega, by omega, by omega, by simp, by simp; omega, bt hB5 hX⟩
  case rest =>
    obtain ⟨g, h, rfl, rfl, k0, k1, k2, k3, k4, k5, k6, k7, k8, k9, k10, k11, k12, k13, k14, k15, f0, f1, hgh, hg1, hh1, hg, hh, hBx⟩ := hcut
    have hhg := Ne.symm hgh
    go_wp2_with fail
    refine settleC (fun W => W.cell? ⟨(w.heap.size + 1), 0, none⟩ = some (.int .i64 y) ∧ W.cell? ⟨(w.heap.size + 1), 1, none⟩ = some (.int .i64 n) ∧ W.cell? ⟨(w.heap.size + 1), 2, none⟩ = some (.bool l) ∧ W.cell? ⟨(w.heap.size + 1), 3, none⟩ = some (.int .i64 d) ∧ W.cell? ⟨w1.heap.size, 0, none⟩ = some (.int .i64 ry) ∧ W.cell? ⟨w1.heap.size, 1, none⟩ = some (.int .i64 rn) ∧ W.cell? ⟨w1.heap.size, 2, none⟩ = some (.bool rl) ∧ W.cell? ⟨w1.heap.size, 3, none⟩ = some (.int .i64 rd) ∧ W.cell? ⟨g, 0, none⟩ = some (.int .i64 (p + 1 + k)) ∧ W.cell? ⟨g, 1, none⟩ = some (.int .i64 (q)) ∧ W.cell? ⟨g, 2, none⟩ = some (.int .i64 (0)) ∧ W.cell? ⟨g, 3, none⟩ = some (.int .i64 (0)) ∧ W.cell? ⟨h, 0, none⟩ = some (.int .i64 (p)) ∧ W.cell? ⟨h, 1, none⟩ = some (.int .i64 (q + 1 + k)) ∧ W.cell? ⟨h, 2, none⟩ = some (.int .i64 (0)) ∧ W.cell? ⟨h, 3, none⟩ = some (.int .i64 (0)) ∧ g < W.heap.size ∧ h < W.heap.size ∧ Below w.heap.size w W) ⟨(set2_other wc g h _ _ (show (w.heap.size + 1) ≠ g by omega) (show (w.heap.size + 1) ≠ h by omega)).trans k0, (set2_other wc g h _ _ (show (w.heap.size + 1) ≠ g by omega) (show (w.heap.size + 1) ≠ h by omega)).trans k1, (set2_other wc g h _ _ (show (w.heap.size + 1) ≠ g by omega) (show (w.heap.size + 1) ≠ h by omega)).trans k2, (set2_other wc g h _ _ (show (w.heap.size + 1) ≠ g by omega) (show (w.heap.size + 1) ≠ h by omega)).trans k3, (set2_other wc g h _ _ (show w1.heap.size ≠ g by omega) (show w1.heap.size ≠ h by omega)).trans k4, (set2_other wc g h _ _ (show w1.heap.size ≠ g by omega) (show w1.heap.size ≠ h by omega)).trans k5, (set2_other wc g h _ _ (show w1.heap.size ≠ g by omega) (show w1.heap.size ≠ h by omega)).trans k6, (set2_other wc g h _ _ (show w1.heap.size ≠ g by omega) (show w1.heap.size ≠ h by omega)).trans k7, set2_g0 wc g h _ _ hgh k8, (set2_g wc g h _ _ hgh (by omega)).trans k9, (set2_g wc g h _ _ hgh (by omega)).trans k10, (set2_g wc g h _ _ hgh (by omega)).trans k11, (set2_h wc g h _ _ hgh (by omega)).trans k12, set2_h1 wc g h _ _ hgh k13, (set2_h wc g h _ _ hgh (by omega)).trans k14, (set2_h wc g h _ _ hgh (by omega)).trans k15, by simpa [World.setCell] using hg, by simpa [World.setCell] using hh, ?_⟩ ?_
    · refine bs (bs hBx (show w.heap.size ≤ g by omega) _) (show w.heap.size ≤ h by omega) _
    clear k0 k1 k2 k3 k4 k5 k6 k7 k8 k9 k10 k11 k12 k13 k14 k15 f0 f1 hg hh hBx
    rintro W6 ⟨k0, k1, k2, k3, k4, k5, k6, k7, k8, k9, k10, k11, k12, k13, k14, k15, hg, hh, hB6⟩
    refine (HB.out _ (Tab.below hT (by repeat (first | (with_reducible exact Below.refl _ _) | (with_reducible assumption) | (with_reducible refine bdrew ?_) | (with_reducible refine baa ?_ _) | (with_reducible refine bs ?_ (by first | exact Nat.le_refl _ | omega | (simp; done) | (simp; omega)) _) | (with_reducible refine bt ?_ (by with_reducible assumption))))) (Tab.below hL (by repeat (first | (with_reducible exact Below.refl _ _) | (with_reducible assumption) | (with_reducible refine bdrew ?_) | (with_reducible refine baa ?_ _) | (with_reducible refine bs ?_ (by first | exact Nat.le_refl _ | omega | (simp; done) | (simp; omega)) _) | (with_reducible refine bt ?_ (by with_reducible assumption)))))).mono ?_
    rintro e w2 ⟨rfl, hb2⟩
    obtain ⟨hc2, hf2⟩ := bcell hb2
    have hz2 := hb2.size
    try simp at hz2
    have hs2x0 : (w.heap.size + 1) < w2.heap.size := by omega
    have hs2x1 : w1.heap.size < w2.heap.size := by omega
    have hs2x2 : h < w2.heap.size := by omega
    have g2x0 : w2.cell? ⟨(w.heap.size + 1), 0, none⟩ = some (.int .i64 y) := (hc2 _ _ (by first | omega | (simp; done) | (simp; omega))).trans (by first | (with_reducible assumption) | (simp [go_sem]; done) | (simp [go_sem, *]; done) | assumption)
    have g2x1 : w2.cell? ⟨(w.heap.size + 1), 1, none⟩ = some (.int .i64 n) := (hc2 _ _ (by first | omega | (simp; done) | (simp; omega))).trans (by first | (with_reducible assumption) | (simp [go_sem]; done) | (simp [go_sem, *]; done) | assumption)
    have g2x2 : w2.cell? ⟨(w.heap.size + 1), 2, none⟩ = some (.bool l) := (hc2 _ _ (by first | omega | (simp; done) | (simp; omega))).trans (by first | (with_reducible assumption) | (simp [go_sem]; done) | (simp [go_sem, *]; done) | assumption)
    have g2x3 : w2.cell? ⟨(w.heap.size + 1), 3, none⟩ = some (.int .i64 d) := (hc2 _ _ (by first | omega | (simp; done) | (simp; omega))).trans (by first | (with_reducible assumption) | (simp [go_sem]; done) | (simp [go_sem, *]; done) | assumption)
    have g2x4 : w2.cell? ⟨w1.heap.size, 0, none⟩ = some (.int .i64 ry) := (hc2 _ _ (by first | omega | (simp; done) | (simp; omega))).trans (by first | (with_reducible assumption) | (simp [go_sem]; done) | (simp [go_sem, *]; done) | assumption)
    have g2x5 : w2.cell? ⟨w1.heap.size, 1, none⟩ = some (.int .i64 rn) := (hc2 _ _ (by first | omega | (simp; done) | (simp; omega))).trans (by first | (with_reducible assumption) | (simp [go_sem]; done) | (simp [go_sem, *]; done) | assumption)
    have g2x6 : w2.cell? ⟨w1.heap.size, 2, none⟩ = some (.bool rl) := (hc2 _ _ (by first | omega | (simp; done) | (simp; omega))).trans (by first | (with_reducible assumption) | (simp [go_sem]; done) | (simp [go_sem, *]; done) | assumption)
    have g2x7 : w2.cell? ⟨w1.heap.size, 3, none⟩ = some (.int .i64 rd) := (hc2 _ _ (by first | omega | (simp; done) | (simp; omega))).trans (by first | (with_reducible assumption) | (simp [go_sem]; done) | (simp [go_sem, *]; done) | assumption)
    have g2x8 : w2.cell? ⟨h, 0, none⟩ = some (.int .i64 (p)) := (hc2 _ _ (by first | omega | (simp; done) | (simp; omega))).trans (by first | (with_reducible assumption) | (simp [go_sem]; done) | (simp [go_sem, *]; done) | assumption)
    have g2x9 : w2.cell? ⟨h, 1, none⟩ = some (.int .i64 (q + 1 + k)) := (hc2 _ _ (by first | omega | (simp; done) | (simp; omega))).trans (by first | (with_reducible assumption) | (simp [go_sem]; done) | (simp [go_sem, *]; done) | assumption)
    have g2x10 : w2.cell? ⟨h, 2, none⟩ = some (.int .i64 (0)) := (hc2 _ _ (by first | omega | (simp; done) | (simp; omega))).trans (by first | (with_reducible assumption) | (simp [go_sem]; done) | (simp [go_sem, *]; done) | assumption)
    have g2x11 : w2.cell? ⟨h, 3, none⟩ = some (.int .i64 (0)) := (hc2 _ _ (by first | omega | (simp; done) | (simp; omega))).trans (by first | (with_reducible assumption) | (simp [go_sem]; done) | (simp [go_sem, *]; done) | assumption)
    go_wp2_with fail
    refine (HC.out _ (Tab.below hT (by repeat (first | (with_reducible exact Below.refl _ _) | (with_reducible assumption) | (with_reducible refine bdrew ?_) | (with_reducible refine baa ?_ _) | (with_reducible refine bs ?_ (by first | exact Nat.le_refl _ | omega | (simp; done) | (simp; omega)) _) | (with_reducible refine bt ?_ (by with_reducible assumption))))) (Tab.below hL (by repeat (first | (with_reducible exact Below.refl _ _) | (with_reducible assumption) | (with_reducible refine bdrew ?_) | (with_reducible refine baa ?_ _) | (with_reducible refine bs ?_ (by first | exact Nat.le_refl _ | omega | (simp; done) | (simp; omega)) _) | (with_reducible refine bt ?_ (by with_reducible assumption)))))).mono ?_
    rintro e w3 ⟨rfl, hb3⟩
    obtain ⟨hc3, hf3⟩ := bcell hb3
    have hz3 := hb3.size
    try simp at hz3
    have hl3w2 : w2.heap.size < w3.heap.size := by omega
    have hm3w2 : w2.heap.size ≤ w3.heap.size := by omega
    have hs3x0 : w1.heap.size < w3.heap.size := by omega
    have g3x0 : w3.cell? ⟨w1.heap.size, 0, none⟩ = some (.int .i64 ry) := (hc3 _ _ (by first | omega | (simp; done) | (simp; omega))).trans (by first | (with_reducible assumption) | (simp [go_sem]; done) | (simp [go_sem, *]; done) | assumption)
    have g3x1 : w3.cell? ⟨w1.heap.size, 1, none⟩ = some (.int .i64 rn) := (hc3 _ _ (by first | omega | (simp; done) | (simp; omega))).trans (by first | (with_reducible assumption) | (simp [go_sem]; done) | (simp [go_sem, *]; done) | assumption)
    have g3x2 : w3.cell? ⟨w1.heap.size, 2, none⟩ = some (.bool rl) := (hc3 _ _ (by first | omega | (simp; done) | (simp; omega))).trans (by first | (with_reducible assumption) | (simp [go_sem]; done) | (simp [go_sem, *]; done) | assumption)
    have g3x3 : w3.cell? ⟨w1.heap.size, 3, none⟩ = some (.int .i64 rd) := (hc3 _ _ (by first | omega | (simp; done) | (simp; omega))).trans (by first | (with_reducible assumption) | (simp [go_sem]; done) | (simp [go_sem, *]; done) | assumption)
    have g3x4 : w3.cell? ⟨w2.heap.size, 0, none⟩ = some (.int .i64 sy) := (hc3 _ _ (by first | omega | (simp; done) | (simp; omega))).trans (by first | (with_reducible assumption) | (simp [go_sem]; done) | (simp [go_sem, *]; done) | assumption)
    have g3x5 : w3.cell? ⟨w2.heap.size, 1, none⟩ = some (.int .i64 sn) := (hc3 _ _ (by first | omega | (simp; done) | (simp; omega))).trans (by first | (with_reducible assumption) | (simp [go_sem]; done) | (simp [go_sem, *]; done) | assumption)
    have g3x6 : w3.cell? ⟨w2.heap.size, 2, none⟩ = some (.bool sl) := (hc3 _ _ (by first | omega | (simp; done) | (simp; omega))).trans (by first | (with_reducible assumption) | (simp [go_sem]; done) | (simp [go_sem, *]; done) | assumption)
    have g3x7 : w3.cell? ⟨w2.heap.size, 3, none⟩ = some (.int .i64 sd) := (hc3 _ _ (by first | omega | (simp; done) | (simp; omega))).trans (by first | (with_reducible assumption) | (simp [go_sem]; done) | (simp [go_sem, *]; done) | assumption)
    go_wp2_with fail
    rcases HQ.out with e0 | ⟨e0, e1 | ⟨e1, e2⟩, e3 | ⟨e3, e4⟩⟩
    · refine (awake16 _ (Tab.below hT (by repeat (first | (with_reducible exact Below.refl _ _) | (with_reducible assumption) | (with_reducible refine bdrew ?_) | (with_reducible refine baa ?_ _) | (with_reducible refine bs ?_ (by first | exact Nat.le_refl _ | omega | (simp; done) | (simp; omega)) _) | (with_reducible refine bt ?_ (by with_reducible assumption))))) (Tab.below hL (by repeat (first | (with_reducible exact Below.refl _ _) | (with_reducible assumption) | (with_reducible refine bdrew ?_) | (with_reducible refine baa ?_ _) | (with_reducible refine bs ?_ (by first | exact Nat.le_refl _ | omega | (simp; done) | (simp; omega)) _) | (with_reducible refine bt ?_ (by with_reducible assumption)))))).mono ?_
      rintro e w4 ⟨rfl, hb4⟩
      obtain ⟨hc4, hf4⟩ := bcell hb4
      have hz4 := hb4.size
      try simp at hz4
      have hl4w2 : w2.heap.size < w4.heap.size := by omega
      have hm4w2 : w2.heap.size ≤ w4.heap.size := by omega
      have hl4w3 : w3.heap.size < w4.heap.size := by omega
      have hm4w3 : w3.heap.size ≤ w4.heap.size := by omega
      have hs4x0 : w1.heap.size < w4.heap.size := by omega
      have g4x0 : w4.cell? ⟨w1.heap.size, 0, none⟩ = some (.int .i64 ry) := (hc4 _ _ (by first | omega | (simp; done) | (simp; omega))).trans (by first | (with_reducible assumption) | (simp [go_sem]; done) | (simp [go_sem, *]; done) | assumption)
      have g4x1 : w4.cell? ⟨w1.heap.size, 1, none⟩ = some (.int .i64 rn) := (hc4 _ _ (by first | omega | (simp; done) | (simp; omega))).trans (by first | (with_reducible assumption) | (simp [go_sem]; done) | (simp [go_sem, *]; done) | assumption)
      have g4x2 : w4.cell? ⟨w1.heap.size, 2, none⟩ = some (.bool rl) := (hc4 _ _ (by first | omega | (simp; done) | (simp; omega))).trans (by first | (with_reducible assumption) | (simp [go_sem]; done) | (simp [go_sem, *]; done) | assumption)
      have g4x3 : w4.cell? ⟨w1.heap.size, 3, none⟩ = some (.int .i64 rd) := (hc4 _ _ (by first | omega | (simp; done) | (simp; omega))).trans (by first | (with_reducible assumption) | (simp [go_sem]; done) | (simp [go_sem, *]; done) | assumption)
      have g4x4 : w4.cell? ⟨w2.heap.size, 0, none⟩ = some (.int .i64 sy) := (hc4 _ _ (by first | omega | (simp; done) | (simp; omega))).trans (by first | (with_reducible assumption) | (simp [go_sem]; done) | (simp [go_sem, *]; done) | assumption)
      have g4x5 : w4.cell? ⟨w2.heap.size, 1, none⟩ = some (.int .i64 sn) := (hc4 _ _ (by first | omega | (simp; done) | (simp; omega))).trans (by first | (with_reducible assumption) | (simp [go_sem]; done) | (simp [go_sem, *]; done) | assumption)
      have g4x6 : w4.cell? ⟨w2.heap.size, 2, none⟩ = some (.bool sl) := (hc4 _ _ (by first | omega | (simp; done) | (simp; omega))).trans (by first | (with_reducible assumption) | (simp [go_sem]; done) | (simp [go_sem, *]; done) | assumption)
      have g4x7 : w4.cell? ⟨w2.heap.size, 3, none⟩ = some (.int .i64 sd) := (hc4 _ _ (by first | omega | (simp; done) | (simp; omega))).trans (by first | (with_reducible assumption) | (simp [go_sem]; done) | (simp [go_sem, *]; done) | assumption)
      have g4x8 : w4.cell? ⟨w3.heap.size, 0, none⟩ = some (.int .i64 ty) := (hc4 _ _ (by first | omega | (simp; done) | (simp; omega))).trans (by first | (with_reducible assumption) | (simp [go_sem]; done) | (simp [go_sem, *]; done) | assumption)
      have g4x9 : w4.cell? ⟨w3.heap.size, 1, none⟩ = some (.int .i64 tn) := (hc4 _ _ (by first | omega | (simp; done) | (simp; omega))).trans (by first | (with_reducible assumption) | (simp [go_sem]; done) | (simp [go_sem, *]; done) | assumption)
      have g4x10 : w4.cell? ⟨w3.heap.size, 2, none⟩ = some (.bool tl) := (hc4 _ _ (by first | omega | (simp; done) | (simp; omega))).trans (by first | (with_reducible assumption) | (simp [go_sem]; done) | (simp [go_sem, *]; done) | assumption)
      have g4x11 : w4.cell? ⟨w3.heap.size, 3, none⟩ = some (.int .i64 td) := (hc4 _ _ (by first | omega | (simp; done) | (simp; omega))).trans (by first | (with_reducible assumption) | (simp [go_sem]; done) | (simp [go_sem, *]; done) | assumption)
      go_wp2_with fail
      go_ret
      refine ⟨by first | rfl | (simp [*]; done), ?_⟩
      repeat (first | (with_reducible exact Below.refl _ _) | (with_reducible assumption) | (with_reducible refine bdrew ?_) | (with_reducible refine baa ?_ _) | (with_reducible refine bs ?_ (by first | exact Nat.le_refl _ | omega | (simp; done) | (simp; omega)) _) | (with_reducible refine bt ?_ (by with_reducible assumption)))
    · refine (awake16 _ (Tab.below hT (by repeat (first | (with_reducible exact Below.refl _ _) | (with_reducible assumption) | (with_reducible refine bdrew ?_) | (with_reducible refine baa ?_ _) | (with_reducible refine bs ?_ (by first | exact Nat.le_refl _ | omega | (simp; done) | (simp; omega)) _) | (with_reducible refine bt ?_ (by with_reducible assumption))))) (Tab.below hL (by repeat (first | (with_reducible exact Below.refl _ _) | (with_reducible assumption) | (with_reducible refine bdrew ?_) | (with_reducible refine baa ?_ _) | (with_reducible refine bs ?_ (by first | exact Nat.le_refl _ | omega | (simp; done) | (simp; omega)) _) | (with_reducible refine bt ?_ (by with_reducible assumption)))))).mono ?_
      rintro e w4 ⟨rfl, hb4⟩
      obtain ⟨hc4, hf4⟩ := bcell hb4
      have hz4 := hb4.size
      try simp at hz4
      have hl4w2 : w2.heap.size < w4.heap.size := by omega
      have hm4w2 : w2.heap.size ≤ w4.heap.size := by omega
      have hl4w3 : w3.heap.size < w4.heap.size := by omega
      have hm4w3 : w3.heap.size ≤ w4.heap.size := by omega
      have hs4x0 : w1.heap.size < w4.heap.size := by omega
      have g4x0 : w4.cell? ⟨w1.heap.size, 0, none⟩ = some (.int .i64 ry) := (hc4 _ _ (by first | omega | (simp; done) | (simp; omega))).trans (by first | (with_reducible assumption) | (simp [go_sem]; done) | (simp [go_sem, *]; done) | assumption)
      have g4x1 : w4.cell? ⟨w1.heap.size, 1, none⟩ = some (.int .i64 rn) := (hc4 _ _ (by first | omega | (simp; done) | (simp; omega))).trans (by first | (with_reducible assumption) | (simp [go_sem]; done) | (simp [go_sem, *]; done) | assumption)
      have g4x2 : w4.cell? ⟨w1.heap.size, 2, none⟩ = some (.bool rl) := (hc4 _ _ (by first | omega | (simp; done) | (simp; omega))).trans (by first | (with_reducible assumption) | (simp [go_sem]; done) | (simp [go_sem, *]; done) | assumption)
      have g4x3 : w4.cell? ⟨w1.heap.size, 3, none⟩ = some (.int .i64 rd) := (hc4 _ _ (by first | omega | (simp; done) | (simp; omega))).trans (by first | (with_reducible assumption) | (simp [go_sem]; done) | (simp [go_sem, *]; done) | assumption)
      have g4x4 : w4.cell? ⟨w2.heap.size, 0, none⟩ = some (.int .i64 sy) := (hc4 _ _ (by first | omega | (simp; done) | (simp; omega))).trans (by first | (with_reducible assumption) | (simp [go_sem]; done) | (simp [go_sem, *]; done) | assumption)
      have g4x5 : w4.cell? ⟨w2.heap.size, 1, none⟩ = some (.int .i64 sn) := (hc4 _ _ (by first | omega | (simp; done) | (simp; omega))).trans (by first | (with_reducible assumption) | (simp [go_sem]; done) | (simp [go_sem, *]; done) | assumption)
      have g4x6 : w4.cell? ⟨w2.heap.size, 2, none⟩ = some (.bool sl) := (hc4 _ _ (by first | omega | (simp; done) | (simp; omega))).trans (by first | (with_reducible assumption) | (simp [go_sem]; done) | (simp [go_sem, *]; done) | assumption)
      have g4x7 : w4.cell? ⟨w2.heap.size, 3, none⟩ = some (.int .i64 sd) := (hc4 _ _ (by first | omega | (simp; done) | (simp; omega))).trans (by first | (with_reducible assumption) | (simp [go_sem]; done) | (simp [go_sem, *]; done) | assumption)
      have g4x8 : w4.cell? ⟨w3.heap.size, 0, none⟩ = some (.int .i64 ty) := (hc4 _ _ (by first | omega | (simp; done) | (simp; omega))).trans (by first | (with_reducible assumption) | (simp [go_sem]; done) | (simp [go_sem, *]; done) | assumption)
      have g4x9 : w4.cell? ⟨w3.heap.size, 1, none⟩ = some (.int .i64 tn) := (hc4 _ _ (by first | omega | (simp; done) | (simp; omega))).trans (by first | (with_reducible assumption) | (simp [go_sem]; done) | (simp [go_sem, *]; done) | assumption)
      have g4x10 : w4.cell? ⟨w3.heap.size, 2, none⟩ = some (.bool tl) := (hc4 _ _ (by first | omega | (simp; done) | (simp; omega))).trans (by first | (with_reducible assumption) | (simp [go_sem]; done) | (simp [go_sem, *]; done) | assumption)
      have g4x11 : w4.cell? ⟨w3.heap.size, 3, none⟩ = some (.int .i64 td) := (hc4 _ _ (by first | omega | (simp; done) | (simp; omega))).trans (by first | (with_reducible assumption) | (simp [go_sem]; done) | (simp [go_sem, *]; done) | assumption)
      go_wp2_with fail
      go_ret
      refine ⟨by first | rfl | (simp [*]; done), ?_⟩
      repeat (first | (with_reducible exact Below.refl _ _) | (with_reducible assumption) | (with_reducible refine bdrew ?_) | (with_reducible refine baa ?_ _) | (with_reducible refine bs ?_ (by first | exact Nat.le_refl _ | omega | (simp; done) | (simp; omega)) _) | (with_reducible refine bt ?_ (by with_reducible assumption)))
    · refine (awake16 _ (Tab.below hT (by repeat (first | (with_reducible exact Below.refl _ _) | (with_reducible assumption) | (with_reducible refine bdrew ?_) | (with_reducible refine baa ?_ _) | (with_reducible refine bs ?_ (by first | exact Nat.le_refl _ | omega | (simp; done) | (simp; omega)) _) | (with_reducible refine bt ?_ (by with_reducible assumption))))) (Tab.below hL (by repeat (first | (with_reducible exact Below.refl _ _) | (with_reducible assumption) | (with_reducible refine bdrew ?_) | (with_reducible refine baa ?_ _) | (with_reducible refine bs ?_ (by first | exact Nat.le_refl _ | omega | (simp; done) | (simp; omega)) _) | (with_reducible refine bt ?_ (by with_reducible assumption)))))).mono ?_
      rintro e w4 ⟨rfl, hb4⟩
      obtain ⟨hc4, hf4⟩ := bcell hb4
      have hz4 := hb4.size
      try simp at hz4
      have hl4w2 : w2.heap.size < w4.heap.size := by omega
      have hm4w2 : w2.heap.size ≤ w4.heap.size := by omega
      have hl4w3 : w3.heap.size < w4.heap.size := by omega
      have hm4w3 : w3.heap.size ≤ w4.heap.size := by omega
      have hs4x0 : w1.heap.size < w4.heap.size := by omega
      have g4x0 : w4.cell? ⟨w1.heap.size, 0, none⟩ = some (.int .i64 ry) := (hc4 _ _ (by first | omega | (simp; done) | (simp; omega))).trans (by first | (with_reducible assumption) | (simp [go_sem]; done) | (simp [go_sem, *]; done) | assumption)
      have g4x1 : w4.cell? ⟨w1.heap.size, 1, none⟩ = some (.int .i64 rn) := (hc4 _ _ (by first | omega | (simp; done) | (simp; omega))).trans (by first | (with_reducible assumption) | (simp [go_sem]; done) | (simp [go_sem, *]; done) | assumption)
      have g4x2 : w4.cell? ⟨w1.heap.size, 2, none⟩ = some (.bool rl) := (hc4 _ _ (by first | omega | (simp; done) | (simp; omega))).trans (by first | (with_reducible assumption) | (simp [go_sem]; done) | (simp [go_sem, *]; done) | assumption)
      have g4x3 : w4.cell? ⟨w1.heap.size, 3, none⟩ = some (.int .i64 rd) := (hc4 _ _ (by first | omega | (simp; done) | (simp; omega))).trans (by first | (with_reducible assumption) | (simp [go_sem]; done) | (simp [go_sem, *]; done) | assumption)
      have g4x4 : w4.cell? ⟨w2.heap.size, 0, none⟩ = some (.int .i64 sy) := (hc4 _ _ (by first | omega | (simp; done) | (simp; omega))).trans (by first | (with_reducible assumption) | (simp [go_sem]; done) | (simp [go_sem, *]; done) | assumption)
      have g4x5 : w4.cell? ⟨w2.heap.size, 1, none⟩ = some (.int .i64 sn) := (hc4 _ _ (by first | omega | (simp; done) | (simp; omega))).trans (by first | (with_reducible assumption) | (simp [go_sem]; done) | (simp [go_sem, *]; done) | assumption)
      have g4x6 : w4.cell? ⟨w2.heap.size, 2, none⟩ = some (.bool sl) := (hc4 _ _ (by first | omega | (simp; done) | (simp; omega))).trans (by first | (with_reducible assumption) | (simp [go_sem]; done) | (simp [go_sem, *]; done) | assumption)
      have g4x7 : w4.cell? ⟨w2.heap.size, 3, none⟩ = some (.int .i64 sd) := (hc4 _ _ (by first | omega | (simp; done) | (simp; omega))).trans (by first | (with_reducible assumption) | (simp [go_sem]; done) | (simp [go_sem, *]; done) | assumption)
      have g4x8 : w4.cell? ⟨w3.heap.size, 0, none⟩ = some (.int .i64 ty) := (hc4 _ _ (by first | omega | (simp; done) | (simp; omega))).trans (by first | (with_reducible assumption) | (simp [go_sem]; done) | (simp [go_sem, *]; done) | assumption)
      have g4x9 : w4.cell? ⟨w3.heap.size, 1, none⟩ = some (.int .i64 tn) := (hc4 _ _ (by first | omega | (simp; done) | (simp; omega))).trans (by first | (with_reducible assumption) | (simp [go_sem]; done) | (simp [go_sem, *]; done) | assumption)
      have g4x10 : w4.cell? ⟨w3.heap.size, 2, none⟩ = some (.bool tl) := (hc4 _ _ (by first | omega | (simp; done) | (simp; omega))).trans (by first | (with_reducible assumption) | (simp [go_sem]; done) | (simp [go_sem, *]; done) | assumption)
      have g4x11 : w4.cell? ⟨w3.heap.size, 3, none⟩ = some (.int .i64 td) := (hc4 _ _ (by first | omega | (simp; done) | (simp; omega))).trans (by first | (with_reducible assumption) | (simp [go_sem]; done) | (simp [go_sem, *]; done) | assumption)
      go_wp2_with fail
      refine (H2.out _).mono ?_
      rintro e w6 ⟨rfl, hb6⟩
      obtain ⟨hc6, hf6⟩ := bcell hb6
      have hz6 := hb6.size
      try simp at hz6
      go_wp2_with fail
      go_ret
      refine ⟨by first | rfl | (simp [*]; done), ?_⟩
      repeat (first | (with_reducible exact Below.refl _ _) | (with_reducible assumption) | (with_reducible refine bdrew ?_) | (with_reducible refine baa ?_ _) | (with_reducible refine bs ?_ (by first | exact Nat.le_refl _ | omega | (simp; done) | (simp; omega)) _) | (with_reducible refine bt ?_ (by with_reducible assumption)))
    · refine (awake16 _ (Tab.below hT (by repeat (first | (with_reducible exact Below.refl _ _) | (with_reducible assumption) | (with_reducible refine bdrew ?_) | (with_reducible refine baa ?_ _) | (with_reducible refine bs ?_ (by first | exact Nat.le_refl _ | omega | (simp; done) | (simp; omega)) _) | (with_reducible refine bt ?_ (by with_reducible assumption))))) (Tab.below hL (by repeat (first | (with_reducible exact Below.refl _ _) | (with_reducible assumption) | (with_reducible refine bdrew ?_) | (with_reducible refine baa ?_ _) | (with_reducible refine bs ?_ (by first | exact Nat.le_refl _ | omega | (simp; done) | (simp; omega)) _) | (with_reducible refine bt ?_ (by with_reducible assumption)))))).mono ?_
      rintro e w4 ⟨rfl, hb4⟩
      obtain ⟨hc4, hf4⟩ := bcell hb4
      have hz4 := hb4.size
      try simp at hz4
      have hl4w2 : w2.heap.size < w4.heap.size := by omega
      have hm4w2 : w2.heap.size ≤ w4.heap.size := by omega
      have hl4w3 : w3.heap.size < w4.heap.size := by omega
      have hm4w3 : w3.heap.size ≤ w4.heap.size := by omega
      have hs4x0 : w1.heap.size < w4.heap.size := by omega
      have g4x0 : w4.cell? ⟨w1.heap.size, 0, none⟩ = some (.int .i64 ry) := (hc4 _ _ (by first | omega | (simp; done) | (simp; omega))).trans (by first | (with_reducible assumption) | (simp [go_sem]; done) | (simp [go_sem, *]; done) | assumption)
      have g4x1 : w4.cell? ⟨w1.heap.size, 1, none⟩ = some (.int .i64 rn) := (hc4 _ _ (by first | omega | (simp; done) | (simp; omega))).trans (by first | (with_reducible assumption) | (simp [go_sem]; done) | (simp [go_sem, *]; done) | assumption)
      have g4x2 : w4.cell? ⟨w1.heap.size, 2, none⟩ = some (.bool rl) := (hc4 _ _ (by first | omega | (simp; done) | (simp; omega))).trans (by first | (with_reducible assumption) | (simp [go_sem]; done) | (simp [go_sem, *]; done) | assumption)
      have g4x3 : w4.cell? ⟨w1.heap.size, 3, none⟩ = some (.int .i64 rd) := (hc4 _ _ (by first | omega | (simp; done) | (simp; omega))).trans (by first | (with_reducible assumption) | (simp [go_sem]; done) | (simp [go_sem, *]; done) | assumption)
      have g4x4 : w4.cell? ⟨w2.heap.size, 0, none⟩ = some (.int .i64 sy) := (hc4 _ _ (by first | omega | (simp; done) | (simp; omega))).trans (by first | (with_reducible assumption) | (simp [go_sem]; done) | (simp [go_sem, *]; done) | assumption)
      have g4x5 : w4.cell? ⟨w2.heap.size, 1, none⟩ = some (.int .i64 sn) := (hc4 _ _ (by first | omega | (simp; done) | (simp; omega))).trans (by first | (with_reducible assumption) | (simp [go_sem]; done) | (simp [go_sem, *]; done) | assumption)
      have g4x6 : w4.cell? ⟨w2.heap.size, 2, none⟩ = some (.bool sl) := (hc4 _ _ (by first | omega | (simp; done) | (simp; omega))).trans (by first | (with_reducible assumption) | (simp [go_sem]; done) | (simp [go_sem, *]; done) | assumption)
      have g4x7 : w4.cell? ⟨w2.heap.size, 3, none⟩ = some (.int .i64 sd) := (hc4 _ _ (by first | omega | (simp; done) | (simp; omega))).trans (by first | (with_reducible assumption) | (simp [go_sem]; done) | (simp [go_sem, *]; done) | assumption)
      have g4x8 : w4.cell? ⟨w3.heap.size, 0, none⟩ = some (.int .i64 ty) := (hc4 _ _ (by first | omega | (simp; done) | (simp; omega))).trans (by first | (with_reducible assumption) | (simp [go_sem]; done) | (simp [go_sem, *]; done) | assumption)
      have g4x9 : w4.cell? ⟨w3.heap.size, 1, none⟩ = some (.int .i64 tn) := (hc4 _ _ (by first | omega | (simp; done) | (simp; omega))).trans (by first | (with_reducible assumption) | (simp [go_sem]; done) | (simp [go_sem, *]; done) | assumption)
      have g4x10 : w4.cell? ⟨w3.heap.size, 2, none⟩ = some (.bool tl) := (hc4 _ _ (by first | omega | (simp; done) | (simp; omega))).trans (by first | (with_reducible assumption) | (simp [go_sem]; done) | (simp [go_sem, *]; done) | assumption)
      have g4x11 : w4.cell? ⟨w3.heap.size, 3, none⟩ = some (.int .i64 td) := (hc4 _ _ (by first | omega | (simp; done) | (simp; omega))).trans (by first | (with_reducible assumption) | (simp [go_sem]; done) | (simp [go_sem, *]; done) | assumption)
      go_wp2_with fail
      refine (H1.out _).mono ?_
      rintro e w5 ⟨rfl, hb5⟩
      obtain ⟨hc5, hf5⟩ := bcell hb5
      have hz5 := hb5.size
      try simp at hz5
      have hl5w2 : w2.heap.size < w5.heap.size := by omega
      have hm5w2 : w2.heap.size ≤ w5.heap.size := by omega
      have hl5w3 : w3.heap.size < w5.heap.size := by omega
      have hm5w3 : w3.heap.size ≤ w5.heap.size := by omega
      have hs5x0 : w1.heap.size < w5.heap.size := by omega
      have g5x0 : w5.cell? ⟨w1.heap.size, 0, none⟩ = some (.int .i64 ry) := (hc5 _ _ (by first | omega | (simp; done) | (simp; omega))).trans (by first | (with_reducible assumption) | (simp [go_sem]; done) | (simp [go_sem, *]; done) | assumption)
      have g5x1 : w5.cell? ⟨w1.heap.size, 1, none⟩ = some (.int .i64 rn) := (hc5 _ _ (by first | omega | (simp; done) | (simp; omega))).trans (by first | (with_reducible assumption) | (simp [go_sem]; done) | (simp [go_sem, *]; done) | assumption)
      have g5x2 : w5.cell? ⟨w1.heap.size, 2, none⟩ = some (.bool rl) := (hc5 _ _ (by first | omega | (simp; done) | (simp; omega))).trans (by first | (with_reducible assumption) | (simp [go_sem]; done) | (simp [go_sem, *]; done) | assumption)
      have g5x3 : w5.cell? ⟨w1.heap.size, 3, none⟩ = some (.int .i64 rd) := (hc5 _ _ (by first | omega | (simp; done) | (simp; omega))).trans (by first | (with_reducible assumption) | (simp [go_sem]; done) | (simp [go_sem, *]; done) | assumption)
      have g5x4 : w5.cell? ⟨w2.heap.size, 0, none⟩ = some (.int .i64 sy) := (hc5 _ _ (by first | omega | (simp; done) | (simp; omega))).trans (by first | (with_reducible assumption) | (simp [go_sem]; done) | (simp [go_sem, *]; done) | assumption)
      have g5x5 : w5.cell? ⟨w2.heap.size, 1, none⟩ = some (.int .i64 sn) := (hc5 _ _ (by first | omega | (simp; done) | (simp; omega))).trans (by first | (with_reducible assumption) | (simp [go_sem]; done) | (simp [go_sem, *]; done) | assumption)
      have g5x6 : w5.cell? ⟨w2.heap.size, 2, none⟩ = some (.bool sl) := (hc5 _ _ (by first | omega | (simp; done) | (simp; omega))).trans (by first | (with_reducible assumption) | (simp [go_sem]; done) | (simp [go_sem, *]; done) | assumption)
      have g5x7 : w5.cell? ⟨w2.heap.size, 3, none⟩ = some (.int .i64 sd) := (hc5 _ _ (by first | omega | (simp; done) | (simp; omega))).trans (by first | (with_reducible assumption) | (simp [go_sem]; done) | (simp [go_sem, *]; done) | assumption)
      have g5x8 : w5.cell? ⟨w3.heap.size, 0, none⟩ = some (.int .i64 ty) := (hc5 _ _ (by first | omega | (simp; done) | (simp; omega))).trans (by first | (with_reducible assumption) | (simp [go_sem]; done) | (simp [go_sem, *]; done) | assumption)
      have g5x9 : w5.cell? ⟨w3.heap.size, 1, none⟩ = some (.int .i64 tn) := (hc5 _ _ (by first | omega | (simp; done) | (simp; omega))).trans (by first | (with_reducible assumption) | (simp [go_sem]; done) | (simp [go_sem, *]; done) | assumption)
      have g5x10 : w5.cell? ⟨w3.heap.size, 2, none⟩ = some (.bool tl) := (hc5 _ _ (by first | omega | (simp; done) | (simp; omega))).trans (by first | (with_reducible assumption) | (simp [go_sem]; done) | (simp [go_sem, *]; done) | assumption)
      have g5x11 : w5.cell? ⟨w3.heap.size, 3, none⟩ = some (.int .i64 td) := (hc5 _ _ (by first | omega | (simp; done) | (simp; omega))).trans (by first | (with_reducible assumption) | (simp [go_sem]; done) | (simp [go_sem, *]; done) | assumption)
      go_wp2_with fail
      go_ret
      refine ⟨by first | rfl | (simp [*]; done), ?_⟩
      repeat (first | (with_reducible exact Below.refl _ _) | (with_reducible assumption) | (with_reducible refine bdrew ?_) | (with_reducible refine baa ?_ _) | (with_reducible refine bs ?_ (by first | exact Nat.le_refl _ | omega | (simp; done) | (simp; omega)) _) | (with_reducible refine bt ?_ (by with_reducible assumption)))
    · refine (awake16 _ (Tab.below hT (by repeat (first | (with_reducible exact Below.refl _ _) | (with_reducible assumption) | (with_reducible refine bdrew ?_) | (with_reducible refine baa ?_ _) | (with_reducible refine bs ?_ (by first | exact Nat.le_refl _ | omega | (simp; done) | (simp; omega)) _) | (with_reducible refine bt ?_ (by with_reducible assumption))))) (Tab.below hL (by repeat (first | (with_reducible exact Below.refl _ _) | (with_reducible assumption) | (with_reducible refine bdrew ?_) | (with_reducible refine baa ?_ _) | (with_reducible refine bs ?_ (by first | exact Nat.le_refl _ | omega | (simp; done) | (simp; omega)) _) | (with_reducible refine bt ?_ (by with_reducible assumption)))))).mono ?_
      rintro e w4 ⟨rfl, hb4⟩
      obtain ⟨hc4, hf4⟩ := bcell hb4
      have hz4 := hb4.size
      try simp at hz4
      have hl4w2 : w2.heap.size < w4.heap.size := by omega
      have hm4w2 : w2.heap.size ≤ w4.heap.size := by omega
      have hl4w3 : w3.heap.size < w4.heap.size := by omega
      have hm4w3 : w3.heap.size ≤ w4.heap.size := by omega
      have hs4x0 : w1.heap.size < w4.heap.size := by omega
      have g4x0 : w4.cell? ⟨w1.heap.size, 0, none⟩ = some (.int .i64 ry) := (hc4 _ _ (by first | omega | (simp; done) | (simp; omega))).trans (by first | (with_reducible assumption) | (simp [go_sem]; done) | (simp [go_sem, *]; done) | assumption)
      have g4x1 : w4.cell? ⟨w1.heap.size, 1, none⟩ = some (.int .i64 rn) := (hc4 _ _ (by first | omega | (simp; done) | (simp; omega))).trans (by first | (with_reducible assumption) | (simp [go_sem]; done) | (simp [go_sem, *]; done) | assumption)
      have g4x2 : w4.cell? ⟨w1.heap.size, 2, none⟩ = some (.bool rl) := (hc4 _ _ (by first | omega | (simp; done) | (simp; omega))).trans (by first | (with_reducible assumption) | (simp [go_sem]; done) | (simp [go_sem, *]; done) | assumption)
      have g4x3 : w4.cell? ⟨w1.heap.size, 3, none⟩ = some (.int .i64 rd) := (hc4 _ _ (by first | omega | (simp; done) | (simp; omega))).trans (by first | (with_reducible assumption) | (simp [go_sem]; done) | (simp [go_sem, *]; done) | assumption)
      have g4x4 : w4.cell? ⟨w2.heap.size, 0, none⟩ = some (.int .i64 sy) := (hc4 _ _ (by first | omega | (simp; done) | (simp; omega))).trans (by first | (with_reducible assumption) | (simp [go_sem]; done) | (simp [go_sem, *]; done) | assumption)
      have g4x5 : w4.cell? ⟨w2.heap.size, 1, none⟩ = some (.int .i64 sn) := (hc4 _ _ (by first | omega | (simp; done) | (simp; omega))).trans (by first | (with_reducible assumption) | (simp [go_sem]; done) | (simp [go_sem, *]; done) | assumption)
      have g4x6 : w4.cell? ⟨w2.heap.size, 2, none⟩ = some (.bool sl) := (hc4 _ _ (by first | omega | (simp; done) | (simp; omega))).trans (by first | (with_reducible assumption) | (simp [go_sem]; done) | (simp [go_sem, *]; done) | assumption)
      have g4x7 : w4.cell? ⟨w2.heap.size, 3, none⟩ = some (.int .i64 sd) := (hc4 _ _ (by first | omega | (simp; done) | (simp; omega))).trans (by first | (with_reducible assumption) | (simp [go_sem]; done) | (simp [go_sem, *]; done) | assumption)
      have g4x8 : w4.cell? ⟨w3.heap.size, 0, none⟩ = some (.int .i64 ty) := (hc4 _ _ (by first | omega | (simp; done) | (simp; omega))).trans (by first | (with_reducible assumption) | (simp [go_sem]; done) | (simp [go_sem, *]; done) | assumption)
      have g4x9 : w4.cell? ⟨w3.heap.size, 1, none⟩ = some (.int .i64 tn) := (hc4 _ _ (by first | omega | (simp; done) | (simp; omega))).trans (by first | (with_reducible assumption) | (simp [go_sem]; done) | (simp [go_sem, *]; done) | assumption)
      have g4x10 : w4.cell? ⟨w3.heap.size, 2, none⟩ = some (.bool tl) := (hc4 _ _ (by first | omega | (simp; done) | (simp; omega))).trans (by first | (with_reducible assumption) | (simp [go_sem]; done) | (simp [go_sem, *]; done) | assumption)
      have g4x11 : w4.cell? ⟨w3.heap.size, 3, none⟩ = some (.int .i64 td) := (hc4 _ _ (by first | omega | (simp; done) | (simp; omega))).trans (by first | (with_reducible assumption) | (simp [go_sem]; done) | (simp [go_sem, *]; done) | assumption)
      go_wp2_with fail
      refine (H1.out _).mono ?_
      rintro e w5 ⟨rfl, hb5⟩
      obtain ⟨hc5, hf5⟩ := bcell hb5
      have hz5 := hb5.size
      try simp at hz5
      have hl5w2 : w2.heap.size < w5.heap.size := by omega
      have hm5w2 : w2.heap.size ≤ w5.heap.size := by omega
      have hl5w3 : w3.heap.size < w5.heap.size := by omega
      have hm5w3 : w3.heap.size ≤ w5.heap.size := by omega
      have hs5x0 : w1.heap.size < w5.heap.size := by omega
      have g5x0 : w5.cell? ⟨w1.heap.size, 0, none⟩ = some (.int .i64 ry) := (hc5 _ _ (by first | omega | (simp; done) | (simp; omega))).trans (by first | (with_reducible assumption) | (simp [go_sem]; done) | (simp [go_sem, *]; done) | assumption)
      have g5x1 : w5.cell? ⟨w1.heap.size, 1, none⟩ = some (.int .i64 rn) := (hc5 _ _ (by first | omega | (simp; done) | (simp; omega))).trans (by first | (with_reducible assumption) | (simp [go_sem]; done) | (simp [go_sem, *]; done) | assumption)
      have g5x2 : w5.cell? ⟨w1.heap.size, 2, none⟩ = some (.bool rl) := (hc5 _ _ (by first | omega | (simp; done) | (simp; omega))).trans (by first | (with_reducible assumption) | (simp [go_sem]; done) | (simp [go_sem, *]; done) | assumption)
      have g5x3 : w5.cell? ⟨w1.heap.size, 3, none⟩ = some (.int .i64 rd) := (hc5 _ _ (by first | omega | (simp; done) | (simp; omega))).trans (by first | (with_reducible assumption) | (simp [go_sem]; done) | (simp [go_sem, *]; done) | assumption)
      have g5x4 : w5.cell? ⟨w2.heap.size, 0, none⟩ = some (.int .i64 sy) := (hc5 _ _ (by first | omega | (simp; done) | (simp; omega))).trans (by first | (with_reducible assumption) | (simp [go_sem]; done) | (simp [go_sem, *]; done) | assumption)
      have g5x5 : w5.cell? ⟨w2.heap.size, 1, none⟩ = some (.int .i64 sn) := (hc5 _ _ (by first | omega | (simp; done) | (simp; omega))).trans (by first | (with_reducible assumption) | (simp [go_sem]; done) | (simp [go_sem, *]; done) | assumption)
      have g5x6 : w5.cell? ⟨w2.heap.size, 2, none⟩ = some (.bool sl) := (hc5 _ _ (by first | omega | (simp; done) | (simp; omega))).trans (by first | (with_reducible assumption) | (simp [go_sem]; done) | (simp [go_sem, *]; done) | assumption)
      have g5x7 : w5.cell? ⟨w2.heap.size, 3, none⟩ = some (.int .i64 sd) := (hc5 _ _ (by first | omega | (simp; done) | (simp; omega))).trans (by first | (with_reducible assumption) | (simp [go_sem]; done) | (simp [go_sem, *]; done) | assumption)
      have g5x8 : w5.cell? ⟨w3.heap.size, 0, none⟩ = some (.int .i64 ty) := (hc5 _ _ (by first | omega | (simp; done) | (simp; omega))).trans (by first | (with_reducible assumption) | (simp [go_sem]; done) | (simp [go_sem, *]; done) | assumption)
      have g5x9 : w5.cell? ⟨w3.heap.size, 1, none⟩ = some (.int .i64 tn) := (hc5 _ _ (by first | omega | (simp; done) | (simp; omega))).trans (by first | (with_reducible assumption) | (simp [go_sem]; done) | (simp [go_sem, *]; done) | assumption)
      have g5x10 : w5.cell? ⟨w3.heap.size, 2, none⟩ = some (.bool tl) := (hc5 _ _ (by first | omega | (simp; done) | (simp; omega))).trans (by first | (with_reducible assumption) | (simp [go_sem]; done) | (simp [go_sem, *]; done) | assumption)
      have g5x11 : w5.cell? ⟨w3.heap.size, 3, none⟩ = some (.int .i64 td) := (hc5 _ _ (by first | omega | (simp; done) | (simp; omega))).trans (by first | (with_reducible assumption) | (simp [go_sem]; done) | (simp [go_sem, *]; done) | assumption)
      go_wp2_with fail
      refine (H2.out _).mono ?_
      rintro e w6 ⟨rfl, hb6⟩
      obtain ⟨hc6, hf6⟩ := bcell hb6
      have hz6 := hb6.size
      try simp at hz6
      go_wp2_with fail
      go_ret
      refine ⟨by first | rfl | (simp [*]; done), ?_⟩
      repeat (first | (with_reducible exact Below.refl _ _) | (with_reducible assumption) | (with_reducible refine bdrew ?_) | (with_reducible refine baa ?_ _) | (with_reducible refine bs ?_ (by first | exact Nat.le_refl _ | omega | (simp; done) | (simp; omega)) _) | (with_reducible refine bt ?_ (by with_reducible assumption)))
theorem AddRises_walk (y n : Int) (l : Bool) (d p q k : Int) (hy : I64 y) (hn : I64 n) (hd : I64 d) (hp : -32768 ≤ p ∧ p ≤ 32767) (hq : -32768 ≤ q ∧ q ≤ 32767) (hk : 0 ≤ k ∧ k ≤ 255) (w : World) (hT : Tab w 8 kevCells) (hL : Tab w 5 lenCells) :
    Calls Tryd.prog 8 #[.agg #[.int .i64 y, .int .i64 n, .bool l, .int .i64 d, .int .i16 p, .int .i16 q, .int .u8 k]] w fun e w' => e = .returned (.bool true) ∧ Below w.heap.size w w' := by
  obtain ⟨ry, rn, rl, rd, er, h0⟩ := A16.to_some y n l d p q 0 0 0
  obtain ⟨sy, sn, sl, sd, es, h1⟩ := A16.to_some y n l d (p + 1 + k) q 0 0 0
  obtain ⟨ty, tn, tl, td, et, h2⟩ := A16.to_some y n l d p (q + 1 + k) 0 0 0
  have e0 := h0.e
  have e1 := h1.e
  have e2 := h2.e
  refine AddRises_go y n l d p q k hp hq hk ry rn rl rd er sy sn sl sd es ty tn tl td et _ _ w hT hL (Lib.hid fun w hT hL => add_To y n l d p q 0 0 0 w hy hT hL ry rn rl rd er (Lib.hid h0)) (Lib.hid fun w hT hL => add_To y n l d (p + 1 + k) q 0 0 0 w hy hT hL sy sn sl sd es (Lib.hid h1)) (Lib.hid fun w hT hL => add_To y n l d p (q + 1 + k) 0 0 0 w hy hT hL ty tn tl td et (Lib.hid h2)) (Lib.hid fun w => ref10_Less ry rn rl rd sy sn sl sd w) (Lib.hid fun w => ref10_Less ry rn rl rd ty tn tl td w) (Lib.hid ?_)
  by_cases c0 : er = 0
  · refine .inr ⟨by simpa using c0, ?_, ?_⟩
    · by_cases c1 : es = 0
      · refine .inr ⟨by simpa using c1, ?_⟩
        have z0 := e0.symm.trans c0
        have z1 := e1.symm.trans c1
        obtain ⟨_, v0, d0, _⟩ := h0.date z0
        obtain ⟨_, v1, d1, _⟩ := h1.date z1
        have hr := A16.rises_years (k := 1 + k) (by omega) z0 (by rw [show p + (1 + k) = p + 1 + k by omega]; exact z1)
        rw [show p + (1 + k) = p + 1 + k by omega] at hr
        rw [D10.less_day v0 v1, d0, d1]
        simpa using hr
      · exact .inl (by simpa using c1)
    · by_cases c1 : et = 0
      · refine .inr ⟨by simpa using c1, ?_⟩
        have z0 := e0.symm.trans c0
        have z1 := e2.symm.trans c1
        obtain ⟨_, v0, d0, _⟩ := h0.date z0
        obtain ⟨_, v1, d1, _⟩ := h2.date z1
        have hr := A16.rises_months (k := 1 + k) (by omega) z0 (by rw [show q + (1 + k) = q + 1 + k by omega]; exact z1)
        rw [show q + (1 + k) = q + 1 + k by omega] at hr
        rw [D10.less_day v0 v1, d0, d1]
        simpa using hr
      · exact .inl (by simpa using c1)
  · exact .inl (by simpa using c0)
end Go.Proofs.YtmiadhiomingmaaDoor
