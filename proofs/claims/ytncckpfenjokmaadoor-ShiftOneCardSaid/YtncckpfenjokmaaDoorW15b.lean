/- Layer 15: its other laws. -/
import Derived.Test.YtncckpfenjokmaaDoorW15
namespace Go.Proofs.YtncckpfenjokmaaDoor
open Go.ChangeShapes Go.WideShapes Go.ChangeAt Go.RowKit
set_option linter.unusedVariables false
set_option maxRecDepth 100000
set_option maxHeartbeats 2000000 in
theorem ShiftBack_no (y n : Int) (l : Bool) (k m : Int) (hy : I64 y) (hk : -2147483648 ≤ k ∧ k ≤ 2147483647) (hm : -2147483648 ≤ m ∧ m ≤ 2147483647) (a b : Int) (ha : k.tmod 200000 = a) (hb : m.tmod 200000 = b) (w : World) (hT : Tab w 8 kevCells) (hL : Tab w 5 lenCells) (he : ¬ S15.monE y n l a = 0) :
    Calls Tryd.prog 11 #[.agg #[.int .i64 y, .int .i64 n, .bool l, .int .i32 k, .int .i32 m]] w fun e w' => e = .returned (.bool true) ∧ Below w.heap.size w w' := by
  have a1 : -200000 < a ∧ a < 200000 := by rw [← ha]; exact ⟨Int.lt_tmod_of_pos k (by omega), Int.tmod_lt_of_pos k (by omega)⟩
  have b1 : -200000 < b ∧ b < 200000 := by rw [← hb]; exact ⟨Int.lt_tmod_of_pos m (by omega), Int.tmod_lt_of_pos m (by omega)⟩
  obtain ⟨a1, a2⟩ := a1
  obtain ⟨b1, b2⟩ := b1
  have HM1 := Lib.hid (fun w hT hL => shift_Months y n l a w hy hT hL)
  obtain ⟨z1, z2, z3⟩ := S15.mon_no he
  rw [z1, z2, z3] at HM1
  generalize S15.monE y n l a = oe at *
  have he2 : (oe != 0) = true := by simpa using he
  clear z1 z2 z3 he
  go_enter Tryd.func11, Tryd.ntmps11
  go_wp2_with fail
  go_region
  go_wp2_with fail
  refine settleC (fun W => CodeAt W (w.heap.size + 1) n l ∧ Below w.heap.size w W) ⟨?_, ?_⟩ ?_
  · first | exact codeAt_alloc2 _ _ _ _ _ | exact ⟨by simp [go_sem], by simp [go_sem], fun i => by simp [go_sem], by simp⟩
  · repeat (first | (with_reducible exact Below.refl _ _) | (with_reducible assumption) | (with_reducible refine bdrew ?_) | (with_reducible refine baa ?_ _) | (with_reducible refine bs ?_ (by first | exact Nat.le_refl _ | omega | (simp; omega)) _) | (with_reducible refine bt ?_ (by with_reducible assumption)))
  rintro W0 ⟨⟨c0, c1, cf, cs⟩, hB0⟩
  refine (HM1.out _ (Tab.below hT (by repeat (first | (with_reducible exact Below.refl _ _) | (with_reducible assumption) | (with_reducible refine bdrew ?_) | (with_reducible refine baa ?_ _) | (with_reducible refine bs ?_ (by first | exact Nat.le_refl _ | omega | (simp; omega)) _) | (with_reducible refine bt ?_ (by with_reducible assumption))))) (Tab.below hL (by repeat (first | (with_reducible exact Below.refl _ _) | (with_reducible assumption) | (with_reducible refine bdrew ?_) | (with_reducible refine baa ?_ _) | (with_reducible refine bs ?_ (by first | exact Nat.le_refl _ | omega | (simp; omega)) _) | (with_reducible refine bt ?_ (by with_reducible assumption)))))).mono ?_
  rintro e w1 ⟨rfl, hb1⟩
  obtain ⟨hc1, hf1⟩ := bcell hb1
  have hz1 := hb1.size
  try simp at hz1
  have hs1x0 : (w.heap.size + 1) < w1.heap.size := by omega
  have g1x0 : w1.cell? ⟨(w.heap.size + 1), 0, none⟩ = some (.int .i64 n) := (hc1 _ _ (by first | omega | (simp; done) | (simp; omega))).trans (by first | (with_reducible assumption) | (simp [go_sem]; done) | (simp [go_sem, *]; done) | assumption)
  have g1x1 : w1.cell? ⟨(w.heap.size + 1), 1, none⟩ = some (.bool l) := (hc1 _ _ (by first | omega | (simp; done) | (simp; omega))).trans (by first | (with_reducible assumption) | (simp [go_sem]; done) | (simp [go_sem, *]; done) | assumption)
  go_wp2_with fail
  refine (awake15 _ (Tab.below hT (by repeat (first | (with_reducible exact Below.refl _ _) | (with_reducible assumption) | (with_reducible refine bdrew ?_) | (with_reducible refine baa ?_ _) | (with_reducible refine bs ?_ (by first | exact Nat.le_refl _ | omega | (simp; omega)) _) | (with_reducible refine bt ?_ (by with_reducible assumption))))) (Tab.below hL (by repeat (first | (with_reducible exact Below.refl _ _) | (with_reducible assumption) | (with_reducible refine bdrew ?_) | (with_reducible refine baa ?_ _) | (with_reducible refine bs ?_ (by first | exact Nat.le_refl _ | omega | (simp; omega)) _) | (with_reducible refine bt ?_ (by with_reducible assumption)))))).mono ?_
  rintro e w2 ⟨rfl, hb2⟩
  obtain ⟨hc2, hf2⟩ := bcell hb2
  have hz2 := hb2.size
  try simp at hz2
  have hl2w1 : w1.heap.size < w2.heap.size := by omega
  have hm2w1 : w1.heap.size ≤ w2.heap.size := by omega
  have g2x0 : w2.cell? ⟨w1.heap.size, 0, none⟩ = some (.int .i64 0) := (hc2 _ _ (by first | omega | (simp; done) | (simp; omega))).trans (by first | (with_reducible assumption) | (simp [go_sem]; done) | (simp [go_sem, *]; done) | assumption)
  have g2x1 : w2.cell? ⟨w1.heap.size, 1, none⟩ = some (.bool false) := (hc2 _ _ (by first | omega | (simp; done) | (simp; omega))).trans (by first | (with_reducible assumption) | (simp [go_sem]; done) | (simp [go_sem, *]; done) | assumption)
  go_wp2_with fail
  go_ret
  refine ⟨by first | rfl | simp [*], ?_⟩
  repeat (first | (with_reducible exact Below.refl _ _) | (with_reducible assumption) | (with_reducible refine bdrew ?_) | (with_reducible refine baa ?_ _) | (with_reducible refine bs ?_ (by first | exact Nat.le_refl _ | omega | (simp; omega)) _) | (with_reducible refine bt ?_ (by with_reducible assumption)))
set_option maxHeartbeats 2000000 in
theorem ShiftBack_ok (y n : Int) (l : Bool) (k m : Int) (hy : I64 y) (hk : -2147483648 ≤ k ∧ k ≤ 2147483647) (hm : -2147483648 ≤ m ∧ m ≤ 2147483647) (a b : Int) (ha : k.tmod 200000 = a) (hb : m.tmod 200000 = b) (w : World) (hT : Tab w 8 kevCells) (hL : Tab w 5 lenCells) (he : S15.monE y n l a = 0) :
    Calls Tryd.prog 11 #[.agg #[.int .i64 y, .int .i64 n, .bool l, .int .i32 k, .int .i32 m]] w fun e w' => e = .returned (.bool true) ∧ Below w.heap.size w w' := by
  have a1 : -200000 < a ∧ a < 200000 := by rw [← ha]; exact ⟨Int.lt_tmod_of_pos k (by omega), Int.tmod_lt_of_pos k (by omega)⟩
  have b1 : -200000 < b ∧ b < 200000 := by rw [← hb]; exact ⟨Int.lt_tmod_of_pos m (by omega), Int.tmod_lt_of_pos m (by omega)⟩
  obtain ⟨a1, a2⟩ := a1
  obtain ⟨b1, b2⟩ := b1
  have HM1 := Lib.hid (fun w hT hL => shift_Months y n l a w hy hT hL)
  have HM4 := Lib.hid (fun w hT hL => shift_Months y n l (a + b) w hy hT hL)
  obtain ⟨_, y1, y2, _⟩ := S15.mon_there he
  have HM2 := fun w hT hL => shift_Months (S15.monY y n l a) (S15.monN y n l a) (S15.monL y n l a) (-a) w ⟨by omega, by omega⟩ hT hL
  obtain ⟨k1, k2, k3, k4⟩ := S15.mon_back he
  rw [k1, k2, k3, k4] at HM2
  have HM2 := Lib.hid HM2
  have HM3 := fun w hT hL => shift_Months (S15.monY y n l a) (S15.monN y n l a) (S15.monL y n l a) b w ⟨by omega, by omega⟩ hT hL
  obtain ⟨q1, q2, q3, q4⟩ := S15.mon_sum he (b := b) (by omega) (by omega) (by omega) (by omega)
  rw [q1, q2, q3, q4] at HM3
  have HM3 := Lib.hid HM3
  rename_i h2 h3
  clear h2 h3 k1 k2 k3 k4 q1 q2 q3 q4
  rw [he] at HM1
  clear he
  generalize S15.monY y n l (a + b) = v1 at *
  generalize S15.monN y n l (a + b) = v2 at *
  generalize S15.monL y n l (a + b) = v3 at *
  generalize S15.monE y n l (a + b) = v4 at *
  generalize S15.monY y n l a = u1 at *
  generalize S15.monN y n l a = u2 at *
  generalize S15.monL y n l a = u3 at *
  go_enter Tryd.func11, Tryd.ntmps11
  go_wp2_with fail
  go_region
  go_wp2_with fail
  refine settleC (fun W => CodeAt W (w.heap.size + 1) n l ∧ Below w.heap.size w W) ⟨?_, ?_⟩ ?_
  · first | exact codeAt_alloc2 _ _ _ _ _ | exact ⟨by simp [go_sem], by simp [go_sem], fun i => by simp [go_sem], by simp⟩
  · repeat (first | (with_reducible exact Below.refl _ _) | (with_reducible assumption) | (with_reducible refine bdrew ?_) | (with_reducible refine baa ?_ _) | (with_reducible refine bs ?_ (by first | exact Nat.le_refl _ | omega | (simp; omega)) _) | (with_reducible refine bt ?_ (by with_reducible assumption)))
  rintro W0 ⟨⟨c0, c1, cf, cs⟩, hB0⟩
  refine (HM1.out _ (Tab.below hT (by repeat (first | (with_reducible exact Below.refl _ _) | (with_reducible assumption) | (with_reducible refine bdrew ?_) | (with_reducible refine baa ?_ _) | (with_reducible refine bs ?_ (by first | exact Nat.le_refl _ | omega | (simp; omega)) _) | (with_reducible refine bt ?_ (by with_reducible assumption))))) (Tab.below hL (by repeat (first | (with_reducible exact Below.refl _ _) | (with_reducible assumption) | (with_reducible refine bdrew ?_) | (with_reducible refine baa ?_ _) | (with_reducible refine bs ?_ (by first | exact Nat.le_refl _ | omega | (simp; omega)) _) | (with_reducible refine bt ?_ (by with_reducible assumption)))))).mono ?_
  rintro e w1 ⟨rfl, hb1⟩
  obtain ⟨hc1, hf1⟩ := bcell hb1
  have hz1 := hb1.size
  try simp at hz1
  have hs1x0 : (w.heap.size + 1) < w1.heap.size := by omega
  have g1x0 : w1.cell? ⟨(w.heap.size + 1), 0, none⟩ = some (.int .i64 n) := (hc1 _ _ (by first | omega | (simp; done) | (simp; omega))).trans (by first | (with_reducible assumption) | (simp [go_sem]; done) | (simp [go_sem, *]; done) | assumption)
  have g1x1 : w1.cell? ⟨(w.heap.size + 1), 1, none⟩ = some (.bool l) := (hc1 _ _ (by first | omega | (simp; done) | (simp; omega))).trans (by first | (with_reducible assumption) | (simp [go_sem]; done) | (simp [go_sem, *]; done) | assumption)
  go_wp2_with fail
  refine (HM2.out _ (Tab.below hT (by repeat (first | (with_reducible exact Below.refl _ _) | (with_reducible assumption) | (with_reducible refine bdrew ?_) | (with_reducible refine baa ?_ _) | (with_reducible refine bs ?_ (by first | exact Nat.le_refl _ | omega | (simp; omega)) _) | (with_reducible refine bt ?_ (by with_reducible assumption))))) (Tab.below hL (by repeat (first | (with_reducible exact Below.refl _ _) | (with_reducible assumption) | (with_reducible refine bdrew ?_) | (with_reducible refine baa ?_ _) | (with_reducible refine bs ?_ (by first | exact Nat.le_refl _ | omega | (simp; omega)) _) | (with_reducible refine bt ?_ (by with_reducible assumption)))))).mono ?_
  rintro e w2 ⟨rfl, hb2⟩
  obtain ⟨hc2, hf2⟩ := bcell hb2
  have hz2 := hb2.size
  try simp at hz2
  have hl2w1 : w1.heap.size < w2.heap.size := by omega
  have hm2w1 : w1.heap.size ≤ w2.heap.size := by omega
  have hs2x0 : (w.heap.size + 1) < w2.heap.size := by omega
  have g2x0 : w2.cell? ⟨(w.heap.size + 1), 0, none⟩ = some (.int .i64 n) := (hc2 _ _ (by first | omega | (simp; done) | (simp; omega))).trans (by first | (with_reducible assumption) | (simp [go_sem]; done) | (simp [go_sem, *]; done) | assumption)
  have g2x1 : w2.cell? ⟨(w.heap.size + 1), 1, none⟩ = some (.bool l) := (hc2 _ _ (by first | omega | (simp; done) | (simp; omega))).trans (by first | (with_reducible assumption) | (simp [go_sem]; done) | (simp [go_sem, *]; done) | assumption)
  have g2x2 : w2.cell? ⟨w1.heap.size, 0, none⟩ = some (.int .i64 u2) := (hc2 _ _ (by first | omega | (simp; done) | (simp; omega))).trans (by first | (with_reducible assumption) | (simp [go_sem]; done) | (simp [go_sem, *]; done) | assumption)
  have g2x3 : w2.cell? ⟨w1.heap.size, 1, none⟩ = some (.bool u3) := (hc2 _ _ (by first | omega | (simp; done) | (simp; omega))).trans (by first | (with_reducible assumption) | (simp [go_sem]; done) | (simp [go_sem, *]; done) | assumption)
  go_wp2_with fail
  refine (HM3.out _ (Tab.below hT (by repeat (first | (with_reducible exact Below.refl _ _) | (with_reducible assumption) | (with_reducible refine bdrew ?_) | (with_reducible refine baa ?_ _) | (with_reducible refine bs ?_ (by first | exact Nat.le_refl _ | omega | (simp; omega)) _) | (with_reducible refine bt ?_ (by with_reducible assumption))))) (Tab.below hL (by repeat (first | (with_reducible exact Below.refl _ _) | (with_reducible assumption) | (with_reducible refine bdrew ?_) | (with_reducible refine baa ?_ _) | (with_reducible refine bs ?_ (by first | exact Nat.le_refl _ | omega | (simp; omega)) _) | (with_reducible refine bt ?_ (by with_reducible assumption)))))).mono ?_
  rintro e w3 ⟨rfl, hb3⟩
  obtain ⟨hc3, hf3⟩ := bcell hb3
  have hz3 := hb3.size
  try simp at hz3
  have hl3w1 : w1.heap.size < w3.heap.size := by omega
  have hm3w1 : w1.heap.size ≤ w3.heap.size := by omega
  have hl3w2 : w2.heap.size < w3.heap.size := by omega
  have hm3w2 : w2.heap.size ≤ w3.heap.size := by omega
  have hs3x0 : (w.heap.size + 1) < w3.heap.size := by omega
  have g3x0 : w3.cell? ⟨(w.heap.size + 1), 0, none⟩ = some (.int .i64 n) := (hc3 _ _ (by first | omega | (simp; done) | (simp; omega))).trans (by first | (with_reducible assumption) | (simp [go_sem]; done) | (simp [go_sem, *]; done) | assumption)
  have g3x1 : w3.cell? ⟨(w.heap.size + 1), 1, none⟩ = some (.bool l) := (hc3 _ _ (by first | omega | (simp; done) | (simp; omega))).trans (by first | (with_reducible assumption) | (simp [go_sem]; done) | (simp [go_sem, *]; done) | assumption)
  have g3x2 : w3.cell? ⟨w1.heap.size, 0, none⟩ = some (.int .i64 u2) := (hc3 _ _ (by first | omega | (simp; done) | (simp; omega))).trans (by first | (with_reducible assumption) | (simp [go_sem]; done) | (simp [go_sem, *]; done) | assumption)
  have g3x3 : w3.cell? ⟨w1.heap.size, 1, none⟩ = some (.bool u3) := (hc3 _ _ (by first | omega | (simp; done) | (simp; omega))).trans (by first | (with_reducible assumption) | (simp [go_sem]; done) | (simp [go_sem, *]; done) | assumption)
  have g3x4 : w3.cell? ⟨w2.heap.size, 0, none⟩ = some (.int .i64 n) := (hc3 _ _ (by first | omega | (simp; done) | (simp; omega))).trans (by first | (with_reducible assumption) | (simp [go_sem]; done) | (simp [go_sem, *]; done) | assumption)
  have g3x5 : w3.cell? ⟨w2.heap.size, 1, none⟩ = some (.bool l) := (hc3 _ _ (by first | omega | (simp; done) | (simp; omega))).trans (by first | (with_reducible assumption) | (simp [go_sem]; done) | (simp [go_sem, *]; done) | assumption)
  go_wp2_with fail
  refine (HM4.out _ (Tab.below hT (by repeat (first | (with_reducible exact Below.refl _ _) | (with_reducible assumption) | (with_reducible refine bdrew ?_) | (with_reducible refine baa ?_ _) | (with_reducible refine bs ?_ (by first | exact Nat.le_refl _ | omega | (simp; omega)) _) | (with_reducible refine bt ?_ (by with_reducible assumption))))) (Tab.below hL (by repeat (first | (with_reducible exact Below.refl _ _) | (with_reducible assumption) | (with_reducible refine bdrew ?_) | (with_reducible refine baa ?_ _) | (with_reducible refine bs ?_ (by first | exact Nat.le_refl _ | omega | (simp; omega)) _) | (with_reducible refine bt ?_ (by with_reducible assumption)))))).mono ?_
  rintro e w4 ⟨rfl, hb4⟩
  obtain ⟨hc4, hf4⟩ := bcell hb4
  have hz4 := hb4.size
  try simp at hz4
  have hl4w3 : w3.heap.size < w4.heap.size := by omega
  have hm4w3 : w3.heap.size ≤ w4.heap.size := by omega
  have hs4x0 : (w.heap.size + 1) < w4.heap.size := by omega
  have g4x0 : w4.cell? ⟨(w.heap.size + 1), 0, none⟩ = some (.int .i64 n) := (hc4 _ _ (by first | omega | (simp; done) | (simp; omega))).trans (by first | (with_reducible assumption) | (simp [go_sem]; done) | (simp [go_sem, *]; done) | assumption)
  have g4x1 : w4.cell? ⟨(w.heap.size + 1), 1, none⟩ = some (.bool l) := (hc4 _ _ (by first | omega | (simp; done) | (simp; omega))).trans (by first | (with_reducible assumption) | (simp [go_sem]; done) | (simp [go_sem, *]; done) | assumption)
  have g4x2 : w4.cell? ⟨w3.heap.size, 0, none⟩ = some (.int .i64 v2) := (hc4 _ _ (by first | omega | (simp; done) | (simp; omega))).trans (by first | (with_reducible assumption) | (simp [go_sem]; done) | (simp [go_sem, *]; done) | assumption)
  have g4x3 : w4.cell? ⟨w3.heap.size, 1, none⟩ = some (.bool v3) := (hc4 _ _ (by first | omega | (simp; done) | (simp; omega))).trans (by first | (with_reducible assumption) | (simp [go_sem]; done) | (simp [go_sem, *]; done) | assumption)
  go_wp2_with fail
  refine (awake15 _ (Tab.below hT (by repeat (first | (with_reducible exact Below.refl _ _) | (with_reducible assumption) | (with_reducible refine bdrew ?_) | (with_reducible refine baa ?_ _) | (with_reducible refine bs ?_ (by first | exact Nat.le_refl _ | omega | (simp; omega)) _) | (with_reducible refine bt ?_ (by with_reducible assumption))))) (Tab.below hL (by repeat (first | (with_reducible exact Below.refl _ _) | (with_reducible assumption) | (with_reducible refine bdrew ?_) | (with_reducible refine baa ?_ _) | (with_reducible refine bs ?_ (by first | exact Nat.le_refl _ | omega | (simp; omega)) _) | (with_reducible refine bt ?_ (by with_reducible assumption)))))).mono ?_
  rintro e w5 ⟨rfl, hb5⟩
  obtain ⟨hc5, hf5⟩ := bcell hb5
  have hz5 := hb5.size
  try simp at hz5
  have hl5w3 : w3.heap.size < w5.heap.size := by omega
  have hm5w3 : w3.heap.size ≤ w5.heap.size := by omega
  have hl5w4 : w4.heap.size < w5.heap.size := by omega
  have hm5w4 : w4.heap.size ≤ w5.heap.size := by omega
  have g5x0 : w5.cell? ⟨w3.heap.size, 0, none⟩ = some (.int .i64 v2) := (hc5 _ _ (by first | omega | (simp; done) | (simp; omega))).trans (by first | (with_reducible assumption) | (simp [go_sem]; done) | (simp [go_sem, *]; done) | assumption)
  have g5x1 : w5.cell? ⟨w3.heap.size, 1, none⟩ = some (.bool v3) := (hc5 _ _ (by first | omega | (simp; done) | (simp; omega))).trans (by first | (with_reducible assumption) | (simp [go_sem]; done) | (simp [go_sem, *]; done) | assumption)
  have g5x2 : w5.cell? ⟨w4.heap.size, 0, none⟩ = some (.int .i64 v2) := (hc5 _ _ (by first | omega | (simp; done) | (simp; omega))).trans (by first | (with_reducible assumption) | (simp [go_sem]; done) | (simp [go_sem, *]; done) | assumption)
  have g5x3 : w5.cell? ⟨w4.heap.size, 1, none⟩ = some (.bool v3) := (hc5 _ _ (by first | omega | (simp; done) | (simp; omega))).trans (by first | (with_reducible assumption) | (simp [go_sem]; done) | (simp [go_sem, *]; done) | assumption)
  go_wp2_with fail
  go_ret
  refine ⟨by first | rfl | simp [*], ?_⟩
  repeat (first | (with_reducible exact Below.refl _ _) | (with_reducible assumption) | (with_reducible refine bdrew ?_) | (with_reducible refine baa ?_ _) | (with_reducible refine bs ?_ (by first | exact Nat.le_refl _ | omega | (simp; omega)) _) | (with_reducible refine bt ?_ (by with_reducible assumption)))
theorem ShiftBack_walk (y n : Int) (l : Bool) (k m : Int) (hy : I64 y) (hn : I64 n) (hk : -2147483648 ≤ k ∧ k ≤ 2147483647) (hm : -2147483648 ≤ m ∧ m ≤ 2147483647) (w : World) (hT : Tab w 8 kevCells) (hL : Tab w 5 lenCells) :
    Calls Tryd.prog 11 #[.agg #[.int .i64 y, .int .i64 n, .bool l, .int .i32 k, .int .i32 m]] w fun e w' => e = .returned (.bool true) ∧ Below w.heap.size w w' := by
  by_cases he : S15.monE y n l (k.tmod 200000) = 0
  · exact ShiftBack_ok y n l k m hy hk hm _ _ rfl rfl w hT hL he
  · exact ShiftBack_no y n l k m hy hk hm _ _ rfl rfl w hT hL he
set_option maxHeartbeats 2000000 in
theorem ShiftOne_err (y n : Int) (l : Bool) (hy : I64 y) (hn : I64 n) (w : World) (hT : Tab w 8 kevCells) (hL : Tab w 5 lenCells) (he : ¬ D10.lastE y n l = 0) :
    Calls Tryd.prog 12 #[.int .i64 y, .agg #[.int .i64 n, .bool l]] w fun e w' => e = .returned (.bool true) ∧ Below w.heap.size w w' := by
  have HL := Lib.hid (fun w => ref10_Last y n l w hy)
  have HM := Lib.hid (fun w hT hL => shift_Months y n l 1 w hy hT hL)
  have e : S15.monE y n l 1 = D10.lastE y n l := by unfold S15.monE; rw [if_neg he]
  have e2 := S15.mon_no (k := 1) (by rw [e]; exact he)
  rw [e, e2.1, e2.2.1, e2.2.2] at HM
  clear e e2
  generalize D10.lastE y n l = le at *
  generalize D10.lastV y n l = lv at *
  have he2 : (le != 0) = true := by simpa using he
  go_enter Tryd.func12, Tryd.ntmps12
  go_wp2_with fail
  refine (HL.out _).mono ?_
  rintro e w1 ⟨rfl, hb1⟩
  obtain ⟨hc1, hf1⟩ := bcell hb1
  have hz1 := hb1.size
  try simp at hz1
  have hs1x0 : w.heap.size < w1.heap.size := by omega
  have g1x0 : w1.cell? ⟨w.heap.size, 0, none⟩ = some (.int .i64 n) := (hc1 _ _ (by first | omega | (simp; done) | (simp; omega))).trans (by first | (with_reducible assumption) | (simp [go_sem]; done) | (simp [go_sem, *]; done) | assumption)
  have g1x1 : w1.cell? ⟨w.heap.size, 1, none⟩ = some (.bool l) := (hc1 _ _ (by first | omega | (simp; done) | (simp; omega))).trans (by first | (with_reducible assumption) | (simp [go_sem]; done) | (simp [go_sem, *]; done) | assumption)
  go_wp2_with fail
  refine (HM.out _ (Tab.below hT (by repeat (first | (with_reducible exact Below.refl _ _) | (with_reducible assumption) | (with_reducible refine bdrew ?_) | (with_reducible refine baa ?_ _) | (with_reducible refine bs ?_ (by first | exact Nat.le_refl _ | omega | (simp; omega)) _) | (with_reducible refine bt ?_ (by with_reducible assumption))))) (Tab.below hL (by repeat (first | (with_reducible exact Below.refl _ _) | (with_reducible assumption) | (with_reducible refine bdrew ?_) | (with_reducible refine baa ?_ _) | (with_reducible refine bs ?_ (by first | exact Nat.le_refl _ | omega | (simp; omega)) _) | (with_reducible refine bt ?_ (by with_reducible assumption)))))).mono ?_
  rintro e w2 ⟨rfl, hb2⟩
  obtain ⟨hc2, hf2⟩ := bcell hb2
  have hz2 := hb2.size
  try simp at hz2
  have hs2x0 : w.heap.size < w2.heap.size := by omega
  have g2x0 : w2.cell? ⟨w.heap.size, 0, none⟩ = some (.int .i64 n) := (hc2 _ _ (by first | omega | (simp; done) | (simp; omega))).trans (by first | (with_reducible assumption) | (simp [go_sem]; done) | (simp [go_sem, *]; done) | assumption)
  have g2x1 : w2.cell? ⟨w.heap.size, 1, none⟩ = some (.bool l) := (hc2 _ _ (by first | omega | (simp; done) | (simp; omega))).trans (by first | (with_reducible assumption) | (simp [go_sem]; done) | (simp [go_sem, *]; done) | assumption)
  go_wp2_with fail
  refine (awake15 _ (Tab.below hT (by repeat (first | (with_reducible exact Below.refl _ _) | (with_reducible assumption) | (with_reducible refine bdrew ?_) | (with_reducible refine baa ?_ _) | (with_reducible refine bs ?_ (by first | exact Nat.le_refl _ | omega | (simp; omega)) _) | (with_reducible refine bt ?_ (by with_reducible assumption))))) (Tab.below hL (by repeat (first | (with_reducible exact Below.refl _ _) | (with_reducible assumption) | (with_reducible refine bdrew ?_) | (with_reducible refine baa ?_ _) | (with_reducible refine bs ?_ (by first | exact Nat.le_refl _ | omega | (simp; omega)) _) | (with_reducible refine bt ?_ (by with_reducible assumption)))))).mono ?_
  rintro e w3 ⟨rfl, hb3⟩
  obtain ⟨hc3, hf3⟩ := bcell hb3
  have hz3 := hb3.size
  try simp at hz3
  go_wp2_with fail
  go_ret
  refine ⟨by first | rfl | simp [*], ?_⟩
  repeat (first | (with_reducible exact Below.refl _ _) | (with_reducible assumption) | (with_reducible refine bdrew ?_) | (with_reducible refine baa ?_ _) | (with_reducible refine bs ?_ (by first | exact Nat.le_refl _ | omega | (simp; omega)) _) | (with_reducible refine bt ?_ (by with_reducible assumption)))
set_option maxHeartbeats 2000000 in
theorem ShiftOne_end (y : Int) (l : Bool) (hy : I64 y) (w : World) (hT : Tab w 8 kevCells) (hL : Tab w 5 lenCells) (he : D10.lastE y 12 l = 0) (h9 : y = 9999) :
    Calls Tryd.prog 12 #[.int .i64 y, .agg #[.int .i64 12, .bool l]] w fun e w' => e = .returned (.bool true) ∧ Below w.heap.size w w' := by
  have HL := Lib.hid (fun w => ref10_Last y 12 l w hy)
  have HM := Lib.hid (fun w hT hL => shift_Months y 12 l 1 w hy hT hL)
  have o := S15.one_12 he rfl
  have oe : S15.monE y 12 l 1 = 2 := by omega
  have e2 := S15.mon_no (k := 1) (by rw [oe]; omega)
  rw [oe, e2.1, e2.2.1, e2.2.2] at HM
  clear o oe e2
  rw [he] at HL
  clear he
  generalize D10.lastV y 12 l = lv at *
  subst h9
  go_enter Tryd.func12, Tryd.ntmps12
  go_wp2_with fail
  refine (HL.out _).mono ?_
  rintro e w1 ⟨rfl, hb1⟩
  obtain ⟨hc1, hf1⟩ := bcell hb1
  have hz1 := hb1.size
  try simp at hz1
  have hs1x0 : w.heap.size < w1.heap.size := by omega
  have g1x0 : w1.cell? ⟨w.heap.size, 0, none⟩ = some (.int .i64 12) := (hc1 _ _ (by first | omega | (simp; done) | (simp; omega))).trans (by first | (with_reducible assumption) | (simp [go_sem]; done) | (simp [go_sem, *]; done) | assumption)
  have g1x1 : w1.cell? ⟨w.heap.size, 1, none⟩ = some (.bool l) := (hc1 _ _ (by first | omega | (simp; done) | (simp; omega))).trans (by first | (with_reducible assumption) | (simp [go_sem]; done) | (simp [go_sem, *]; done) | assumption)
  go_wp2_with fail
  refine (HM.out _ (Tab.below hT (by repeat (first | (with_reducible exact Below.refl _ _) | (with_reducible assumption) | (with_reducible refine bdrew ?_) | (with_reducible refine baa ?_ _) | (with_reducible refine bs ?_ (by first | exact Nat.le_refl _ | omega | (simp; omega)) _) | (with_reducible refine bt ?_ (by with_reducible assumption))))) (Tab.below hL (by repeat (first | (with_reducible exact Below.refl _ _) | (with_reducible assumption) | (with_reducible refine bdrew ?_) | (with_reducible refine baa ?_ _) | (with_reducible refine bs ?_ (by first | exact Nat.le_refl _ | omega | (simp; omega)) _) | (with_reducible refine bt ?_ (by with_reducible assumption)))))).mono ?_
  rintro e w2 ⟨rfl, hb2⟩
  obtain ⟨hc2, hf2⟩ := bcell hb2
  have hz2 := hb2.size
  try simp at hz2
  have hs2x0 : w.heap.size < w2.heap.size := by omega
  have g2x0 : w2.cell? ⟨w.heap.size, 0, none⟩ = some (.int .i64 12) := (hc2 _ _ (by first | omega | (simp; done) | (simp; omega))).trans (by first | (with_reducible assumption) | (simp [go_sem]; done) | (simp [go_sem, *]; done) | assumption)
  have g2x1 : w2.cell? ⟨w.heap.size, 1, none⟩ = some (.bool l) := (hc2 _ _ (by first | omega | (simp; done) | (simp; omega))).trans (by first | (with_reducible assumption) | (simp [go_sem]; done) | (simp [go_sem, *]; done) | assumption)
  go_wp2_with fail
  refine (awake15 _ (Tab.below hT (by repeat (first | (with_reducible exact Below.refl _ _) | (with_reducible assumption) | (with_reducible refine bdrew ?_) | (with_reducible refine baa ?_ _) | (with_reducible refine bs ?_ (by first | exact Nat.le_refl _ | omega | (simp; omega)) _) | (with_reducible refine bt ?_ (by with_reducible assumption))))) (Tab.below hL (by repeat (first | (with_reducible exact Below.refl _ _) | (with_reducible assumption) | (with_reducible refine bdrew ?_) | (with_reducible refine baa ?_ _) | (with_reducible refine bs ?_ (by first | exact Nat.le_refl _ | omega | (simp; omega)) _) | (with_reducible refine bt ?_ (by with_reducible assumption)))))).mono ?_
  rintro e w3 ⟨rfl, hb3⟩
  obtain ⟨hc3, hf3⟩ := bcell hb3
  have hz3 := hb3.size
  try simp at hz3
  have hl3w2 : w2.heap.size < w3.heap.size := by omega
  have hm3w2 : w2.heap.size ≤ w3.heap.size := by omega
  have hs3x0 : w.heap.size < w3.heap.size := by omega
  have g3x0 : w3.cell? ⟨w.heap.size, 0, none⟩ = some (.int .i64 12) := (hc3 _ _ (by first | omega | (simp; done) | (simp; omega))).trans (by first | (with_reducible assumption) | (simp [go_sem]; done) | (simp [go_sem, *]; done) | assumption)
  have g3x1 : w3.cell? ⟨w.heap.size, 1, none⟩ = some (.bool l) := (hc3 _ _ (by first | omega | (simp; done) | (simp; omega))).trans (by first | (with_reducible assumption) | (simp [go_sem]; done) | (simp [go_sem, *]; done) | assumption)
  have g3x2 : w3.cell? ⟨w2.heap.size, 0, none⟩ = some (.int .i64 0) := (hc3 _ _ (by first | omega | (simp; done) | (simp; omega))).trans (by first | (with_reducible assumption) | (simp [go_sem]; done) | (simp [go_sem, *]; done) | assumption)
  have g3x3 : w3.cell? ⟨w2.heap.size, 1, none⟩ = some (.bool false) := (hc3 _ _ (by first | omega | (simp; done) | (simp; omega))).trans (by first | (with_reducible assumption) | (simp [go_sem]; done) | (simp [go_sem, *]; done) | assumption)
  go_wp2_with fail
  go_ret
  refine ⟨by first | rfl | simp [*], ?_⟩
  repeat (first | (with_reducible exact Below.refl _ _) | (with_reducible assumption) | (with_reducible refine bdrew ?_) | (with_reducible refine baa ?_ _) | (with_reducible refine bs ?_ (by first | exact Nat.le_refl _ | omega | (simp; omega)) _) | (with_reducible refine bt ?_ (by with_reducible assumption)))
set_option maxHeartbeats 2000000 in
theorem ShiftOne_new (y : Int) (l : Bool) (hy : I64 y) (w : World) (hT : Tab w 8 kevCells) (hL : Tab w 5 lenCells) (he : D10.lastE y 12 l = 0) (h1 : 1 ≤ y) (h9 : y < 9999) :
    Calls Tryd.prog 12 #[.int .i64 y, .agg #[.int .i64 12, .bool l]] w fun e w' => e = .returned (.bool true) ∧ Below w.heap.size w w' := by
  have HL := Lib.hid (fun w => ref10_Last y 12 l w hy)
  have HM := Lib.hid (fun w hT hL => shift_Months y 12 l 1 w hy hT hL)
  have o := S15.one_12 he rfl
  have oe : S15.monE y 12 l 1 = 0 ∧ S15.monY y 12 l 1 = y + 1 ∧ S15.monN y 12 l 1 = 1 ∧ S15.monL y 12 l 1 = false := by
    rcases o with o | o
    · omega
    · exact o.2
  obtain ⟨o1, o2, o3, o4⟩ := oe
  rw [o1, o2, o3, o4] at HM
  have hne : (y == 9999) = false := by simp; omega
  clear o o1 o2 o3 o4
  rw [he] at HL
  clear he
  generalize D10.lastV y 12 l = lv at *
  go_enter Tryd.func12, Tryd.ntmps12
  go_wp2_with fail
  refine (HL.out _).mono ?_
  rintro e w1 ⟨rfl, hb1⟩
  obtain ⟨hc1, hf1⟩ := bcell hb1
  have hz1 := hb1.size
  try simp at hz1
  have hs1x0 : w.heap.size < w1.heap.size := by omega
  have g1x0 : w1.cell? ⟨w.heap.size, 0, none⟩ = some (.int .i64 12) := (hc1 _ _ (by first | omega | (simp; done) | (simp; omega))).trans (by first | (with_reducible assumption) | (simp [go_sem]; done) | (simp [go_sem, *]; done) | assumption)
  have g1x1 : w1.cell? ⟨w.heap.size, 1, none⟩ = some (.bool l) := (hc1 _ _ (by first | omega | (simp; done) | (simp; omega))).trans (by first | (with_reducible assumption) | (simp [go_sem]; done) | (simp [go_sem, *]; done) | assumption)
  go_wp2_with fail
  refine (HM.out _ (Tab.below hT (by repeat (first | (with_reducible exact Below.refl _ _) | (with_reducible assumption) | (with_reducible refine bdrew ?_) | (with_reducible refine baa ?_ _) | (with_reducible refine bs ?_ (by first | exact Nat.le_refl _ | omega | (simp; omega)) _) | (with_reducible refine bt ?_ (by with_reducible assumption))))) (Tab.below hL (by repeat (first | (with_reducible exact Below.refl _ _) | (with_reducible assumption) | (with_reducible refine bdrew ?_) | (with_reducible refine baa ?_ _) | (with_reducible refine bs ?_ (by first | exact Nat.le_refl _ | omega | (simp; omega)) _) | (with_reducible refine bt ?_ (by with_reducible assumption)))))).mono ?_
  rintro e w2 ⟨rfl, hb2⟩
  obtain ⟨hc2, hf2⟩ := bcell hb2
  have hz2 := hb2.size
  try simp at hz2
  have hs2x0 : w.heap.size < w2.heap.size := by omega
  have g2x0 : w2.cell? ⟨w.heap.size, 0, none⟩ = some (.int .i64 12) := (hc2 _ _ (by first | omega | (simp; done) | (simp; omega))).trans (by first | (with_reducible assumption) | (simp [go_sem]; done) | (simp [go_sem, *]; done) | assumption)
  have g2x1 : w2.cell? ⟨w.heap.size, 1, none⟩ = some (.bool l) := (hc2 _ _ (by first | omega | (simp; done) | (simp; omega))).trans (by first | (with_reducible assumption) | (simp [go_sem]; done) | (simp [go_sem, *]; done) | assumption)
  go_wp2_with fail
  refine (awake15 _ (Tab.below hT (by repeat (first | (with_reducible exact Below.refl _ _) | (with_reducible assumption) | (with_reducible refine bdrew ?_) | (with_reducible refine baa ?_ _) | (with_reducible refine bs ?_ (by first | exact Nat.le_refl _ | omega | (simp; omega)) _) | (with_reducible refine bt ?_ (by with_reducible assumption))))) (Tab.below hL (by repeat (first | (with_reducible exact Below.refl _ _) | (with_reducible assumption) | (with_reducible refine bdrew ?_) | (with_reducible refine baa ?_ _) | (with_reducible refine bs ?_ (by first | exact Nat.le_refl _ | omega | (simp; omega)) _) | (with_reducible refine bt ?_ (by with_reducible assumption)))))).mono ?_
  rintro e w3 ⟨rfl, hb3⟩
  obtain ⟨hc3, hf3⟩ := bcell hb3
  have hz3 := hb3.size
  try simp at hz3
  have hl3w2 : w2.heap.size < w3.heap.size := by omega
  have hm3w2 : w2.heap.size ≤ w3.heap.size := by omega
  have hs3x0 : w.heap.size < w3.heap.size := by omega
  have g3x0 : w3.cell? ⟨w.heap.size, 0, none⟩ = some (.int .i64 12) := (hc3 _ _ (by first | omega | (simp; done) | (simp; omega))).trans (by first | (with_reducible assumption) | (simp [go_sem]; done) | (simp [go_sem, *]; done) | assumption)
  have g3x1 : w3.cell? ⟨w.heap.size, 1, none⟩ = some (.bool l) := (hc3 _ _ (by first | omega | (simp; done) | (simp; omega))).trans (by first | (with_reducible assumption) | (simp [go_sem]; done) | (simp [go_sem, *]; done) | assumption)
  have g3x2 : w3.cell? ⟨w2.heap.size, 0, none⟩ = some (.int .i64 1) := (hc3 _ _ (by first | omega | (simp; done) | (simp; omega))).trans (by first | (with_reducible assumption) | (simp [go_sem]; done) | (simp [go_sem, *]; done) | assumption)
  have g3x3 : w3.cell? ⟨w2.heap.size, 1, none⟩ = some (.bool false) := (hc3 _ _ (by first | omega | (simp; done) | (simp; omega))).trans (by first | (with_reducible assumption) | (simp [go_sem]; done) | (simp [go_sem, *]; done) | assumption)
  go_wp2_with fail
  go_ret
  refine ⟨by first | rfl | simp [*], ?_⟩
  repeat (first | (with_reducible exact Below.refl _ _) | (with_reducible assumption) | (with_reducible refine bdrew ?_) | (with_reducible refine baa ?_ _) | (with_reducible refine bs ?_ (by first | exact Nat.le_refl _ | omega | (simp; omega)) _) | (with_reducible refine bt ?_ (by with_reducible assumption)))
set_option maxHeartbeats 2000000 in
theorem ShiftOne_leap (y : Int) (l : Bool) (hy : I64 y) (w : World) (hT : Tab w 8 kevCells) (hL : Tab w 5 lenCells) (he : D10.lastE y 5 l = 0) (hl : l = false) (hp : Cal.leap y = true) :
    Calls Tryd.prog 12 #[.int .i64 y, .agg #[.int .i64 5, .bool l]] w fun e w' => e = .returned (.bool true) ∧ Below w.heap.size w w' := by
  have HL := Lib.hid (fun w => ref10_Last y 5 l w hy)
  have HM := Lib.hid (fun w hT hL => shift_Months y 5 l 1 w hy hT hL)
  obtain ⟨h1, h2, _⟩ := S15.last_in he
  have o := S15.one_in he (by omega)
  subst hl
  obtain ⟨o1, o2, o3, o4, _⟩ := o
  rw [hp] at o3 o4
  rw [o1, o2, show S15.monN y 5 false 1 = 5 from o4, show S15.monL y 5 false 1 = true from o3] at HM
  have HG := Lib.hid (fun w => ref10_Last y 5 true w hy)
  rw [S15.last_0 h1 h2 (by rw [hp]; decide)] at HG
  generalize D10.lastV y 5 true = gv at *
  clear o1 o2 o3 o4 hp
  rw [he] at HL
  clear he
  generalize D10.lastV y 5 false = lv at *
  go_enter Tryd.func12, Tryd.ntmps12
  go_wp2_with fail
  refine (HL.out _).mono ?_
  rintro e w1 ⟨rfl, hb1⟩
  obtain ⟨hc1, hf1⟩ := bcell hb1
  have hz1 := hb1.size
  try simp at hz1
  have hs1x0 : w.heap.size < w1.heap.size := by omega
  have g1x0 : w1.cell? ⟨w.heap.size, 0, none⟩ = some (.int .i64 5) := (hc1 _ _ (by first | omega | (simp; done) | (simp; omega))).trans (by first | (with_reducible assumption) | (simp [go_sem]; done) | (simp [go_sem, *]; done) | assumption)
  have g1x1 : w1.cell? ⟨w.heap.size, 1, none⟩ = some (.bool false) := (hc1 _ _ (by first | omega | (simp; done) | (simp; omega))).trans (by first | (with_reducible assumption) | (simp [go_sem]; done) | (simp [go_sem, *]; done) | assumption)
  go_wp2_with fail
  refine (HM.out _ (Tab.below hT (by repeat (first | (with_reducible exact Below.refl _ _) | (with_reducible assumption) | (with_reducible refine bdrew ?_) | (with_reducible refine baa ?_ _) | (with_reducible refine bs ?_ (by first | exact Nat.le_refl _ | omega | (simp; omega)) _) | (with_reducible refine bt ?_ (by with_reducible assumption))))) (Tab.below hL (by repeat (first | (with_reducible exact Below.refl _ _) | (with_reducible assumption) | (with_reducible refine bdrew ?_) | (with_reducible refine baa ?_ _) | (with_reducible refine bs ?_ (by first | exact Nat.le_refl _ | omega | (simp; omega)) _) | (with_reducible refine bt ?_ (by with_reducible assumption)))))).mono ?_
  rintro e w2 ⟨rfl, hb2⟩
  obtain ⟨hc2, hf2⟩ := bcell hb2
  have hz2 := hb2.size
  try simp at hz2
  have hs2x0 : w.heap.size < w2.heap.size := by omega
  have g2x0 : w2.cell? ⟨w.heap.size, 0, none⟩ = some (.int .i64 5) := (hc2 _ _ (by first | omega | (simp; done) | (simp; omega))).trans (by first | (with_reducible assumption) | (simp [go_sem]; done) | (simp [go_sem, *]; done) | assumption)
  have g2x1 : w2.cell? ⟨w.heap.size, 1, none⟩ = some (.bool false) := (hc2 _ _ (by first | omega | (simp; done) | (simp; omega))).trans (by first | (with_reducible assumption) | (simp [go_sem]; done) | (simp [go_sem, *]; done) | assumption)
  go_wp2_with fail
  refine (HG.out _).mono ?_
  rintro e w3 ⟨rfl, hb3⟩
  obtain ⟨hc3, hf3⟩ := bcell hb3
  have hz3 := hb3.size
  try simp at hz3
  have hl3w2 : w2.heap.size < w3.heap.size := by omega
  have hm3w2 : w2.heap.size ≤ w3.heap.size := by omega
  have hs3x0 : w.heap.size < w3.heap.size := by omega
  have hs3x2 : (w2.heap.size + 1) < w3.heap.size := by omega
  have g3x0 : w3.cell? ⟨w.heap.size, 0, none⟩ = some (.int .i64 5) := (hc3 _ _ (by first | omega | (simp; done) | (simp; omega))).trans (by first | (with_reducible assumption) | (simp [go_sem]; done) | (simp [go_sem, *]; done) | assumption)
  have g3x1 : w3.cell? ⟨w.heap.size, 1, none⟩ = some (.bool false) := (hc3 _ _ (by first | omega | (simp; done) | (simp; omega))).trans (by first | (with_reducible assumption) | (simp [go_sem]; done) | (simp [go_sem, *]; done) | assumption)
  have g3x2 : w3.cell? ⟨w2.heap.size, 0, none⟩ = some (.int .i64 5) := (hc3 _ _ (by first | omega | (simp; done) | (simp; omega))).trans (by first | (with_reducible assumption) | (simp [go_sem]; done) | (simp [go_sem, *]; done) | assumption)
  have g3x3 : w3.cell? ⟨w2.heap.size, 1, none⟩ = some (.bool true) := (hc3 _ _ (by first | omega | (simp; done) | (simp; omega))).trans (by first | (with_reducible assumption) | (simp [go_sem]; done) | (simp [go_sem, *]; done) | assumption)
  have g3x4 : w3.cell? ⟨(w2.heap.size + 1), 0, none⟩ = some (.int .i64 6) := (hc3 _ _ (by first | omega | (simp; done) | (simp; omega))).trans (by first | (with_reducible assumption) | (simp [go_sem]; done) | (simp [go_sem, *]; done) | assumption)
  have g3x5 : w3.cell? ⟨(w2.heap.size + 1), 1, none⟩ = some (.bool false) := (hc3 _ _ (by first | omega | (simp; done) | (simp; omega))).trans (by first | (with_reducible assumption) | (simp [go_sem]; done) | (simp [go_sem, *]; done) | assumption)
  go_wp2_with fail
  refine (awake15 _ (Tab.below hT (by repeat (first | (with_reducible exact Below.refl _ _) | (with_reducible assumption) | (with_reducible refine bdrew ?_) | (with_reducible refine baa ?_ _) | (with_reducible refine bs ?_ (by first | exact Nat.le_refl _ | omega | (simp; omega)) _) | (with_reducible refine bt ?_ (by with_reducible assumption))))) (Tab.below hL (by repeat (first | (with_reducible exact Below.refl _ _) | (with_reducible assumption) | (with_reducible refine bdrew ?_) | (with_reducible refine baa ?_ _) | (with_reducible refine bs ?_ (by first | exact Nat.le_refl _ | omega | (simp; omega)) _) | (with_reducible refine bt ?_ (by with_reducible assumption)))))).mono ?_
  rintro e w4 ⟨rfl, hb4⟩
  obtain ⟨hc4, hf4⟩ := bcell hb4
  have hz4 := hb4.size
  try simp at hz4
  have hl4w2 : w2.heap.size < w4.heap.size := by omega
  have hm4w2 : w2.heap.size ≤ w4.heap.size := by omega
  have hs4x1 : (w2.heap.size + 1) < w4.heap.size := by omega
  have g4x0 : w4.cell? ⟨w2.heap.size, 0, none⟩ = some (.int .i64 5) := (hc4 _ _ (by first | omega | (simp; done) | (simp; omega))).trans (by first | (with_reducible assumption) | (simp [go_sem]; done) | (simp [go_sem, *]; done) | assumption)
  have g4x1 : w4.cell? ⟨w2.heap.size, 1, none⟩ = some (.bool true) := (hc4 _ _ (by first | omega | (simp; done) | (simp; omega))).trans (by first | (with_reducible assumption) | (simp [go_sem]; done) | (simp [go_sem, *]; done) | assumption)
  have g4x2 : w4.cell? ⟨(w2.heap.size + 1), 0, none⟩ = some (.int .i64 5) := (hc4 _ _ (by first | omega | (simp; done) | (simp; omega))).trans (by first | (with_reducible assumption) | (simp [go_sem]; done) | (simp [go_sem, *]; done) | assumption)
  have g4x3 : w4.cell? ⟨(w2.heap.size + 1), 1, none⟩ = some (.bool true) := (hc4 _ _ (by first | omega | (simp; done) | (simp; omega))).trans (by first | (with_reducible assumption) | (simp [go_sem]; done) | (simp [go_sem, *]; done) | assumption)
  go_wp2_with fail
  go_ret
  refine ⟨by first | rfl | simp [*], ?_⟩
  repeat (first | (with_reducible exact Below.refl _ _) | (with_reducible assumption) | (with_reducible refine bdrew ?_) | (with_reducible refine baa ?_ _) | (with_reducible refine bs ?_ (by first | exact Nat.le_refl _ | omega | (simp; omega)) _) | (with_reducible refine bt ?_ (by with_reducible assumption)))
set_option maxHeartbeats 2000000 in
theorem ShiftOne_n5 (y n : Int) (l : Bool) (hy : I64 y) (hn : I64 n) (w : World) (hT : Tab w 8 kevCells) (hL : Tab w 5 lenCells) (he : D10.lastE y n l = 0) (hn12 : ¬ n = 12) (h5 : ¬ n = 5) :
    Calls Tryd.prog 12 #[.int .i64 y, .agg #[.int .i64 n, .bool l]] w fun e w' => e = .returned (.bool true) ∧ Below w.heap.size w w' := by
  have HL := Lib.hid (fun w => ref10_Last y n l w hy)
  have HM := Lib.hid (fun w hT hL => shift_Months y n l 1 w hy hT hL)
  obtain ⟨h1, h2, _⟩ := S15.last_in he
  have o := S15.one_in he hn12
  have hb : (n == 5 && !l && Cal.leap y) = false := by simp [h5]
  obtain ⟨o1, o2, o3, o4, n1, n2⟩ := o
  rw [hb] at o3 o4
  rw [o1, o2, show S15.monN y n l 1 = n + 1 from o4, o3] at HM
  have HG := Lib.hid (fun w => ref10_Last y 5 true w hy)
  have n3 : (n == 12) = false := by simpa using hn12
  generalize D10.lastV y 5 true = gv at *
  generalize hge : D10.lastE y 5 true = ge at *
  clear o1 o2 o3 o4 hb
  rw [he] at HL
  clear he
  generalize D10.lastV y n l = lv at *
  have q5 : (n == 5) = false := by simpa using h5
  clear hge
  go_enter Tryd.func12, Tryd.ntmps12
  go_wp2_with fail
  refine (HL.out _).mono ?_
  rintro e w1 ⟨rfl, hb1⟩
  obtain ⟨hc1, hf1⟩ := bcell hb1
  have hz1 := hb1.size
  try simp at hz1
  have hs1x0 : w.heap.size < w1.heap.size := by omega
  have g1x0 : w1.cell? ⟨w.heap.size, 0, none⟩ = some (.int .i64 n) := (hc1 _ _ (by first | omega | (simp; done) | (simp; omega))).trans (by first | (with_reducible assumption) | (simp [go_sem]; done) | (simp [go_sem, *]; done) | assumption)
  have g1x1 : w1.cell? ⟨w.heap.size, 1, none⟩ = some (.bool l) := (hc1 _ _ (by first | omega | (simp; done) | (simp; omega))).trans (by first | (with_reducible assumption) | (simp [go_sem]; done) | (simp [go_sem, *]; done) | assumption)
  go_wp2_with fail
  refine (HM.out _ (Tab.below hT (by repeat (first | (with_reducible exact Below.refl _ _) | (with_reducible assumption) | (with_reducible refine bdrew ?_) | (with_reducible refine baa ?_ _) | (with_reducible refine bs ?_ (by first | exact Nat.le_refl _ | omega | (simp; omega)) _) | (with_reducible refine bt ?_ (by with_reducible assumption))))) (Tab.below hL (by repeat (first | (with_reducible exact Below.refl _ _) | (with_reducible assumption) | (with_reducible refine bdrew ?_) | (with_reducible refine baa ?_ _) | (with_reducible refine bs ?_ (by first | exact Nat.le_refl _ | omega | (simp; omega)) _) | (with_reducible refine bt ?_ (by with_reducible assumption)))))).mono ?_
  rintro e w2 ⟨rfl, hb2⟩
  obtain ⟨hc2, hf2⟩ := bcell hb2
  have hz2 := hb2.size
  try simp at hz2
  have hs2x0 : w.heap.size < w2.heap.size := by omega
  have g2x0 : w2.cell? ⟨w.heap.size, 0, none⟩ = some (.int .i64 n) := (hc2 _ _ (by first | omega | (simp; done) | (simp; omega))).trans (by first | (with_reducible assumption) | (simp [go_sem]; done) | (simp [go_sem, *]; done) | assumption)
  have g2x1 : w2.cell? ⟨w.heap.size, 1, none⟩ = some (.bool l) := (hc2 _ _ (by first | omega | (simp; done) | (simp; omega))).trans (by first | (with_reducible assumption) | (simp [go_sem]; done) | (simp [go_sem, *]; done) | assumption)
  go_wp2_with fail
  refine (HG.out _).mono ?_
  rintro e w3 ⟨rfl, hb3⟩
  obtain ⟨hc3, hf3⟩ := bcell hb3
  have hz3 := hb3.size
  try simp at hz3
  have hl3w2 : w2.heap.size < w3.heap.size := by omega
  have hm3w2 : w2.heap.size ≤ w3.heap.size := by omega
  have hs3x0 : w.heap.size < w3.heap.size := by omega
  have hs3x2 : (w2.heap.size + 1) < w3.heap.size := by omega
  have g3x0 : w3.cell? ⟨w.heap.size, 0, none⟩ = some (.int .i64 n) := (hc3 _ _ (by first | omega | (simp; done) | (simp; omega))).trans (by first | (with_reducible assumption) | (simp [go_sem]; done) | (simp [go_sem, *]; done) | assumption)
  have g3x1 : w3.cell? ⟨w.heap.size, 1, none⟩ = some (.bool l) := (hc3 _ _ (by first | omega | (simp; done) | (simp; omega))).trans (by first | (with_reducible assumption) | (simp [go_sem]; done) | (simp [go_sem, *]; done) | assumption)
  have g3x2 : w3.cell? ⟨w2.heap.size, 0, none⟩ = some (.int .i64 (n + 1)) := (hc3 _ _ (by first | omega | (simp; done) | (simp; omega))).trans (by first | (with_reducible assumption) | (simp [go_sem]; done) | (simp [go_sem, *]; done) | assumption)
  have g3x3 : w3.cell? ⟨w2.heap.size, 1, none⟩ = some (.bool false) := (hc3 _ _ (by first | omega | (simp; done) | (simp; omega))).trans (by first | (with_reducible assumption) | (simp [go_sem]; done) | (simp [go_sem, *]; done) | assumption)
  have g3x4 : w3.cell? ⟨(w2.heap.size + 1), 0, none⟩ = some (.int .i64 (n + 1)) := (hc3 _ _ (by first | omega | (simp; done) | (simp; omega))).trans (by first | (with_reducible assumption) | (simp [go_sem]; done) | (simp [go_sem, *]; done) | assumption)
  have g3x5 : w3.cell? ⟨(w2.heap.size + 1), 1, none⟩ = some (.bool false) := (hc3 _ _ (by first | omega | (simp; done) | (simp; omega))).trans (by first | (with_reducible assumption) | (simp [go_sem]; done) | (simp [go_sem, *]; done) | assumption)
  go_wp2_with fail
  refine (awake15 _ (Tab.below hT (by repeat (first | (with_reducible exact Below.refl _ _) | (with_reducible assumption) | (with_reducible refine bdrew ?_) | (with_reducible refine baa ?_ _) | (with_reducible refine bs ?_ (by first | exact Nat.le_refl _ | omega | (simp; omega)) _) | (with_reducible refine bt ?_ (by with_reducible assumption))))) (Tab.below hL (by repeat (first | (with_reducible exact Below.refl _ _) | (with_reducible assumption) | (with_reducible refine bdrew ?_) | (with_reducible refine baa ?_ _) | (with_reducible refine bs ?_ (by first | exact Nat.le_refl _ | omega | (simp; omega)) _) | (with_reducible refine bt ?_ (by with_reducible assumption)))))).mono ?_
  rintro e w4 ⟨rfl, hb4⟩
  obtain ⟨hc4, hf4⟩ := bcell hb4
  have hz4 := hb4.size
  try simp at hz4
  have hl4w2 : w2.heap.size < w4.heap.size := by omega
  have hm4w2 : w2.heap.size ≤ w4.heap.size := by omega
  have hs4x1 : (w2.heap.size + 1) < w4.heap.size := by omega
  have g4x0 : w4.cell? ⟨w2.heap.size, 0, none⟩ = some (.int .i64 (n + 1)) := (hc4 _ _ (by first | omega | (simp; done) | (simp; omega))).trans (by first | (with_reducible assumption) | (simp [go_sem]; done) | (simp [go_sem, *]; done) | assumption)
  have g4x1 : w4.cell? ⟨w2.heap.size, 1, none⟩ = some (.bool false) := (hc4 _ _ (by first | omega | (simp; done) | (simp; omega))).trans (by first | (with_reducible assumption) | (simp [go_sem]; done) | (simp [go_sem, *]; done) | assumption)
  have g4x2 : w4.cell? ⟨(w2.heap.size + 1), 0, none⟩ = some (.int .i64 (n + 1)) := (hc4 _ _ (by first | omega | (simp; done) | (simp; omega))).trans (by first | (with_reducible assumption) | (simp [go_sem]; done) | (simp [go_sem, *]; done) | assumption)
  have g4x3 : w4.cell? ⟨(w2.heap.size + 1), 1, none⟩ = some (.bool false) := (hc4 _ _ (by first | omega | (simp; done) | (simp; omega))).trans (by first | (with_reducible assumption) | (simp [go_sem]; done) | (simp [go_sem, *]; done) | assumption)
  go_wp2_with fail
  go_ret
  refine ⟨by first | rfl | simp [*], ?_⟩
  repeat (first | (with_reducible exact Below.refl _ _) | (with_reducible assumption) | (with_reducible refine bdrew ?_) | (with_reducible refine baa ?_ _) | (with_reducible refine bs ?_ (by first | exact Nat.le_refl _ | omega | (simp; omega)) _) | (with_reducible refine bt ?_ (by with_reducible assumption)))
set_option maxHeartbeats 2000000 in
theorem ShiftOne_l5 (y n : Int) (l : Bool) (hy : I64 y) (hn : I64 n) (w : World) (hT : Tab w 8 kevCells) (hL : Tab w 5 lenCells) (he : D10.lastE y n l = 0) (hn12 : ¬ n = 12) (h5 : n = 5) (hl : l = true) :
    Calls Tryd.prog 12 #[.int .i64 y, .agg #[.int .i64 n, .bool l]] w fun e w' => e = .returned (.bool true) ∧ Below w.heap.size w w' := by
  have HL := Lib.hid (fun w => ref10_Last y n l w hy)
  have HM := Lib.hid (fun w hT hL => shift_Months y n l 1 w hy hT hL)
  obtain ⟨h1, h2, _⟩ := S15.last_in he
  have o := S15.one_in he hn12
  have hb : (n == 5 && !l && Cal.leap y) = false := by simp [hl]
  obtain ⟨o1, o2, o3, o4, n1, n2⟩ := o
  rw [hb] at o3 o4
  rw [o1, o2, show S15.monN y n l 1 = n + 1 from o4, o3] at HM
  have HG := Lib.hid (fun w => ref10_Last y 5 true w hy)
  have n3 : (n == 12) = false := by simpa using hn12
  generalize D10.lastV y 5 true = gv at *
  generalize hge : D10.lastE y 5 true = ge at *
  clear o1 o2 o3 o4 hb
  rw [he] at HL
  clear he
  generalize D10.lastV y n l = lv at *
  subst hl h5
  clear hge
  go_enter Tryd.func12, Tryd.ntmps12
  go_wp2_with fail
  refine (HL.out _).mono ?_
  rintro e w1 ⟨rfl, hb1⟩
  obtain ⟨hc1, hf1⟩ := bcell hb1
  have hz1 := hb1.size
  try simp at hz1
  have hs1x0 : w.heap.size < w1.heap.size := by omega
  have g1x0 : w1.cell? ⟨w.heap.size, 0, none⟩ = some (.int .i64 5) := (hc1 _ _ (by first | omega | (simp; done) | (simp; omega))).trans (by first | (with_reducible assumption) | (simp [go_sem]; done) | (simp [go_sem, *]; done) | assumption)
  have g1x1 : w1.cell? ⟨w.heap.size, 1, none⟩ = some (.bool true) := (hc1 _ _ (by first | omega | (simp; done) | (simp; omega))).trans (by first | (with_reducible assumption) | (simp [go_sem]; done) | (simp [go_sem, *]; done) | assumption)
  go_wp2_with fail
  refine (HM.out _ (Tab.below hT (by repeat (first | (with_reducible exact Below.refl _ _) | (with_reducible assumption) | (with_reducible refine bdrew ?_) | (with_reducible refine baa ?_ _) | (with_reducible refine bs ?_ (by first | exact Nat.le_refl _ | omega | (simp; omega)) _) | (with_reducible refine bt ?_ (by with_reducible assumption))))) (Tab.below hL (by repeat (first | (with_reducible exact Below.refl _ _) | (with_reducible assumption) | (with_reducible refine bdrew ?_) | (with_reducible refine baa ?_ _) | (with_reducible refine bs ?_ (by first | exact Nat.le_refl _ | omega | (simp; omega)) _) | (with_reducible refine bt ?_ (by with_reducible assumption)))))).mono ?_
  rintro e w2 ⟨rfl, hb2⟩
  obtain ⟨hc2, hf2⟩ := bcell hb2
  have hz2 := hb2.size
  try simp at hz2
  have hs2x0 : w.heap.size < w2.heap.size := by omega
  have g2x0 : w2.cell? ⟨w.heap.size, 0, none⟩ = some (.int .i64 5) := (hc2 _ _ (by first | omega | (simp; done) | (simp; omega))).trans (by first | (with_reducible assumption) | (simp [go_sem]; done) | (simp [go_sem, *]; done) | assumption)
  have g2x1 : w2.cell? ⟨w.heap.size, 1, none⟩ = some (.bool true) := (hc2 _ _ (by first | omega | (simp; done) | (simp; omega))).trans (by first | (with_reducible assumption) | (simp [go_sem]; done) | (simp [go_sem, *]; done) | assumption)
  go_wp2_with fail
  refine (HG.out _).mono ?_
  rintro e w3 ⟨rfl, hb3⟩
  obtain ⟨hc3, hf3⟩ := bcell hb3
  have hz3 := hb3.size
  try simp at hz3
  have hl3w2 : w2.heap.size < w3.heap.size := by omega
  have hm3w2 : w2.heap.size ≤ w3.heap.size := by omega
  have hs3x0 : w.heap.size < w3.heap.size := by omega
  have hs3x2 : (w2.heap.size + 1) < w3.heap.size := by omega
  have g3x0 : w3.cell? ⟨w.heap.size, 0, none⟩ = some (.int .i64 5) := (hc3 _ _ (by first | omega | (simp; done) | (simp; omega))).trans (by first | (with_reducible assumption) | (simp [go_sem]; done) | (simp [go_sem, *]; done) | assumption)
  have g3x1 : w3.cell? ⟨w.heap.size, 1, none⟩ = some (.bool true) := (hc3 _ _ (by first | omega | (simp; done) | (simp; omega))).trans (by first | (with_reducible assumption) | (simp [go_sem]; done) | (simp [go_sem, *]; done) | assumption)
  have g3x2 : w3.cell? ⟨w2.heap.size, 0, none⟩ = some (.int .i64 6) := (hc3 _ _ (by first | omega | (simp; done) | (simp; omega))).trans (by first | (with_reducible assumption) | (simp [go_sem]; done) | (simp [go_sem, *]; done) | assumption)
  have g3x3 : w3.cell? ⟨w2.heap.size, 1, none⟩ = some (.bool false) := (hc3 _ _ (by first | omega | (simp; done) | (simp; omega))).trans (by first | (with_reducible assumption) | (simp [go_sem]; done) | (simp [go_sem, *]; done) | assumption)
  have g3x4 : w3.cell? ⟨(w2.heap.size + 1), 0, none⟩ = some (.int .i64 6) := (hc3 _ _ (by first | omega | (simp; done) | (simp; omega))).trans (by first | (with_reducible assumption) | (simp [go_sem]; done) | (simp [go_sem, *]; done) | assumption)
  have g3x5 : w3.cell? ⟨(w2.heap.size + 1), 1, none⟩ = some (.bool false) := (hc3 _ _ (by first | omega | (simp; done) | (simp; omega))).trans (by first | (with_reducible assumption) | (simp [go_sem]; done) | (simp [go_sem, *]; done) | assumption)
  go_wp2_with fail
  refine (awake15 _ (Tab.below hT (by repeat (first | (with_reducible exact Below.refl _ _) | (with_reducible assumption) | (with_reducible refine bdrew ?_) | (with_reducible refine baa ?_ _) | (with_reducible refine bs ?_ (by first | exact Nat.le_refl _ | omega | (simp; omega)) _) | (with_reducible refine bt ?_ (by with_reducible assumption))))) (Tab.below hL (by repeat (first | (with_reducible exact Below.refl _ _) | (with_reducible assumption) | (with_reducible refine bdrew ?_) | (with_reducible refine baa ?_ _) | (with_reducible refine bs ?_ (by first | exact Nat.le_refl _ | omega | (simp; omega)) _) | (with_reducible refine bt ?_ (by with_reducible assumption)))))).mono ?_
  rintro e w4 ⟨rfl, hb4⟩
  obtain ⟨hc4, hf4⟩ := bcell hb4
  have hz4 := hb4.size
  try simp at hz4
  have hl4w2 : w2.heap.size < w4.heap.size := by omega
  have hm4w2 : w2.heap.size ≤ w4.heap.size := by omega
  have hs4x1 : (w2.heap.size + 1) < w4.heap.size := by omega
  have g4x0 : w4.cell? ⟨w2.heap.size, 0, none⟩ = some (.int .i64 6) := (hc4 _ _ (by first | omega | (simp; done) | (simp; omega))).trans (by first | (with_reducible assumption) | (simp [go_sem]; done) | (simp [go_sem, *]; done) | assumption)
  have g4x1 : w4.cell? ⟨w2.heap.size, 1, none⟩ = some (.bool false) := (hc4 _ _ (by first | omega | (simp; done) | (simp; omega))).trans (by first | (with_reducible assumption) | (simp [go_sem]; done) | (simp [go_sem, *]; done) | assumption)
  have g4x2 : w4.cell? ⟨(w2.heap.size + 1), 0, none⟩ = some (.int .i64 6) := (hc4 _ _ (by first | omega | (simp; done) | (simp; omega))).trans (by first | (with_reducible assumption) | (simp [go_sem]; done) | (simp [go_sem, *]; done) | assumption)
  have g4x3 : w4.cell? ⟨(w2.heap.size + 1), 1, none⟩ = some (.bool false) := (hc4 _ _ (by first | omega | (simp; done) | (simp; omega))).trans (by first | (with_reducible assumption) | (simp [go_sem]; done) | (simp [go_sem, *]; done) | assumption)
  go_wp2_with fail
  go_ret
  refine ⟨by first | rfl | simp [*], ?_⟩
  repeat (first | (with_reducible exact Below.refl _ _) | (with_reducible assumption) | (with_reducible refine bdrew ?_) | (with_reducible refine baa ?_ _) | (with_reducible refine bs ?_ (by first | exact Nat.le_refl _ | omega | (simp; omega)) _) | (with_reducible refine bt ?_ (by with_reducible assumption)))
set_option maxHeartbeats 2000000 in
theorem ShiftOne_y5 (y n : Int) (l : Bool) (hy : I64 y) (hn : I64 n) (w : World) (hT : Tab w 8 kevCells) (hL : Tab w 5 lenCells) (he : D10.lastE y n l = 0) (hn12 : ¬ n = 12) (h5 : n = 5) (hl : l = false) (hp : Cal.leap y = false) :
    Calls Tryd.prog 12 #[.int .i64 y, .agg #[.int .i64 n, .bool l]] w fun e w' => e = .returned (.bool true) ∧ Below w.heap.size w w' := by
  have HL := Lib.hid (fun w => ref10_Last y n l w hy)
  have HM := Lib.hid (fun w hT hL => shift_Months y n l 1 w hy hT hL)
  obtain ⟨h1, h2, _⟩ := S15.last_in he
  have o := S15.one_in he hn12
  have hb : (n == 5 && !l && Cal.leap y) = false := by simp [hp]
  obtain ⟨o1, o2, o3, o4, n1, n2⟩ := o
  rw [hb] at o3 o4
  rw [o1, o2, show S15.monN y n l 1 = n + 1 from o4, o3] at HM
  have HG := Lib.hid (fun w => ref10_Last y 5 true w hy)
  have n3 : (n == 12) = false := by simpa using hn12
  generalize D10.lastV y 5 true = gv at *
  generalize hge : D10.lastE y 5 true = ge at *
  clear o1 o2 o3 o4 hb
  rw [he] at HL
  clear he
  generalize D10.lastV y n l = lv at *
  subst hl h5
  have hg2 : (ge == 0) = false := by rw [← hge]; simp [D10.lastE, Cal.yearIn_yes y h1 h2, hp, Cal.plOk]
  clear hge hp
  go_enter Tryd.func12, Tryd.ntmps12
  go_wp2_with fail
  refine (HL.out _).mono ?_
  rintro e w1 ⟨rfl, hb1⟩
  obtain ⟨hc1, hf1⟩ := bcell hb1
  have hz1 := hb1.size
  try simp at hz1
  have hs1x0 : w.heap.size < w1.heap.size := by omega
  have g1x0 : w1.cell? ⟨w.heap.size, 0, none⟩ = some (.int .i64 5) := (hc1 _ _ (by first | omega | (simp; done) | (simp; omega))).trans (by first | (with_reducible assumption) | (simp [go_sem]; done) | (simp [go_sem, *]; done) | assumption)
  have g1x1 : w1.cell? ⟨w.heap.size, 1, none⟩ = some (.bool false) := (hc1 _ _ (by first | omega | (simp; done) | (simp; omega))).trans (by first | (with_reducible assumption) | (simp [go_sem]; done) | (simp [go_sem, *]; done) | assumption)
  go_wp2_with fail
  refine (HM.out _ (Tab.below hT (by repeat (first | (with_reducible exact Below.refl _ _) | (with_reducible assumption) | (with_reducible refine bdrew ?_) | (with_reducible refine baa ?_ _) | (with_reducible refine bs ?_ (by first | exact Nat.le_refl _ | omega | (simp; omega)) _) | (with_reducible refine bt ?_ (by with_reducible assumption))))) (Tab.below hL (by repeat (first | (with_reducible exact Below.refl _ _) | (with_reducible assumption) | (with_reducible refine bdrew ?_) | (with_reducible refine baa ?_ _) | (with_reducible refine bs ?_ (by first | exact Nat.le_refl _ | omega | (simp; omega)) _) | (with_reducible refine bt ?_ (by with_reducible assumption)))))).mono ?_
  rintro e w2 ⟨rfl, hb2⟩
  obtain ⟨hc2, hf2⟩ := bcell hb2
  have hz2 := hb2.size
  try simp at hz2
  have hs2x0 : w.heap.size < w2.heap.size := by omega
  have g2x0 : w2.cell? ⟨w.heap.size, 0, none⟩ = some (.int .i64 5) := (hc2 _ _ (by first | omega | (simp; done) | (simp; omega))).trans (by first | (with_reducible assumption) | (simp [go_sem]; done) | (simp [go_sem, *]; done) | assumption)
  have g2x1 : w2.cell? ⟨w.heap.size, 1, none⟩ = some (.bool false) := (hc2 _ _ (by first | omega | (simp; done) | (simp; omega))).trans (by first | (with_reducible assumption) | (simp [go_sem]; done) | (simp [go_sem, *]; done) | assumption)
  go_wp2_with fail
  refine (HG.out _).mono ?_
  rintro e w3 ⟨rfl, hb3⟩
  obtain ⟨hc3, hf3⟩ := bcell hb3
  have hz3 := hb3.size
  try simp at hz3
  have hl3w2 : w2.heap.size < w3.heap.size := by omega
  have hm3w2 : w2.heap.size ≤ w3.heap.size := by omega
  have hs3x0 : w.heap.size < w3.heap.size := by omega
  have hs3x2 : (w2.heap.size + 1) < w3.heap.size := by omega
  have g3x0 : w3.cell? ⟨w.heap.size, 0, none⟩ = some (.int .i64 5) := (hc3 _ _ (by first | omega | (simp; done) | (simp; omega))).trans (by first | (with_reducible assumption) | (simp [go_sem]; done) | (simp [go_sem, *]; done) | assumption)
  have g3x1 : w3.cell? ⟨w.heap.size, 1, none⟩ = some (.bool false) := (hc3 _ _ (by first | omega | (simp; done) | (simp; omega))).trans (by first | (with_reducible assumption) | (simp [go_sem]; done) | (simp [go_sem, *]; done) | assumption)
  have g3x2 : w3.cell? ⟨w2.heap.size, 0, none⟩ = some (.int .i64 6) := (hc3 _ _ (by first | omega | (simp; done) | (simp; omega))).trans (by first | (with_reducible assumption) | (simp [go_sem]; done) | (simp [go_sem, *]; done) | assumption)
  have g3x3 : w3.cell? ⟨w2.heap.size, 1, none⟩ = some (.bool false) := (hc3 _ _ (by first | omega | (simp; done) | (simp; omega))).trans (by first | (with_reducible assumption) | (simp [go_sem]; done) | (simp [go_sem, *]; done) | assumption)
  have g3x4 : w3.cell? ⟨(w2.heap.size + 1), 0, none⟩ = some (.int .i64 6) := (hc3 _ _ (by first | omega | (simp; done) | (simp; omega))).trans (by first | (with_reducible assumption) | (simp [go_sem]; done) | (simp [go_sem, *]; done) | assumption)
  have g3x5 : w3.cell? ⟨(w2.heap.size + 1), 1, none⟩ = some (.bool false) := (hc3 _ _ (by first | omega | (simp; done) | (simp; omega))).trans (by first | (with_reducible assumption) | (simp [go_sem]; done) | (simp [go_sem, *]; done) | assumption)
  go_wp2_with fail
  refine (awake15 _ (Tab.below hT (by repeat (first | (with_reducible exact Below.refl _ _) | (with_reducible assumption) | (with_reducible refine bdrew ?_) | (with_reducible refine baa ?_ _) | (with_reducible refine bs ?_ (by first | exact Nat.le_refl _ | omega | (simp; omega)) _) | (with_reducible refine bt ?_ (by with_reducible assumption))))) (Tab.below hL (by repeat (first | (with_reducible exact Below.refl _ _) | (with_reducible assumption) | (with_reducible refine bdrew ?_) | (with_reducible refine baa ?_ _) | (with_reducible refine bs ?_ (by first | exact Nat.le_refl _ | omega | (simp; omega)) _) | (with_reducible refine bt ?_ (by with_reducible assumption)))))).mono ?_
  rintro e w4 ⟨rfl, hb4⟩
  obtain ⟨hc4, hf4⟩ := bcell hb4
  have hz4 := hb4.size
  try simp at hz4
  have hl4w2 : w2.heap.size < w4.heap.size := by omega
  have hm4w2 : w2.heap.size ≤ w4.heap.size := by omega
  have hs4x1 : (w2.heap.size + 1) < w4.heap.size := by omega
  have g4x0 : w4.cell? ⟨w2.heap.size, 0, none⟩ = some (.int .i64 6) := (hc4 _ _ (by first | omega | (simp; done) | (simp; omega))).trans (by first | (with_reducible assumption) | (simp [go_sem]; done) | (simp [go_sem, *]; done) | assumption)
  have g4x1 : w4.cell? ⟨w2.heap.size, 1, none⟩ = some (.bool false) := (hc4 _ _ (by first | omega | (simp; done) | (simp; omega))).trans (by first | (with_reducible assumption) | (simp [go_sem]; done) | (simp [go_sem, *]; done) | assumption)
  have g4x2 : w4.cell? ⟨(w2.heap.size + 1), 0, none⟩ = some (.int .i64 6) := (hc4 _ _ (by first | omega | (simp; done) | (simp; omega))).trans (by first | (with_reducible assumption) | (simp [go_sem]; done) | (simp [go_sem, *]; done) | assumption)
  have g4x3 : w4.cell? ⟨(w2.heap.size + 1), 1, none⟩ = some (.bool false) := (hc4 _ _ (by first | omega | (simp; done) | (simp; omega))).trans (by first | (with_reducible assumption) | (simp [go_sem]; done) | (simp [go_sem, *]; done) | assumption)
  go_wp2_with fail
  go_ret
  refine ⟨by first | rfl | simp [*], ?_⟩
  repeat (first | (with_reducible exact Below.refl _ _) | (with_reducible assumption) | (with_reducible refine bdrew ?_) | (with_reducible refine baa ?_ _) | (with_reducible refine bs ?_ (by first | exact Nat.le_refl _ | omega | (simp; omega)) _) | (with_reducible refine bt ?_ (by with_reducible assumption)))
theorem ShiftOne_walk (y n : Int) (l : Bool) (hy : I64 y) (hn : I64 n) (w : World) (hT : Tab w 8 kevCells) (hL : Tab w 5 lenCells) :
    Calls Tryd.prog 12 #[.int .i64 y, .agg #[.int .i64 n, .bool l]] w fun e w' => e = .returned (.bool true) ∧ Below w.heap.size w w' := by
  by_cases he : D10.lastE y n l = 0
  · obtain ⟨h1, h2, _⟩ := S15.last_in he
    by_cases c : n = 12
    · subst c
      by_cases c9 : y = 9999
      · exact ShiftOne_end y l hy w hT hL he c9
      · exact ShiftOne_new y l hy w hT hL he h1 (by omega)
    · by_cases c5 : n = 5
      · cases hl : l
        · cases hp : Cal.leap y
          · exact ShiftOne_y5 y n false hy hn w hT hL (hl ▸ he) c c5 rfl hp
          · subst c5
            exact ShiftOne_leap y false hy w hT hL (hl ▸ he) rfl hp
        · exact ShiftOne_l5 y n true hy hn w hT hL (hl ▸ he) c c5 rfl
      · exact ShiftOne_n5 y n l hy hn w hT hL he c c5
  · exact ShiftOne_err y n l hy hn w hT hL he
end Go.Proofs.YtncckpfenjokmaaDoor
