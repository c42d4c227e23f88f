/- Layer 15: its laws. -/
import Derived.Test.YtncckpfenjokmaaDoorShiftN
namespace Go.Proofs.YtncckpfenjokmaaDoor
open Go.ChangeShapes Go.WideShapes Go.ChangeAt Go.RowKit
set_option linter.unusedVariables false
set_option maxRecDepth 100000
namespace S15
theorem codes_next : ∀ lp : Bool, ∀ i : Nat, i < (if lp then 12 else 11) → (Cal.ofL lp ((i : Int) + 1 + 1) = (Cal.ofN lp ((i : Int) + 1) == 5 && !Cal.ofL lp ((i : Int) + 1) && lp)) ∧ Cal.ofN lp ((i : Int) + 1 + 1) = (if (Cal.ofN lp ((i : Int) + 1) == 5 && !Cal.ofL lp ((i : Int) + 1) && lp) = true then 5 else Cal.ofN lp ((i : Int) + 1) + 1) := by decide
theorem codes_ends : ∀ lp : Bool, Cal.ofN lp 1 = 1 ∧ Cal.ofL lp 1 = false := by decide
theorem codes_last : ∀ lp : Bool, Cal.ofN lp (Cal.most lp) = 12 := by decide
theorem place_last (lp : Bool) (n : Int) (l : Bool) (h : Cal.plOk lp n l = true) : n = 12 ↔ Cal.plV lp n l = Cal.most lp := by
  obtain ⟨a, b, c, d⟩ := D10.place_in lp n l h
  refine ⟨fun e => ?_, fun e => ?_⟩
  · subst e
    cases l
    · cases lp <;> rfl
    · exact absurd h (by cases lp <;> decide)
  · rw [← c, e]; exact codes_last lp
theorem last_0 {y n : Int} {l : Bool} (h1 : 1 ≤ y) (h2 : y ≤ 9999) (hp : Cal.plOk (Cal.leap y) n l = true) : D10.lastE y n l = 0 := by simp [D10.lastE, Cal.yearIn_yes y h1 h2, hp]
theorem mon_ok {y n k : Int} {l : Bool} (h : monE y n l k = 0) : D10.lastE y n l = 0 ∧ -4000000 ≤ k ∧ k ≤ 4000000 ∧ 0 ≤ monA y n l k ∧ monA y n l k < 123671 := by
  unfold monE at h
  split at h
  · rename_i he
    split at h
    · omega
    · split at h
      · omega
      · exact ⟨he, by omega, by omega, by omega, by omega⟩
  · rename_i he; exact absurd h he
theorem mon_0 {y n k : Int} {l : Bool} (he : D10.lastE y n l = 0) (h1 : -4000000 ≤ k) (h2 : k ≤ 4000000) (h3 : 0 ≤ monA y n l k) (h4 : monA y n l k < 123671) : monE y n l k = 0 := by
  unfold monE; rw [if_pos he, if_neg (by omega), if_neg (by omega)]
theorem mon_there {y n k : Int} {l : Bool} (h : monE y n l k = 0) : D10.lastE (monY y n l k) (monN y n l k) (monL y n l k) = 0 ∧ 1 ≤ monY y n l k ∧ monY y n l k ≤ 9999 ∧ ∀ b, monA (monY y n l k) (monN y n l k) (monL y n l k) b = monA y n l (k + b) := by
  obtain ⟨he, k1, k2, a1, a2⟩ := mon_ok h
  obtain ⟨y1, y2⟩ := mY_in _ a1 a2
  obtain ⟨m1, m2⟩ := mM_in (monA y n l k)
  obtain ⟨_, p1, p2⟩ := D10.of_place _ _ m1 m2
  have e1 : monY y n l k = mY (monA y n l k) := by unfold monY; rw [if_pos h]
  have e2 : monN y n l k = Cal.ofN (Cal.leap (mY (monA y n l k))) (mM (monA y n l k)) := by unfold monN; rw [if_pos h]
  have e3 : monL y n l k = Cal.ofL (Cal.leap (mY (monA y n l k))) (mM (monA y n l k)) := by unfold monL; rw [if_pos h]
  rw [e1, e2, e3]
  refine ⟨last_0 y1 y2 p1, y1, y2, fun b => ?_⟩
  have : monA y n l (k + b) = monA y n l k + b := by unfold monA; omega
  rw [this]
  generalize monA y n l k = A at *
  unfold monA
  rw [p2]
  unfold mM; omega
theorem mon_sum {y n k b : Int} {l : Bool} (h : monE y n l k = 0) (b1 : -4000000 ≤ b) (b2 : b ≤ 4000000) (c1 : -4000000 ≤ k + b) (c2 : k + b ≤ 4000000) :
    monE (monY y n l k) (monN y n l k) (monL y n l k) b = monE y n l (k + b) ∧ monY (monY y n l k) (monN y n l k) (monL y n l k) b = monY y n l (k + b) ∧ monN (monY y n l k) (monN y n l k) (monL y n l k) b = monN y n l (k + b) ∧ monL (monY y n l k) (monN y n l k) (monL y n l k) b = monL y n l (k + b) := by
  obtain ⟨t1, t2, t3, t4⟩ := mon_there h
  have he := (mon_ok h).1
  generalize monY y n l k = Y at *
  generalize monN y n l k = N at *
  generalize monL y n l k = L at *
  have e : monE Y N L b = monE y n l (k + b) := by
    unfold monE
    rw [if_pos t1, if_pos he, if_neg (show ¬(b < -4000000 ∨ 4000000 < b) by omega), if_neg (show ¬(k + b < -4000000 ∨ 4000000 < k + b) by omega), t4 b]
  exact ⟨e, by unfold monY; rw [e, t4 b], by unfold monN; rw [e, t4 b], by unfold monL; rw [e, t4 b]⟩
theorem mon_step {y n k : Int} {l : Bool} (he : D10.lastE y n l = 0) (k1 : -4000000 ≤ k) (k2 : k ≤ 4000000) (m z : Int) (z1 : 1 ≤ z) (z2 : z ≤ 9999) (m1 : 1 ≤ m) (m2 : m ≤ Cal.most (Cal.leap z)) (e : monA y n l k = Cal.before z + m - 1) :
    monE y n l k = 0 ∧ monY y n l k = z ∧ monN y n l k = Cal.ofN (Cal.leap z) m ∧ monL y n l k = Cal.ofL (Cal.leap z) m := by
  have hn := before_next z
  have a1 := before_mono 1 z z1
  have a2 := before_mono (z + 1) 10000 (by omega)
  rw [before_1] at a1
  rw [before_10000] at a2
  have h := mon_0 he k1 k2 (by omega) (by omega)
  have hy : mY (monA y n l k) = z := mY_one _ _ (by omega) (by omega)
  have hm : mM (monA y n l k) = m := by unfold mM; rw [hy]; omega
  exact ⟨h, by unfold monY; rw [if_pos h, hy], by unfold monN; rw [if_pos h, hy, hm], by unfold monL; rw [if_pos h, hy, hm]⟩
theorem mon_zero {y n : Int} {l : Bool} (he : D10.lastE y n l = 0) : monE y n l 0 = 0 ∧ monY y n l 0 = y ∧ monN y n l 0 = n ∧ monL y n l 0 = l := by
  obtain ⟨h1, h2, hp⟩ := last_in he
  obtain ⟨p1, p2, p3, p4⟩ := D10.place_in _ _ _ hp
  have := mon_step he (k := 0) (by omega) (by omega) _ y h1 h2 p1 p2 (by unfold monA; omega)
  rwa [p3, p4] at this
theorem mon_back {y n k : Int} {l : Bool} (h : monE y n l k = 0) : monE (monY y n l k) (monN y n l k) (monL y n l k) (-k) = 0 ∧ monY (monY y n l k) (monN y n l k) (monL y n l k) (-k) = y ∧ monN (monY y n l k) (monN y n l k) (monL y n l k) (-k) = n ∧ monL (monY y n l k) (monN y n l k) (monL y n l k) (-k) = l := by
  obtain ⟨he, k1, k2, _⟩ := mon_ok h
  have := mon_sum h (b := -k) (by omega) (by omega) (by omega) (by omega)
  rw [show k + -k = 0 by omega] at this
  have z := mon_zero he
  rwa [z.1, z.2.1, z.2.2.1, z.2.2.2] at this
theorem mon_no {y n k : Int} {l : Bool} (h : ¬ monE y n l k = 0) : monY y n l k = 0 ∧ monN y n l k = 0 ∧ monL y n l k = false := by
  refine ⟨by unfold monY; rw [if_neg h], by unfold monN; rw [if_neg h], by unfold monL; rw [if_neg h]⟩
/-- A month on. -/
theorem one_12 {y n : Int} {l : Bool} (he : D10.lastE y n l = 0) (hn : n = 12) : (y = 9999 ∧ monE y n l 1 = 2) ∨ (y < 9999 ∧ monE y n l 1 = 0 ∧ monY y n l 1 = y + 1 ∧ monN y n l 1 = 1 ∧ monL y n l 1 = false) := by
  obtain ⟨h1, h2, hp⟩ := last_in he
  have e := (place_last _ _ _ hp).1 hn
  have hx := before_next y
  by_cases c : y = 9999
  · refine .inl ⟨c, ?_⟩
    have : monA y n l 1 = 123671 := by unfold monA; rw [e]; rw [← before_10000, show (10000 : Int) = y + 1 by omega]; omega
    unfold monE
    rw [if_pos he, if_neg (by omega), if_pos (by omega)]
  · have hm : 1 ≤ Cal.most (Cal.leap (y + 1)) := by unfold Cal.most; split <;> omega
    have := mon_step he (k := 1) (by omega) (by omega) 1 (y + 1) (by omega) (by omega) (by omega) hm (by unfold monA; rw [e]; omega)
    rw [(codes_ends _).1, (codes_ends _).2] at this
    exact .inr ⟨by omega, this⟩
theorem one_in {y n : Int} {l : Bool} (he : D10.lastE y n l = 0) (hn : ¬ n = 12) : monE y n l 1 = 0 ∧ monY y n l 1 = y ∧ monL y n l 1 = (n == 5 && !l && Cal.leap y) ∧ monN y n l 1 = (if (n == 5 && !l && Cal.leap y) = true then 5 else n + 1) ∧ 1 ≤ n ∧ n ≤ 12 := by
  obtain ⟨h1, h2, hp⟩ := last_in he
  obtain ⟨p1, p2, p3, p4⟩ := D10.place_in _ _ _ hp
  have e : ¬ Cal.plV (Cal.leap y) n l = Cal.most (Cal.leap y) := fun e => hn ((place_last _ _ _ hp).2 e)
  have := mon_step he (k := 1) (by omega) (by omega) (Cal.plV (Cal.leap y) n l + 1) y h1 h2 (by omega) (by omega) (by unfold monA; omega)
  have cn := codes_next (Cal.leap y) (Cal.plV (Cal.leap y) n l - 1).toNat (by unfold Cal.most at p2 e; cases hl : Cal.leap y <;> simp [hl] at * <;> omega)
  rw [show (((Cal.plV (Cal.leap y) n l - 1).toNat : Nat) : Int) + 1 = Cal.plV (Cal.leap y) n l by omega, p3, p4] at cn
  have hr : Cal.right n l = true := by unfold Cal.plOk at hp; simp at hp; exact hp.1
  have hb : 1 ≤ n ∧ n ≤ 12 := by unfold Cal.right at hr; simp at hr; omega
  exact ⟨this.1, this.2.1, this.2.2.2.trans cn.1, this.2.2.1.trans cn.2, hb⟩
end S15
theorem shift_Into_a (w : World)  : Calls Tryd.prog 40 #[.int .i64 5785, .agg #[.int .i64 5, .bool true], .int .i64 0] w fun e w' => e = .returned (.tuple #[.agg #[.int .i64 6, .bool false], .int .i64 0]) ∧ Below w.heap.size w w' := by
  have := shift_Into 5785 5 true 0 w
  rwa [show S15.intoN 5785 5 true 0 = 6 by decide +kernel, show S15.intoL 5785 5 true 0 = false by decide +kernel, show S15.intoE 5785 5 true 0 = 0 by decide +kernel] at this
theorem shift_Into_b (w : World)  : Calls Tryd.prog 40 #[.int .i64 5785, .agg #[.int .i64 5, .bool true], .int .i64 1] w fun e w' => e = .returned (.tuple #[.agg #[.int .i64 0, .bool false], .int .i64 7]) ∧ Below w.heap.size w w' := by
  have := shift_Into 5785 5 true 1 w
  rwa [show S15.intoN 5785 5 true 1 = 0 by decide +kernel, show S15.intoL 5785 5 true 1 = false by decide +kernel, show S15.intoE 5785 5 true 1 = 7 by decide +kernel] at this
theorem shift_Months_a (w : World) (hT : Tab w 8 kevCells) (hL : Tab w 5 lenCells) : Calls Tryd.prog 42 #[.int .i64 5784, .agg #[.int .i64 12, .bool false], .int .i64 1] w fun e w' => e = .returned (.tuple #[.int .i64 5785, .agg #[.int .i64 1, .bool false], .int .i64 0]) ∧ Below w.heap.size w w' := by
  have := shift_Months 5784 12 false 1 w ⟨by omega, by omega⟩ hT hL
  rwa [show S15.monY 5784 12 false 1 = 5785 by decide +kernel, show S15.monN 5784 12 false 1 = 1 by decide +kernel, show S15.monL 5784 12 false 1 = false by decide +kernel, show S15.monE 5784 12 false 1 = 0 by decide +kernel] at this
set_option maxHeartbeats 1000000 in
theorem awake15 (w : World) (hT : Tab w 8 kevCells) (hL : Tab w 5 lenCells) : Calls Tryd.prog 46 #[] w fun e w' => e = .returned (.bool true) ∧ Below w.heap.size w w' := by
  go_enter Tryd.func46, Tryd.ntmps46
  go_wp2_with fail
  refine (shift_Into_a _).mono ?_
  rintro e w1 ⟨rfl, hb1⟩
  obtain ⟨hc1, hf1⟩ := bcell hb1
  have hz1 := hb1.size
  try simp at hz1
  go_wp2_with fail
  refine (shift_Into_b _).mono ?_
  rintro e w2 ⟨rfl, hb2⟩
  obtain ⟨hc2, hf2⟩ := bcell hb2
  have hz2 := hb2.size
  try simp at hz2
  have hl2w1 : w1.heap.size < w2.heap.size := by omega
  have hm2w1 : w1.heap.size ≤ w2.heap.size := by omega
  have g2x0 : w2.cell? ⟨w1.heap.size, 0, none⟩ = some (.int .i64 6) := (hc2 _ _ (by first | omega | (simp; done) | (simp; omega))).trans (by first | (with_reducible assumption) | (simp [go_sem]; done) | (simp [go_sem, *]; done) | assumption)
  have g2x1 : w2.cell? ⟨w1.heap.size, 1, none⟩ = some (.bool false) := (hc2 _ _ (by first | omega | (simp; done) | (simp; omega))).trans (by first | (with_reducible assumption) | (simp [go_sem]; done) | (simp [go_sem, *]; done) | assumption)
  go_wp2_with fail
  refine (shift_Months_a _ (Tab.below hT (by repeat (first | (with_reducible exact Below.refl _ _) | (with_reducible assumption) | (with_reducible refine bdrew ?_) | (with_reducible refine baa ?_ _) | (with_reducible refine bs ?_ (by first | exact Nat.le_refl _ | omega | (simp; omega)) _) | (with_reducible refine bt ?_ (by with_reducible assumption))))) (Tab.below hL (by repeat (first | (with_reducible exact Below.refl _ _) | (with_reducible assumption) | (with_reducible refine bdrew ?_) | (with_reducible refine baa ?_ _) | (with_reducible refine bs ?_ (by first | exact Nat.le_refl _ | omega | (simp; omega)) _) | (with_reducible refine bt ?_ (by with_reducible assumption)))))).mono ?_
  rintro e w3 ⟨rfl, hb3⟩
  obtain ⟨hc3, hf3⟩ := bcell hb3
  have hz3 := hb3.size
  try simp at hz3
  have hl3w1 : w1.heap.size < w3.heap.size := by omega
  have hm3w1 : w1.heap.size ≤ w3.heap.size := by omega
  have hl3w2 : w2.heap.size < w3.heap.size := by omega
  have hm3w2 : w2.heap.size ≤ w3.heap.size := by omega
  have g3x0 : w3.cell? ⟨w1.heap.size, 0, none⟩ = some (.int .i64 6) := (hc3 _ _ (by first | omega | (simp; done) | (simp; omega))).trans (by first | (with_reducible assumption) | (simp [go_sem]; done) | (simp [go_sem, *]; done) | assumption)
  have g3x1 : w3.cell? ⟨w1.heap.size, 1, none⟩ = some (.bool false) := (hc3 _ _ (by first | omega | (simp; done) | (simp; omega))).trans (by first | (with_reducible assumption) | (simp [go_sem]; done) | (simp [go_sem, *]; done) | assumption)
  go_wp2_with fail
  go_ret
  refine ⟨by first | rfl | simp [*], ?_⟩
  repeat (first | (with_reducible exact Below.refl _ _) | (with_reducible assumption) | (with_reducible refine bdrew ?_) | (with_reducible refine baa ?_ _) | (with_reducible refine bs ?_ (by first | exact Nat.le_refl _ | omega | (simp; omega)) _) | (with_reducible refine bt ?_ (by with_reducible assumption)))
set_option maxHeartbeats 2000000 in
theorem ShiftTells_walk (y n : Int) (l : Bool) (m k : Int) (hy : I64 y) (hn : I64 n) (hm : I64 m) (hk : I64 k) (w : World) (hT : Tab w 8 kevCells) (hL : Tab w 5 lenCells)  :
    Calls Tryd.prog 10 #[.agg #[.int .i64 y, .int .i64 n, .bool l, .int .i64 m, .int .i64 k]] w fun e w' => e = .returned (.bool true) ∧ Below w.heap.size w w' := by
  have H1 := Lib.hid (fun w => shift_Into y n l m w)
  have H2 := Lib.hid (fun w => ref15_Into y n l m w hy)
  have H3 := Lib.hid (fun w hT hL => shift_Months y n l k w hy hT hL)
  have H4 := Lib.hid (fun w => ref15_Months y n l k w hy)
  have H5 := Lib.hid (fun w hT hL => shift_Fit y n l k m w hy hT hL)
  have H6 := Lib.hid (fun w => ref15_Fit y n l k m w hy)
  generalize S15.intoN y n l m = i1 at *
  generalize S15.intoL y n l m = i2 at *
  generalize S15.intoE y n l m = i3 at *
  generalize S15.monY y n l k = o1 at *
  generalize S15.monN y n l k = o2 at *
  generalize S15.monL y n l k = o3 at *
  generalize S15.monE y n l k = o4 at *
  generalize S15.fitV y n l k m = f1 at *
  generalize S15.fitE y n l k m = f2 at *
  go_enter Tryd.func10, Tryd.ntmps10
  go_wp2_with fail
  go_region
  go_wp2_with fail
  refine settleC (fun W => CodeAt W (w.heap.size + 1) n l ∧ Below w.heap.size w W) ⟨?_, ?_⟩ ?_
  · first | exact codeAt_alloc2 _ _ _ _ _ | exact ⟨by simp [go_sem], by simp [go_sem], fun i => by simp [go_sem], by simp⟩
  · repeat (first | (with_reducible exact Below.refl _ _) | (with_reducible assumption) | (with_reducible refine bdrew ?_) | (with_reducible refine baa ?_ _) | (with_reducible refine bs ?_ (by first | exact Nat.le_refl _ | omega | (simp; omega)) _) | (with_reducible refine bt ?_ (by with_reducible assumption)))
  rintro W0 ⟨⟨c0, c1, cf, cs⟩, hB0⟩
  refine (H1.out _).mono ?_
  rintro e w1 ⟨rfl, hb1⟩
  obtain ⟨hc1, hf1⟩ := bcell hb1
  have hz1 := hb1.size
  try simp at hz1
  have hs1x0 : (w.heap.size + 1) < w1.heap.size := by omega
  have g1x0 : w1.cell? ⟨(w.heap.size + 1), 0, none⟩ = some (.int .i64 n) := (hc1 _ _ (by first | omega | (simp; done) | (simp; omega))).trans (by first | (with_reducible assumption) | (simp [go_sem]; done) | (simp [go_sem, *]; done) | assumption)
  have g1x1 : w1.cell? ⟨(w.heap.size + 1), 1, none⟩ = some (.bool l) := (hc1 _ _ (by first | omega | (simp; done) | (simp; omega))).trans (by first | (with_reducible assumption) | (simp [go_sem]; done) | (simp [go_sem, *]; done) | assumption)
  go_wp2_with fail
  refine (H2.out _).mono ?_
  rintro e w2 ⟨rfl, hb2⟩
  obtain ⟨hc2, hf2⟩ := bcell hb2
  have hz2 := hb2.size
  try simp at hz2
  have hl2w1 : w1.heap.size < w2.heap.size := by omega
  have hm2w1 : w1.heap.size ≤ w2.heap.size := by omega
  have hs2x0 : (w.heap.size + 1) < w2.heap.size := by omega
  have g2x0 : w2.cell? ⟨(w.heap.size + 1), 0, none⟩ = some (.int .i64 n) := (hc2 _ _ (by first | omega | (simp; done) | (simp; omega))).trans (by first | (with_reducible assumption) | (simp [go_sem]; done) | (simp [go_sem, *]; done) | assumption)
  have g2x1 : w2.cell? ⟨(w.heap.size + 1), 1, none⟩ = some (.bool l) := (hc2 _ _ (by first | omega | (simp; done) | (simp; omega))).trans (by first | (with_reducible assumption) | (simp [go_sem]; done) | (simp [go_sem, *]; done) | assumption)
  have g2x2 : w2.cell? ⟨w1.heap.size, 0, none⟩ = some (.int .i64 i1) := (hc2 _ _ (by first | omega | (simp; done) | (simp; omega))).trans (by first | (with_reducible assumption) | (simp [go_sem]; done) | (simp [go_sem, *]; done) | assumption)
  have g2x3 : w2.cell? ⟨w1.heap.size, 1, none⟩ = some (.bool i2) := (hc2 _ _ (by first | omega | (simp; done) | (simp; omega))).trans (by first | (with_reducible assumption) | (simp [go_sem]; done) | (simp [go_sem, *]; done) | assumption)
  go_wp2_with fail
  refine (H3.out _ (Tab.below hT (by repeat (first | (with_reducible exact Below.refl _ _) | (with_reducible assumption) | (with_reducible refine bdrew ?_) | (with_reducible refine baa ?_ _) | (with_reducible refine bs ?_ (by first | exact Nat.le_refl _ | omega | (simp; omega)) _) | (with_reducible refine bt ?_ (by with_reducible assumption))))) (Tab.below hL (by repeat (first | (with_reducible exact Below.refl _ _) | (with_reducible assumption) | (with_reducible refine bdrew ?_) | (with_reducible refine baa ?_ _) | (with_reducible refine bs ?_ (by first | exact Nat.le_refl _ | omega | (simp; omega)) _) | (with_reducible refine bt ?_ (by with_reducible assumption)))))).mono ?_
  rintro e w3 ⟨rfl, hb3⟩
  obtain ⟨hc3, hf3⟩ := bcell hb3
  have hz3 := hb3.size
  try simp at hz3
  have hl3w1 : w1.heap.size < w3.heap.size := by omega
  have hm3w1 : w1.heap.size ≤ w3.heap.size := by omega
  have hl3w2 : w2.heap.size < w3.heap.size := by omega
  have hm3w2 : w2.heap.size ≤ w3.heap.size := by omega
  have hs3x0 : (w.heap.size + 1) < w3.heap.size := by omega
  have g3x0 : w3.cell? ⟨(w.heap.size + 1), 0, none⟩ = some (.int .i64 n) := (hc3 _ _ (by first | omega | (simp; done) | (simp; omega))).trans (by first | (with_reducible assumption) | (simp [go_sem]; done) | (simp [go_sem, *]; done) | assumption)
  have g3x1 : w3.cell? ⟨(w.heap.size + 1), 1, none⟩ = some (.bool l) := (hc3 _ _ (by first | omega | (simp; done) | (simp; omega))).trans (by first | (with_reducible assumption) | (simp [go_sem]; done) | (simp [go_sem, *]; done) | assumption)
  have g3x2 : w3.cell? ⟨w1.heap.size, 0, none⟩ = some (.int .i64 i1) := (hc3 _ _ (by first | omega | (simp; done) | (simp; omega))).trans (by first | (with_reducible assumption) | (simp [go_sem]; done) | (simp [go_sem, *]; done) | assumption)
  have g3x3 : w3.cell? ⟨w1.heap.size, 1, none⟩ = some (.bool i2) := (hc3 _ _ (by first | omega | (simp; done) | (simp; omega))).trans (by first | (with_reducible assumption) | (simp [go_sem]; done) | (simp [go_sem, *]; done) | assumption)
  have g3x4 : w3.cell? ⟨w2.heap.size, 0, none⟩ = some (.int .i64 i1) := (hc3 _ _ (by first | omega | (simp; done) | (simp; omega))).trans (by first | (with_reducible assumption) | (simp [go_sem]; done) | (simp [go_sem, *]; done) | assumption)
  have g3x5 : w3.cell? ⟨w2.heap.size, 1, none⟩ = some (.bool i2) := (hc3 _ _ (by first | omega | (simp; done) | (simp; omega))).trans (by first | (with_reducible assumption) | (simp [go_sem]; done) | (simp [go_sem, *]; done) | assumption)
  go_wp2_with fail
  refine (H4.out _).mono ?_
  rintro e w4 ⟨rfl, hb4⟩
  obtain ⟨hc4, hf4⟩ := bcell hb4
  have hz4 := hb4.size
  try simp at hz4
  have hl4w1 : w1.heap.size < w4.heap.size := by omega
  have hm4w1 : w1.heap.size ≤ w4.heap.size := by omega
  have hl4w2 : w2.heap.size < w4.heap.size := by omega
  have hm4w2 : w2.heap.size ≤ w4.heap.size := by omega
  have hl4w3 : w3.heap.size < w4.heap.size := by omega
  have hm4w3 : w3.heap.size ≤ w4.heap.size := by omega
  have hs4x0 : (w.heap.size + 1) < w4.heap.size := by omega
  have g4x0 : w4.cell? ⟨(w.heap.size + 1), 0, none⟩ = some (.int .i64 n) := (hc4 _ _ (by first | omega | (simp; done) | (simp; omega))).trans (by first | (with_reducible assumption) | (simp [go_sem]; done) | (simp [go_sem, *]; done) | assumption)
  have g4x1 : w4.cell? ⟨(w.heap.size + 1), 1, none⟩ = some (.bool l) := (hc4 _ _ (by first | omega | (simp; done) | (simp; omega))).trans (by first | (with_reducible assumption) | (simp [go_sem]; done) | (simp [go_sem, *]; done) | assumption)
  have g4x2 : w4.cell? ⟨w1.heap.size, 0, none⟩ = some (.int .i64 i1) := (hc4 _ _ (by first | omega | (simp; done) | (simp; omega))).trans (by first | (with_reducible assumption) | (simp [go_sem]; done) | (simp [go_sem, *]; done) | assumption)
  have g4x3 : w4.cell? ⟨w1.heap.size, 1, none⟩ = some (.bool i2) := (hc4 _ _ (by first | omega | (simp; done) | (simp; omega))).trans (by first | (with_reducible assumption) | (simp [go_sem]; done) | (simp [go_sem, *]; done) | assumption)
  have g4x4 : w4.cell? ⟨w2.heap.size, 0, none⟩ = some (.int .i64 i1) := (hc4 _ _ (by first | omega | (simp; done) | (simp; omega))).trans (by first | (with_reducible assumption) | (simp [go_sem]; done) | (simp [go_sem, *]; done) | assumption)
  have g4x5 : w4.cell? ⟨w2.heap.size, 1, none⟩ = some (.bool i2) := (hc4 _ _ (by first | omega | (simp; done) | (simp; omega))).trans (by first | (with_reducible assumption) | (simp [go_sem]; done) | (simp [go_sem, *]; done) | assumption)
  have g4x6 : w4.cell? ⟨w3.heap.size, 0, none⟩ = some (.int .i64 o2) := (hc4 _ _ (by first | omega | (simp; done) | (simp; omega))).trans (by first | (with_reducible assumption) | (simp [go_sem]; done) | (simp [go_sem, *]; done) | assumption)
  have g4x7 : w4.cell? ⟨w3.heap.size, 1, none⟩ = some (.bool o3) := (hc4 _ _ (by first | omega | (simp; done) | (simp; omega))).trans (by first | (with_reducible assumption) | (simp [go_sem]; done) | (simp [go_sem, *]; done) | assumption)
  go_wp2_with fail
  refine (H5.out _ (Tab.below hT (by repeat (first | (with_reducible exact Below.refl _ _) | (with_reducible assumption) | (with_reducible refine bdrew ?_) | (with_reducible refine baa ?_ _) | (with_reducible refine bs ?_ (by first | exact Nat.le_refl _ | omega | (simp; omega)) _) | (with_reducible refine bt ?_ (by with_reducible assumption))))) (Tab.below hL (by repeat (first | (with_reducible exact Below.refl _ _) | (with_reducible assumption) | (with_reducible refine bdrew ?_) | (with_reducible refine baa ?_ _) | (with_reducible refine bs ?_ (by first | exact Nat.le_refl _ | omega | (simp; omega)) _) | (with_reducible refine bt ?_ (by with_reducible assumption)))))).mono ?_
  rintro e w5 ⟨rfl, hb5⟩
  obtain ⟨hc5, hf5⟩ := bcell hb5
  have hz5 := hb5.size
  try simp at hz5
  have hl5w1 : w1.heap.size < w5.heap.size := by omega
  have hm5w1 : w1.heap.size ≤ w5.heap.size := by omega
  have hl5w2 : w2.heap.size < w5.heap.size := by omega
  have hm5w2 : w2.heap.size ≤ w5.heap.size := by omega
  have hl5w3 : w3.heap.size < w5.heap.size := by omega
  have hm5w3 : w3.heap.size ≤ w5.heap.size := by omega
  have hl5w4 : w4.heap.size < w5.heap.size := by omega
  have hm5w4 : w4.heap.size ≤ w5.heap.size := by omega
  have hs5x0 : (w.heap.size + 1) < w5.heap.size := by omega
  have g5x0 : w5.cell? ⟨(w.heap.size + 1), 0, none⟩ = some (.int .i64 n) := (hc5 _ _ (by first | omega | (simp; done) | (simp; omega))).trans (by first | (with_reducible assumption) | (simp [go_sem]; done) | (simp [go_sem, *]; done) | assumption)
  have g5x1 : w5.cell? ⟨(w.heap.size + 1), 1, none⟩ = some (.bool l) := (hc5 _ _ (by first | omega | (simp; done) | (simp; omega))).trans (by first | (with_reducible assumption) | (simp [go_sem]; done) | (simp [go_sem, *]; done) | assumption)
  have g5x2 : w5.cell? ⟨w1.heap.size, 0, none⟩ = some (.int .i64 i1) := (hc5 _ _ (by first | omega | (simp; done) | (simp; omega))).trans (by first | (with_reducible assumption) | (simp [go_sem]; done) | (simp [go_sem, *]; done) | assumption)
  have g5x3 : w5.cell? ⟨w1.heap.size, 1, none⟩ = some (.bool i2) := (hc5 _ _ (by first | omega | (simp; done) | (simp; omega))).trans (by first | (with_reducible assumption) | (simp [go_sem]; done) | (simp [go_sem, *]; done) | assumption)
  have g5x4 : w5.cell? ⟨w2.heap.size, 0, none⟩ = some (.int .i64 i1) := (hc5 _ _ (by first | omega | (simp; done) | (simp; omega))).trans (by first | (with_reducible assumption) | (simp [go_sem]; done) | (simp [go_sem, *]; done) | assumption)
  have g5x5 : w5.cell? ⟨w2.heap.size, 1, none⟩ = some (.bool i2) := (hc5 _ _ (by first | omega | (simp; done) | (simp; omega))).trans (by first | (with_reducible assumption) | (simp [go_sem]; done) | (simp [go_sem, *]; done) | assumption)
  have g5x6 : w5.cell? ⟨w3.heap.size, 0, none⟩ = some (.int .i64 o2) := (hc5 _ _ (by first | omega | (simp; done) | (simp; omega))).trans (by first | (with_reducible assumption) | (simp [go_sem]; done) | (simp [go_sem, *]; done) | assumption)
  have g5x7 : w5.cell? ⟨w3.heap.size, 1, none⟩ = some (.bool o3) := (hc5 _ _ (by first | omega | (simp; done) | (simp; omega))).trans (by first | (with_reducible assumption) | (simp [go_sem]; done) | (simp [go_sem, *]; done) | assumption)
  have g5x8 : w5.cell? ⟨w4.heap.size, 0, none⟩ = some (.int .i64 o2) := (hc5 _ _ (by first | omega | (simp; done) | (simp; omega))).trans (by first | (with_reducible assumption) | (simp [go_sem]; done) | (simp [go_sem, *]; done) | assumption)
  have g5x9 : w5.cell? ⟨w4.heap.size, 1, none⟩ = some (.bool o3) := (hc5 _ _ (by first | omega | (simp; done) | (simp; omega))).trans (by first | (with_reducible assumption) | (simp [go_sem]; done) | (simp [go_sem, *]; done) | assumption)
  go_wp2_with fail
  refine (H6.out _).mono ?_
  rintro e w6 ⟨rfl, hb6⟩
  obtain ⟨hc6, hf6⟩ := bcell hb6
  have hz6 := hb6.size
  try simp at hz6
  have hl6w1 : w1.heap.size < w6.heap.size := by omega
  have hm6w1 : w1.heap.size ≤ w6.heap.size := by omega
  have hl6w2 : w2.heap.size < w6.heap.size := by omega
  have hm6w2 : w2.heap.size ≤ w6.heap.size := by omega
  have hl6w3 : w3.heap.size < w6.heap.size := by omega
  have hm6w3 : w3.heap.size ≤ w6.heap.size := by omega
  have hl6w4 : w4.heap.size < w6.heap.size := by omega
  have hm6w4 : w4.heap.size ≤ w6.heap.size := by omega
  have g6x0 : w6.cell? ⟨w1.heap.size, 0, none⟩ = some (.int .i64 i1) := (hc6 _ _ (by first | omega | (simp; done) | (simp; omega))).trans (by first | (with_reducible assumption) | (simp [go_sem]; done) | (simp [go_sem, *]; done) | assumption)
  have g6x1 : w6.cell? ⟨w1.heap.size, 1, none⟩ = some (.bool i2) := (hc6 _ _ (by first | omega | (simp; done) | (simp; omega))).trans (by first | (with_reducible assumption) | (simp [go_sem]; done) | (simp [go_sem, *]; done) | assumption)
  have g6x2 : w6.cell? ⟨w2.heap.size, 0, none⟩ = some (.int .i64 i1) := (hc6 _ _ (by first | omega | (simp; done) | (simp; omega))).trans (by first | (with_reducible assumption) | (simp [go_sem]; done) | (simp [go_sem, *]; done) | assumption)
  have g6x3 : w6.cell? ⟨w2.heap.size, 1, none⟩ = some (.bool i2) := (hc6 _ _ (by first | omega | (simp; done) | (simp; omega))).trans (by first | (with_reducible assumption) | (simp [go_sem]; done) | (simp [go_sem, *]; done) | assumption)
  have g6x4 : w6.cell? ⟨w3.heap.size, 0, none⟩ = some (.int .i64 o2) := (hc6 _ _ (by first | omega | (simp; done) | (simp; omega))).trans (by first | (with_reducible assumption) | (simp [go_sem]; done) | (simp [go_sem, *]; done) | assumption)
  have g6x5 : w6.cell? ⟨w3.heap.size, 1, none⟩ = some (.bool o3) := (hc6 _ _ (by first | omega | (simp; done) | (simp; omega))).trans (by first | (with_reducible assumption) | (simp [go_sem]; done) | (simp [go_sem, *]; done) | assumption)
  have g6x6 : w6.cell? ⟨w4.heap.size, 0, none⟩ = some (.int .i64 o2) := (hc6 _ _ (by first | omega | (simp; done) | (simp; omega))).trans (by first | (with_reducible assumption) | (simp [go_sem]; done) | (simp [go_sem, *]; done) | assumption)
  have g6x7 : w6.cell? ⟨w4.heap.size, 1, none⟩ = some (.bool o3) := (hc6 _ _ (by first | omega | (simp; done) | (simp; omega))).trans (by first | (with_reducible assumption) | (simp [go_sem]; done) | (simp [go_sem, *]; done) | assumption)
  go_wp2_with fail
  refine (awake15 _ (Tab.below hT (by repeat (first | (with_reducible exact Below.refl _ _) | (with_reducible assumption) | (with_reducible refine bdrew ?_) | (with_reducible refine baa ?_ _) | (with_reducible refine bs ?_ (by first | exact Nat.le_refl _ | omega | (simp; omega)) _) | (with_reducible refine bt ?_ (by with_reducible assumption))))) (Tab.below hL (by repeat (first | (with_reducible exact Below.refl _ _) | (with_reducible assumption) | (with_reducible refine bdrew ?_) | (with_reducible refine baa ?_ _) | (with_reducible refine bs ?_ (by first | exact Nat.le_refl _ | omega | (simp; omega)) _) | (with_reducible refine bt ?_ (by with_reducible assumption)))))).mono ?_
  rintro e w7 ⟨rfl, hb7⟩
  obtain ⟨hc7, hf7⟩ := bcell hb7
  have hz7 := hb7.size
  try simp at hz7
  have hl7w1 : w1.heap.size < w7.heap.size := by omega
  have hm7w1 : w1.heap.size ≤ w7.heap.size := by omega
  have hl7w2 : w2.heap.size < w7.heap.size := by omega
  have hm7w2 : w2.heap.size ≤ w7.heap.size := by omega
  have hl7w3 : w3.heap.size < w7.heap.size := by omega
  have hm7w3 : w3.heap.size ≤ w7.heap.size := by omega
  have hl7w4 : w4.heap.size < w7.heap.size := by omega
  have hm7w4 : w4.heap.size ≤ w7.heap.size := by omega
  have g7x0 : w7.cell? ⟨w1.heap.size, 0, none⟩ = some (.int .i64 i1) := (hc7 _ _ (by first | omega | (simp; done) | (simp; omega))).trans (by first | (with_reducible assumption) | (simp [go_sem]; done) | (simp [go_sem, *]; done) | assumption)
  have g7x1 : w7.cell? ⟨w1.heap.size, 1, none⟩ = some (.bool i2) := (hc7 _ _ (by first | omega | (simp; done) | (simp; omega))).trans (by first | (with_reducible assumption) | (simp [go_sem]; done) | (simp [go_sem, *]; done) | assumption)
  have g7x2 : w7.cell? ⟨w2.heap.size, 0, none⟩ = some (.int .i64 i1) := (hc7 _ _ (by first | omega | (simp; done) | (simp; omega))).trans (by first | (with_reducible assumption) | (simp [go_sem]; done) | (simp [go_sem, *]; done) | assumption)
  have g7x3 : w7.cell? ⟨w2.heap.size, 1, none⟩ = some (.bool i2) := (hc7 _ _ (by first | omega | (simp; done) | (simp; omega))).trans (by first | (with_reducible assumption) | (simp [go_sem]; done) | (simp [go_sem, *]; done) | assumption)
  have g7x4 : w7.cell? ⟨w3.heap.size, 0, none⟩ = some (.int .i64 o2) := (hc7 _ _ (by first | omega | (simp; done) | (simp; omega))).trans (by first | (with_reducible assumption) | (simp [go_sem]; done) | (simp [go_sem, *]; done) | assumption)
  have g7x5 : w7.cell? ⟨w3.heap.size, 1, none⟩ = some (.bool o3) := (hc7 _ _ (by first | omega | (simp; done) | (simp; omega))).trans (by first | (with_reducible assumption) | (simp [go_sem]; done) | (simp [go_sem, *]; done) | assumption)
  have g7x6 : w7.cell? ⟨w4.heap.size, 0, none⟩ = some (.int .i64 o2) := (hc7 _ _ (by first | omega | (simp; done) | (simp; omega))).trans (by first | (with_reducible assumption) | (simp [go_sem]; done) | (simp [go_sem, *]; done) | assumption)
  have g7x7 : w7.cell? ⟨w4.heap.size, 1, none⟩ = some (.bool o3) := (hc7 _ _ (by first | omega | (simp; done) | (simp; omega))).trans (by first | (with_reducible assumption) | (simp [go_sem]; done) | (simp [go_sem, *]; done) | assumption)
  go_wp2_with fail
  go_ret
  refine ⟨by first | rfl | simp [*], ?_⟩
  repeat (first | (with_reducible exact Below.refl _ _) | (with_reducible assumption) | (with_reducible refine bdrew ?_) | (with_reducible refine baa ?_ _) | (with_reducible refine bs ?_ (by first | exact Nat.le_refl _ | omega | (simp; omega)) _) | (with_reducible refine bt ?_ (by with_reducible assumption)))
end Go.Proofs.YtncckpfenjokmaaDoor
