/- Layer 15: its laws. -/
import Derived.Test.YtafenpgafmdenaaGreatDoorShiftN
namespace Go.Proofs.YtafenpgafmdenaaGreatDoor
open Go.ChangeShapes Go.WideShapes Go.ChangeAt Go.RowKit
set_option linter.unusedVariables false
set_option maxRecDepth 100000
namespace S15
theorem codes_next : ∀ lp : Bool, ∀ i : Nat, i < (if lp then 12 else 11) → (Cal.ofL lp ((i : Int) + 1 + 1) = (Cal.ofN lp ((i : Int) + 1) == 5 && !Cal.ofL lp ((i : Int) + 1) && lp)) ∧ Cal.ofN lp ((i : Int) + 1 + 1) = (if (Cal.ofN lp ((i : Int) + 1) == 5 && !Cal.ofL lp ((i : Int) + 1) && lp) = true then 5 else Cal.ofN lp ((i : Int) + 1) + 1) := by decide
theorem codes_ends : ∀ lp : Bool, Cal.ofN lp 1 = 1 ∧ Cal.ofL lp 1 = false := by decide
theorem codes_last : ∀ lp : Bool, Cal.ofN lp (Cal.most lp) = 12 := by decide
theorem place_last (lp : Bool) (n : Int) (l : Bool) (h : Cal.plOk lp n l = true) : n = 12 ↔ Cal.plV lp n l = Cal.most lp := by
  obtain ⟨a, b, c, d⟩ := D10.place_in lp n l h
  refine ⟨fun e => ?_, fun e => ?_⟩
  · subst e
    cases l
    · cases lp <;> rfl
    · exact absurd h (by cases lp <;> decide)
  · rw [← c, e]; exact codes_last lp
theorem last_0 {y n : Int} {l : Bool} (h1 : 1 ≤ y) (h2 : y ≤ 9999) (hp : Cal.plOk (Cal.leap y) n l = true) : D10.lastE y n l = 0 := by simp [D10.lastE, Cal.yearIn_yes y h1 h2, hp]
theorem mon_ok {y n k : Int} {l : Bool} (h : monE y n l k = 0) : D10.lastE y n l = 0 ∧ -4000000 ≤ k ∧ k ≤ 4000000 ∧ 0 ≤ monA y n l k ∧ monA y n l k < 123671 := by
  unfold monE at h
  split at h
  · rename_i he
    split at h
    · omega
    · split at h
      · omega
      · exact ⟨he, by omega, by omega, by omega, by omega⟩
  · rename_i he; exact absurd h he
theorem mon_0 {y n k : Int} {l : Bool} (he : D10.lastE y n l = 0) (h1 : -4000000 ≤ k) (h2 : k ≤ 4000000) (h3 : 0 ≤ monA y n l k) (h4 : monA y n l k < 123671) : monE y n l k = 0 := by
  unfold monE; rw [if_pos he, if_neg (by omega), if_neg (by omega)]
theorem mon_there {y n k : Int} {l : Bool} (h : monE y n l k = 0) : D10.lastE (monY y n l k) (monN y n l k) (monL y n l k) = 0 ∧ 1 ≤ monY y n l k ∧ monY y n l k ≤ 9999 ∧ ∀ b, monA (monY y n l k) (monN y n l k) (monL y n l k) b = monA y n l (k + b) := by
  obtain ⟨he, k1, k2, a1, a2⟩ := mon_ok h
  obtain ⟨y1, y2⟩ := mY_in _ a1 a2
  obtain ⟨m1, m2⟩ := mM_in (monA y n l k)
  obtain ⟨_, p1, p2⟩ := D10.of_place _ _ m1 m2
  have e1 : monY y n l k = mY (monA y n l k) := by unfold monY; rw [if_pos h]
  have e2 : monN y n l k = Cal.ofN (Cal.leap (mY (monA y n l k))) (mM (monA y n l k)) := by unfold monN; rw [if_pos h]
  have e3 : monL y n l k = Cal.ofL (Cal.leap (mY (monA y n l k))) (mM (monA y n l k)) := by unfold monL; rw [if_pos h]
  rw [e1, e2, e3]
  refine ⟨last_0 y1 y2 p1, y1, y2, fun b => ?_⟩
  have : monA y n l (k + b) = monA y n l k + b := by unfold monA; omega
  rw [this]
  generalize monA y n l k = A at *
  unfold monA
  rw [p2]
  unfold mM; omega
theorem mon_sum {y n k b : Int} {l : Bool} (h : monE y n l k = 0) (b1 : -4000000 ≤ b) (b2 : b ≤ 4000000) (c1 : -4000000 ≤ k + b) (c2 : k + b ≤ 4000000) :
    monE (monY y n l k) (monN y n l k) (monL y n l k) b = monE y n l (k + b) ∧ monY (monY y n l k) (monN y n l k) (monL y n l k) b = monY y n l (k + b) ∧ monN (monY y n l k) (monN y n l k) (monL y n l k) b = monN y n l (k + b) ∧ monL (monY y n l k) (monN y n l k) (monL y n l k) b = monL y n l (k + b) := by
  obtain ⟨t1, t2, t3, t4⟩ := mon_there h
  have he := (mon_ok h).1
  generalize monY y n l k = Y at *
  generalize monN y n l k = N at *
  generalize monL y n l k = L at *
  have e : monE Y N L b = monE y n l (k + b) := by
    unfold monE
    rw [if_pos t1, if_pos he, if_neg (show ¬(b < -4000000 ∨ 4000000 < b) by omega), if_neg (show ¬(k + b < -4000000 ∨ 4000000 < k + b) by omega), t4 b]
  exact ⟨e, by unfold monY; rw [e, t4 b], by unfold monN; rw [e, t4 b], by unfold monL; rw [e, t4 b]⟩
theorem mon_step {y n k : Int} {l : Bool} (he : D10.lastE y n l = 0) (k1 : -4000000 ≤ k) (k2 : k ≤ 4000000) (m z : Int) (z1 : 1 ≤ z) (z2 : z ≤ 9999) (m1 : 1 ≤ m) (m2 : m ≤ Cal.most (Cal.leap z)) (e : monA y n l k = Cal.before z + m - 1) :
    monE y n l k = 0 ∧ monY y n l k = z ∧ monN y n l k = Cal.ofN (Cal.leap z) m ∧ monL y n l k = Cal.ofL (Cal.leap z) m := by
  have hn := before_next z
  have a1 := before_mono 1 z z1
  have a2 := before_mono (z + 1) 10000 (by omega)
  rw [before_1] at a1
  rw [before_10000] at a2
  have h := mon_0 he k1 k2 (by omega) (by omega)
  have hy : mY (monA y n l k) = z := mY_one _ _ (by omega) (by omega)
  have hm : mM (monA y n l k) = m := by unfold mM; rw [hy]; omega
  exact ⟨h, by unfold monY; rw [if_pos h, hy], by unfold monN; rw [if_pos h, hy, hm], by unfold monL; rw [if_pos h, hy, hm]⟩
theorem mon_zero {y n : Int} {l : Bool} (he : D10.lastE y n l = 0) : monE y n l 0 = 0 ∧ monY y n l 0 = y ∧ monN y n l 0 = n ∧ monL y n l 0 = l := by
  obtain ⟨h1, h2, hp⟩ := last_in he
  obtain ⟨p1, p2, p3, p4⟩ := D10.place_in _ _ _ hp
  have := mon_step he (k := 0) (by omega) (by omega) _ y h1 h2 p1 p2 (by unfold monA; omega)
  rwa [p3, p4] at this
theorem mon_back {y n k : Int} {l : Bool} (h : monE y n l k = 0) : monE (monY y n l k) (monN y n l k) (monL y n l k) (-k) = 0 ∧ monY (monY y n l k) (monN y n l k) (monL y n l k) (-k) = y ∧ monN (monY y n l k) (monN y n l k) (monL y n l k) (-k) = n ∧ monL (monY y n l k) (monN y n l k) (monL y n l k) (-k) = l := by
  obtain ⟨he, k1, k2, _⟩ := mon_ok h
  have := mon_sum h (b := -k) (by omega) (by omega) (by omega) (by omega)
  rw [show k + -k = 0 by omega] at this
  have z := mon_zero he
  rwa [z.1, z.2.1, z.2.2.1, z.2.2.2] at this
theorem mon_no {y n k : Int} {l : Bool} (h : ¬ monE y n l k = 0) : monY y n l k = 0 ∧ monN y n l k = 0 ∧ monL y n l k = false := by
  refine ⟨by unfold monY; rw [if_neg h], by unfold monN; rw [if_neg h], by unfold monL; rw [if_neg h]⟩
/-- A month on. -/
theorem one_12 {y n : Int} {l : Bool} (he : D10.lastE y n l = 0) (hn : n = 12) : (y = 9999 ∧ monE y n l 1 = 2) ∨ (y < 9999 ∧ monE y n l 1 = 0 ∧ monY y n l 1 = y + 1 ∧ monN y n l 1 = 1 ∧ monL y n l 1 = false) := by
  obtain ⟨h1, h2, hp⟩ := last_in he
  have e := (place_last _ _ _ hp).1 hn
  have hx := before_next y
  by_cases c : y = 9999
  · refine .inl ⟨c, ?_⟩
    have : monA y n l 1 = 123671 := by unfold monA; rw [e]; rw [← before_10000, show (10000 : Int) = y + 1 by omega]; omega
    unfold monE
    rw [if_pos he, if_neg (by omega), if_pos (by omega)]
  · have hm : 1 ≤ Cal.most (Cal.leap (y + 1)) := by unfold Cal.most; split <;> omega
    have := mon_step he (k := 1) (by omega) (by omega) 1 (y + 1) (by omega) (by omega) (by omega) hm (by unfold monA; rw [e]; omega)
    rw [(codes_ends _).1, (codes_ends _).2] at this
    exact .inr ⟨by omega, this⟩
theorem one_in {y n : Int} {l : Bool} (he : D10.lastE y n l = 0) (hn : ¬ n = 12) : monE y n l 1 = 0 ∧ monY y n l 1 = y ∧ monL y n l 1 = (n == 5 && !l && Cal.leap y) ∧ monN y n l 1 = (if (n == 5 && !l && Cal.leap y) = true then 5 else n + 1) ∧ 1 ≤ n ∧ n ≤ 12 := by
  obtain ⟨h1, h2, hp⟩ := last_in he
  obtain ⟨p1, p2, p3, p4⟩ := D10.place_in _ _ _ hp
  have e : ¬ Cal.plV (Cal.leap y) n l = Cal.most (Cal.leap y) := fun e => hn ((place_last _ _ _ hp).2 e)
  have := mon_step he (k := 1) (by omega) (by omega) (Cal.plV (Cal.leap y) n l + 1) y h1 h2 (by omega) (by omega) (by unfold monA; omega)
  have cn := codes_next (Cal.leap y) (Cal.plV (Cal.leap y) n l - 1).toNat (by unfold Cal.most at p2 e; cases hl : Cal.leap y <;> simp [hl] at * <;> omega)
  rw [show (((Cal.plV (Cal.leap y) n l - 1).toNat : Nat) : Int) + 1 = Cal.plV (Cal.leap y) n l by omega, p3, p4] at cn
  have hr : Cal.right n l = true := by unfold Cal.plOk at hp; simp at hp; exact hp.1
  have hb : 1 ≤ n ∧ n ≤ 12 := by unfold Cal.right at hr; simp at hr; omega
  exact ⟨this.1, this.2.1, this.2.2.2.trans cn.1, this.2.2.1.trans cn.2, hb⟩
end S15
theorem shift_Into_a (w : World)  : Calls Tryz.prog 111 #[.int .i64 5785, .agg #[.int .i64 5, .bool true], .int .i64 0] w fun e w' => e = .returned (.tuple #[.agg #[.int .i64 6, .bool false], .int .i64 0]) ∧ Below w.heap.size w w' := by
  have := shift_Into 5785 5 true 0 w
  rwa [show S15.intoN 5785 5 true 0 = 6 by decide +kernel, show S15.intoL 5785 5 true 0 = false by decide +kernel, show S15.intoE 5785 5 true 0 = 0 by decide +kernel] at this
theorem shift_Into_b (w : World)  : Calls Tryz.prog 111 #[.int .i64 5785, .agg #[.int .i64 5, .bool true], .int .i64 1] w fun e w' => e = .returned (.tuple #[.agg #[.int .i64 0, .bool false], .int .i64 7]) ∧ Below w.heap.size w w' := by
  have := shift_Into 5785 5 true 1 w
  rwa [show S15.intoN 5785 5 true 1 = 0 by decide +kernel, show S15.intoL 5785 5 true 1 = false by decide +kernel, show S15.intoE 5785 5 true 1 = 7 by decide +kernel] at this
theorem shift_Months_a (w : World) (hT : Tab w 8 kevCells) (hL : Tab w 6 lenCells) : Calls Tryz.prog 112 #[.int .i64 5784, .agg #[.int .i64 12, .bool false], .int .i64 1] w fun e w' => e = .returned (.tuple #[.int .i64 5785, .agg #[.int .i64 1, .bool false], .int .i64 0]) ∧ Below w.heap.size w w' := by
  have := shift_Months 5784 12 false 1 w ⟨by omega, by omega⟩ hT hL
  rwa [show S15.monY 5784 12 false 1 = 5785 by decide +kernel, show S15.monN 5784 12 false 1 = 1 by decide +kernel, show S15.monL 5784 12 false 1 = false by decide +kernel, show S15.monE 5784 12 false 1 = 0 by decide +kernel] at this
end Go.Proofs.YtafenpgafmdenaaGreatDoor
