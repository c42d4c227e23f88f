/- Layer 16: the laws' arithmetic. -/
import Derived.Test.YtafenpgafmdenaaGreatDoorA16
namespace Go.Proofs.YtafenpgafmdenaaGreatDoor
open Go.RowKit
set_option linter.unusedVariables false
set_option maxRecDepth 100000
namespace A16
theorem to_0 {y n d a b c f m : Int} {l : Bool} (h : toE y n l d a b c f m = 0) : right a b c f = true ∧ S15.mode m = true ∧ D10.dateE y n l d = 0 ∧ S15.intoE (y + a) n l m = 0 ∧ e2 y n l a b m = 0 ∧ e3 y n l d a b m = 0 ∧ ¬ out (day y n l d a b c f m) := by
  unfold toE at h
  by_cases h0 : (right a b c f && S15.mode m) = true
  · rw [if_pos h0] at h
    simp only [Bool.and_eq_true] at h0
    by_cases h1 : D10.dateE y n l d = 0
    · rw [if_pos h1] at h
      by_cases h2 : S15.intoE (y + a) n l m = 0
      · rw [if_pos h2] at h
        by_cases h3 : e2 y n l a b m = 0
        · rw [if_pos h3] at h
          by_cases h4 : e3 y n l d a b m = 0
          · rw [if_pos h4] at h
            by_cases h5 : out (day y n l d a b c f m)
            · rw [if_pos h5] at h; omega
            · exact ⟨h0.1, h0.2, h1, h2, h3, h4, h5⟩
          · rw [if_neg h4] at h; exact absurd h h4
        · rw [if_neg h3] at h; exact absurd h h3
      · rw [if_neg h2] at h; exact absurd h h2
    · rw [if_neg h1] at h; exact absurd h h1
  · rw [if_neg h0] at h; omega
theorem to_some (y n : Int) (l : Bool) (d a b c f m : Int) : ∃ (ry rn : Int) (rl : Bool) (rd er : Int), ToIs y n l d a b c f m ry rn rl rd er := by
  by_cases h : toE y n l d a b c f m = 0
  · obtain ⟨_, _, _, _, _, _, ho⟩ := to_0 h
    unfold out at ho
    obtain ⟨ry, rm, rd, hv, e⟩ := D10.day_there (day y n l d a b c f m) (by omega) (by omega)
    exact ⟨ry, Cal.ofN (Cal.leap ry) rm, Cal.ofL (Cal.leap ry) rm, rd, 0, .inr ⟨h, rfl, rm, hv, e, rfl, rfl⟩⟩
  · exact ⟨0, 0, false, 0, toE y n l d a b c f m, .inl ⟨h, rfl, rfl, rfl, rfl, rfl⟩⟩
theorem ToIs.date {y n d a b c f m ry rn rd er : Int} {l rl : Bool} (h : ToIs y n l d a b c f m ry rn rl rd er) (hE : toE y n l d a b c f m = 0) : er = 0 ∧ D10.dateE ry rn rl rd = 0 ∧ D10.dayV ry rn rl rd = day y n l d a b c f m ∧ 1 ≤ ry ∧ ry ≤ 9999 := by
  obtain ⟨he, rm, hv, e, rfl, rfl⟩ := h.ok hE
  obtain ⟨h1, h2⟩ := D10.valid_date hv
  exact ⟨he, h1, h2.trans e.symm, hv.1, hv.2.1⟩
theorem ToIs.e {y n d a b c f m ry rn rd er : Int} {l rl : Bool} (h : ToIs y n l d a b c f m ry rn rl rd er) : er = toE y n l d a b c f m := by
  rcases h with ⟨_, h, _⟩ | ⟨h0, h, _⟩
  · exact h
  · rw [h, h0]
theorem into_same {y n d m : Int} {l : Bool} (h : D10.dateE y n l d = 0) (hm : S15.mode m = true) : S15.intoE (y + 0) n l m = 0 ∧ n1 y n l 0 m = n ∧ l1 y n l 0 m = l := by
  obtain ⟨hv, hp⟩ := D10.date_valid h
  have hr : Cal.right n l = true := by unfold Cal.plOk at hp; simp only [Bool.and_eq_true] at hp; exact hp.1
  have e : S15.intoE (y + 0) n l m = 0 := by unfold S15.intoE; rw [Int.add_zero, hm, Cal.yearIn_yes y hv.1 hv.2.1, hr, hp]; rfl
  refine ⟨e, ?_, ?_⟩
  · unfold n1 S15.intoN; rw [if_pos e, Int.add_zero, if_pos hp]
  · unfold l1 S15.intoL; rw [if_pos e, Int.add_zero, if_pos hp]
theorem fit_same {y n d m : Int} {l : Bool} (h : D10.dateE y n l d = 0) (hm : S15.mode m = true) : S15.fitE y n l d m = 0 ∧ S15.fitV y n l d m = d := by
  obtain ⟨hv, hp⟩ := D10.date_valid h
  have hl := S15.last_0 hv.1 hv.2.1 hp
  have hb := S15.lastV_bd hl
  have e1 : D10.lastV y n l = D10.dLen y (Cal.plV (Cal.leap y) n l) := by simp [D10.lastV, Cal.yearIn_yes y hv.1 hv.2.1, hp]
  have hd : 1 ≤ d ∧ d ≤ D10.lastV y n l := ⟨hv.2.2.2.2.1, by rw [e1]; exact hv.2.2.2.2.2⟩
  have e : S15.fitE y n l d m = 0 := by unfold S15.fitE; rw [hm, if_pos rfl, if_pos hl, if_neg (by omega), if_pos hd.2]
  exact ⟨e, by unfold S15.fitV; rw [if_pos e, if_pos hd.2]⟩
/-- Weeks and days alone. -/
theorem to_days {y n d c f m : Int} {l : Bool} (h : D10.dateE y n l d = 0) (hr : right 0 0 c f = true) (hm : S15.mode m = true) :
    day y n l d 0 0 c f m = D10.dayV y n l d + (7 * c + f) ∧ toE y n l d 0 0 c f m = if out (D10.dayV y n l d + (7 * c + f)) then 2 else 0 := by
  obtain ⟨hi, en, el⟩ := into_same h hm
  obtain ⟨hv, hp⟩ := D10.date_valid h
  obtain ⟨m0, my, mn, ml⟩ := S15.mon_zero (S15.last_0 hv.1 hv.2.1 hp)
  obtain ⟨f0, fv⟩ := fit_same h hm
  have ey : y2 y n l 0 0 m = y := by unfold y2; rw [en, el, Int.add_zero]; exact my
  have en2 : n2 y n l 0 0 m = n := by unfold n2; rw [en, el, Int.add_zero]; exact mn
  have el2 : l2 y n l 0 0 m = l := by unfold l2; rw [en, el, Int.add_zero]; exact ml
  have ee2 : e2 y n l 0 0 m = 0 := by unfold e2; rw [en, el, Int.add_zero]; exact m0
  have ed : d2 y n l d 0 0 m = d := by unfold d2; rw [ey, en2, el2]; exact fv
  have ee3 : e3 y n l d 0 0 m = 0 := by unfold e3; rw [ey, en2, el2]; exact f0
  have eD : day y n l d 0 0 c f m = D10.dayV y n l d + (7 * c + f) := by unfold day; rw [ey, en2, el2, ed]
  refine ⟨eD, ?_⟩
  have hx : (right 0 0 c f && S15.mode m) = true := by rw [hr, hm]; rfl
  unfold toE
  rw [if_pos hx, if_pos h, if_pos hi, if_pos ee2, if_pos ee3, eD]
theorem to_bad {y n d a b c f m : Int} {l : Bool} (h : ¬ D10.dateE y n l d = 0) (hr : right a b c f = true) (hm : S15.mode m = true) : toE y n l d a b c f m = D10.dateE y n l d := by
  have hx : (right a b c f && S15.mode m) = true := by rw [hr, hm]; rfl
  unfold toE; rw [if_pos hx, if_neg h]
theorem right_days {c f : Int} (hc : -4000000 ≤ c ∧ c ≤ 4000000) (hf : -4000000 ≤ f ∧ f ≤ 4000000) : right 0 0 c f = true := by simp [right, may, hc, hf]
/-! Modes. -/
theorem dateE_ne (y n : Int) (l : Bool) (d : Int) : ¬ D10.dateE y n l d = 7 := by unfold D10.dateE; split; split; split; all_goals omega
theorem lastE_ne (y n : Int) (l : Bool) : ¬ D10.lastE y n l = 7 := by unfold D10.lastE; split; split; all_goals omega
theorem monE_ne (y n : Int) (l : Bool) (k : Int) : ¬ S15.monE y n l k = 7 := by
  have := lastE_ne y n l
  unfold S15.monE; split; split; omega; split; all_goals omega
theorem into_modes (y n : Int) (l : Bool) : ¬ S15.intoE y n l 0 = 7 ∧ (S15.intoE y n l 1 = 0 → S15.intoE y n l 0 = 0 ∧ S15.intoN y n l 0 = S15.intoN y n l 1 ∧ S15.intoL y n l 0 = S15.intoL y n l 1) ∧ (S15.intoE y n l 1 = 0 ∨ S15.intoE y n l 1 = 7 ∨ S15.intoE y n l 1 = S15.intoE y n l 0) := by
  have m0 : S15.mode 0 = true := rfl
  have m1 : S15.mode 1 = true := rfl
  unfold S15.intoN S15.intoL S15.intoE
  rw [m0, m1]
  cases Cal.yearIn y <;> cases Cal.right n l <;> cases Cal.plOk (Cal.leap y) n l <;> simp
theorem fit_modes (y n : Int) (l : Bool) (d : Int) : ¬ S15.fitE y n l d 0 = 7 ∧ (S15.fitE y n l d 1 = 0 → S15.fitE y n l d 0 = 0 ∧ S15.fitV y n l d 0 = S15.fitV y n l d 1) ∧ (S15.fitE y n l d 1 = 0 ∨ S15.fitE y n l d 1 = 7 ∨ S15.fitE y n l d 1 = S15.fitE y n l d 0) := by
  have m0 : S15.mode 0 = true := rfl
  have m1 : S15.mode 1 = true := rfl
  have hl := lastE_ne y n l
  unfold S15.fitV S15.fitE
  rw [m0, m1]
  by_cases h1 : D10.lastE y n l = 0
  · by_cases h2 : d < 1 ∨ 30 < d
    · simp [h1, h2]
    · by_cases h3 : d ≤ D10.lastV y n l <;> simp [h1, h2, h3]
  · simp [h1, hl]
theorem to_modes (y n : Int) (l : Bool) (d a b c f : Int) : ¬ toE y n l d a b c f 0 = 7 ∧ (toE y n l d a b c f 1 = 0 → toE y n l d a b c f 0 = 0 ∧ day y n l d a b c f 0 = day y n l d a b c f 1) ∧ (toE y n l d a b c f 1 = 0 ∨ toE y n l d a b c f 1 = 7 ∨ toE y n l d a b c f 1 = toE y n l d a b c f 0) := by
  have m0 : S15.mode 0 = true := rfl
  have m1 : S15.mode 1 = true := rfl
  by_cases hr : right a b c f = true
  · have x0 : (right a b c f && S15.mode 0) = true := by rw [hr, m0]; rfl
    have x1 : (right a b c f && S15.mode 1) = true := by rw [hr, m1]; rfl
    by_cases hd : D10.dateE y n l d = 0
    · obtain ⟨i1, i2, i3⟩ := into_modes (y + a) n l
      by_cases hi : S15.intoE (y + a) n l 1 = 0
      · obtain ⟨j1, j2, j3⟩ := i2 hi
        have en : n1 y n l a 0 = n1 y n l a 1 := j2
        have el : l1 y n l a 0 = l1 y n l a 1 := j3
        have ey2 : y2 y n l a b 0 = y2 y n l a b 1 := by unfold y2; rw [en, el]
        have en2 : n2 y n l a b 0 = n2 y n l a b 1 := by unfold n2; rw [en, el]
        have el2 : l2 y n l a b 0 = l2 y n l a b 1 := by unfold l2; rw [en, el]
        have ee2 : e2 y n l a b 0 = e2 y n l a b 1 := by unfold e2; rw [en, el]
        obtain ⟨k1, k2, k3⟩ := fit_modes (y2 y n l a b 1) (n2 y n l a b 1) (l2 y n l a b 1) d
        have ee3 : e3 y n l d a b 0 = S15.fitE (y2 y n l a b 1) (n2 y n l a b 1) (l2 y n l a b 1) d 0 := by unfold e3; rw [ey2, en2, el2]
        have ed2 : d2 y n l d a b 0 = S15.fitV (y2 y n l a b 1) (n2 y n l a b 1) (l2 y n l a b 1) d 0 := by unfold d2; rw [ey2, en2, el2]
        have hm7 : ¬ e2 y n l a b 1 = 7 := monE_ne _ _ _ _
        unfold toE
        rw [if_pos x0, if_pos x1, if_pos hd, if_pos hd, if_pos hi, if_pos j1, ee2]
        by_cases h2 : e2 y n l a b 1 = 0
        · rw [if_pos h2, if_pos h2, ee3]
          by_cases h3 : e3 y n l d a b 1 = 0
          · obtain ⟨k4, k5⟩ := k2 h3
            have eD : day y n l d a b c f 0 = day y n l d a b c f 1 := by unfold day; rw [ey2, en2, el2, ed2, k5]; rfl
            rw [if_pos h3, if_pos k4, eD]
            by_cases ho : out (day y n l d a b c f 1) <;> simp [ho]
          · rw [if_neg h3]
            by_cases h4 : S15.fitE (y2 y n l a b 1) (n2 y n l a b 1) (l2 y n l a b 1) d 0 = 0
            · rw [if_pos h4]
              have : e3 y n l d a b 1 = 7 := by
                rcases k3 with h | h | h
                · exact absurd h h3
                · exact h
                · exact absurd (h.trans h4) h3
              refine ⟨by split <;> omega, fun h => absurd h h3, .inr (.inl this)⟩
            · rw [if_neg h4]
              refine ⟨k1, fun h => absurd h h3, ?_⟩
              rcases k3 with h | h | h
              · exact absurd h h3
              · exact .inr (.inl h)
              · exact .inr (.inr h)
        · rw [if_neg h2, if_neg h2]
          exact ⟨hm7, fun h => absurd h h2, .inr (.inr rfl)⟩
      · by_cases hi0 : S15.intoE (y + a) n l 0 = 0
        · have h7 : toE y n l d a b c f 1 = 7 := by
            unfold toE
            rw [if_pos x1, if_pos hd, if_neg hi]
            rcases i3 with h | h | h
            · exact absurd h hi
            · exact h
            · exact absurd (h.trans hi0) hi
          refine ⟨?_, fun h => by rw [h7] at h; omega, .inr (.inl h7)⟩
          obtain ⟨k1, _, _⟩ := fit_modes (y2 y n l a b 0) (n2 y n l a b 0) (l2 y n l a b 0) d
          have hm7 : ¬ e2 y n l a b 0 = 7 := monE_ne _ _ _ _
          have k1' : ¬ e3 y n l d a b 0 = 7 := k1
          unfold toE
          rw [if_pos x0, if_pos hd, if_pos hi0]
          split
          · split
            · split <;> omega
            · exact k1'
          · exact hm7
        · unfold toE
          rw [if_pos x0, if_pos x1, if_pos hd, if_pos hd, if_neg hi, if_neg hi0]
          refine ⟨i1, fun h => absurd h hi, ?_⟩
          rcases i3 with h | h | h
          · exact absurd h hi
          · exact .inr (.inl h)
          · exact .inr (.inr h)
    · have hn := dateE_ne y n l d
      rw [to_bad hd hr m0, to_bad hd hr m1]
      exact ⟨hn, fun h => absurd h hd, .inr (.inr rfl)⟩
  · have e : ∀ m, toE y n l d a b c f m = 1 := fun m => by unfold toE; rw [if_neg (by simp [hr])]
    rw [e 0, e 1]
    exact ⟨by omega, fun h => by omega, .inr (.inr rfl)⟩
/-! More leads further. -/
theorem mon_pos {y n k : Int} {l : Bool} (h : S15.monE y n l k = 0) : S15.monY y n l k = S15.mY (S15.monA y n l k) ∧ Cal.plV (Cal.leap (S15.monY y n l k)) (S15.monN y n l k) (S15.monL y n l k) = S15.mM (S15.monA y n l k) := by
  have e1 : S15.monY y n l k = S15.mY (S15.monA y n l k) := by unfold S15.monY; rw [if_pos h]
  have e2 : S15.monN y n l k = Cal.ofN (Cal.leap (S15.mY (S15.monA y n l k))) (S15.mM (S15.monA y n l k)) := by unfold S15.monN; rw [if_pos h]
  have e3 : S15.monL y n l k = Cal.ofL (Cal.leap (S15.mY (S15.monA y n l k))) (S15.mM (S15.monA y n l k)) := by unfold S15.monL; rw [if_pos h]
  obtain ⟨m1, m2⟩ := S15.mM_in (S15.monA y n l k)
  obtain ⟨_, _, p2⟩ := D10.of_place _ _ m1 m2
  exact ⟨e1, by rw [e1, e2, e3]; exact p2⟩
theorem mY_lt {a b : Int} (h : a < b) : S15.mY a < S15.mY b ∨ S15.mY a = S15.mY b ∧ S15.mM a < S15.mM b := by
  by_cases c : S15.mY a = S15.mY b
  · refine .inr ⟨c, ?_⟩
    unfold S15.mM; rw [c]; omega
  · refine .inl ?_
    have : S15.mY a ≤ S15.mY b := by unfold S15.mY; omega
    omega
/-- A later month's date is later. -/
theorem day_later {y n d a b m y' n' d' a' b' m' : Int} {l l' : Bool} (h : toE y n l d a b 0 0 m = 0) (h' : toE y' n' l' d' a' b' 0 0 m' = 0)
    (hA : S15.monA (y + a) (n1 y n l a m) (l1 y n l a m) b < S15.monA (y' + a') (n1 y' n' l' a' m') (l1 y' n' l' a' m') b') : day y n l d a b 0 0 m < day y' n' l' d' a' b' 0 0 m' := by
  obtain ⟨_, _, _, _, he2, he3, _⟩ := to_0 h
  obtain ⟨_, _, _, _, he2', he3', _⟩ := to_0 h'
  have hd := fit_date (m := m) he3
  have hd' := fit_date (m := m') he3'
  obtain ⟨v, e, _, _⟩ := D10.date_back hd
  obtain ⟨v', e', _, _⟩ := D10.date_back hd'
  obtain ⟨py, pm⟩ := mon_pos he2
  obtain ⟨py', pm'⟩ := mon_pos he2'
  have hl : y2 y n l a b m < y2 y' n' l' a' b' m' ∨ y2 y n l a b m = y2 y' n' l' a' b' m' ∧ Cal.plV (Cal.leap (y2 y n l a b m)) (n2 y n l a b m) (l2 y n l a b m) < Cal.plV (Cal.leap (y2 y' n' l' a' b' m')) (n2 y' n' l' a' b' m') (l2 y' n' l' a' b' m') := by
    rcases mY_lt hA with c | ⟨c1, c2⟩
    · exact .inl (by rw [← py, ← py'] at c; exact c)
    · exact .inr ⟨by rw [← py, ← py'] at c1; exact c1, by rw [← pm, ← pm'] at c2; exact c2⟩
  have := D10.day_lt v v' (by
    rcases hl with c | ⟨c1, c2⟩
    · exact .inl c
    · exact .inr ⟨c1, .inl c2⟩)
  rw [← e, ← e'] at this
  unfold day
  simpa [d2] using this
theorem rises_months {y n d a b k m : Int} {l : Bool} (hk : 1 ≤ k) (h : toE y n l d a b 0 0 m = 0) (h' : toE y n l d a (b + k) 0 0 m = 0) : day y n l d a b 0 0 m < day y n l d a (b + k) 0 0 m :=
  day_later h h' (by unfold S15.monA; omega)
theorem rises_years {y n d a b k m : Int} {l : Bool} (hk : 1 ≤ k) (h : toE y n l d a b 0 0 m = 0) (h' : toE y n l d (a + k) b 0 0 m = 0) : day y n l d a b 0 0 m < day y n l d (a + k) b 0 0 m := by
  refine day_later h h' ?_
  obtain ⟨_, _, _, _, he2, _, _⟩ := to_0 h
  obtain ⟨_, _, _, _, he2', _, _⟩ := to_0 h'
  obtain ⟨hl, _⟩ := S15.mon_ok he2
  obtain ⟨hl', _⟩ := S15.mon_ok he2'
  obtain ⟨_, _, hp⟩ := S15.last_in hl
  obtain ⟨_, _, hp'⟩ := S15.last_in hl'
  obtain ⟨_, p2, _, _⟩ := D10.place_in _ _ _ hp
  obtain ⟨q1, _, _, _⟩ := D10.place_in _ _ _ hp'
  have hn := S15.before_next (y + a)
  have hm := S15.before_mono (y + a + 1) (y + (a + k)) (by omega)
  unfold S15.monA
  omega
end A16
end Go.Proofs.YtafenpgafmdenaaGreatDoor
