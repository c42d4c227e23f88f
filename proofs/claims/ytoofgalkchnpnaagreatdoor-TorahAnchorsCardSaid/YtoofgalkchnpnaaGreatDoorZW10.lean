/- Layer 10: its laws. -/
import Derived.Test.YtoofgalkchnpnaaGreatDoorZHR
import Derived.Test.YtoofgalkchnpnaaGreatDoorZBase7
namespace Go.Proofs.YtoofgalkchnpnaaGreatDoor
open Go.ChangeShapes Go.WideShapes Go.ChangeAt Go.RowKit
set_option linter.unusedVariables false
set_option maxRecDepth 100000
theorem valid_5785 : D10.Valid 5785 1 1 ∧ D10.dayOf 5785 1 1 = 739162 ∧ Cal.ofN (Cal.leap 5785) 1 = 1 ∧ Cal.ofL (Cal.leap 5785) 1 = false := by
  refine ⟨⟨by omega, by omega, by omega, ?_, by omega, ?_⟩, ?_, ?_, ?_⟩ <;> decide +kernel
theorem heb_ToDay_5785 (w : World) (hT : Tab w 4 kevCells) (hL : Tab w 3 lenCells) : Calls Tryo.prog 65 #[.agg #[.int .i64 5785, .int .i64 1, .bool false, .int .i64 1]] w fun e w' => e = .returned (.tuple #[.int .i64 739162, .int .i64 0]) ∧ Below w.heap.size w w' := by
  have := heb_ToDay 5785 1 false 1 w ⟨by omega, by omega⟩ hT hL
  rwa [show D10.dayV 5785 1 false 1 = 739162 by decide +kernel, show D10.dateE 5785 1 false 1 = 0 by decide +kernel] at this
theorem heb_FromDay_5785 (w : World) (hT : Tab w 4 kevCells) (hL : Tab w 3 lenCells) : Calls Tryo.prog 38 #[.int .i64 739162] w fun e w' => e = .returned (.tuple #[.agg #[.int .i64 5785, .int .i64 1, .bool false, .int .i64 1], .int .i64 0]) ∧ Below w.heap.size w w' := by
  have := heb_FromDay_at 5785 1 1 w hT hL valid_5785.1
  rwa [valid_5785.2.1, valid_5785.2.2.1, valid_5785.2.2.2] at this
namespace D10
theorem date_back {y n d : Int} {l : Bool} (h : dateE y n l d = 0) : Valid y (Cal.plV (Cal.leap y) n l) d ∧ dayV y n l d = dayOf y (Cal.plV (Cal.leap y) n l) d ∧ Cal.ofN (Cal.leap y) (Cal.plV (Cal.leap y) n l) = n ∧ Cal.ofL (Cal.leap y) (Cal.plV (Cal.leap y) n l) = l := by
  obtain ⟨hv, hp⟩ := date_valid h
  obtain ⟨_, _, e1, e2⟩ := place_in _ _ _ hp
  exact ⟨hv, by simp [dayV, h], e1, e2⟩
theorem less_day {y n d z k f : Int} {l h : Bool} (h1 : dateE y n l d = 0) (h2 : dateE z k h f = 0) : lessD y n l d z k h f = decide (dayV y n l d < dayV z k h f) := by
  obtain ⟨v1, e1, a1, a2⟩ := date_back h1
  obtain ⟨v2, e2, b1, b2⟩ := date_back h2
  have p1 := (date_valid h1).2
  have p2 := (date_valid h2).2
  have hi := day_iff v1 v2
  rw [e1, e2]
  unfold lessD
  by_cases c : y = z
  · subst c
    rw [if_pos rfl, less_place _ _ _ _ _ p1 p2]
    by_cases c2 : n = k ∧ l = h
    · obtain ⟨rfl, rfl⟩ := c2
      rw [if_pos ⟨rfl, rfl⟩]
      exact decide_eq_decide.2 (by omega)
    · rw [if_neg c2]
      have : Cal.plV (Cal.leap y) n l ≠ Cal.plV (Cal.leap y) k h := fun e => c2 ⟨by rw [← a1, ← b1, e], by rw [← a2, ← b2, e]⟩
      exact decide_eq_decide.2 (by omega)
  · rw [if_neg c]
    exact decide_eq_decide.2 (by omega)
theorem same_day {y n d z k f : Int} {l h : Bool} (h1 : dateE y n l d = 0) (h2 : dateE z k h f = 0) (e : dayV y n l d = dayV z k h f) : y = z ∧ n = k ∧ l = h ∧ d = f := by
  obtain ⟨v1, e1, a1, a2⟩ := date_back h1
  obtain ⟨v2, e2, b1, b2⟩ := date_back h2
  rw [e1, e2] at e
  obtain ⟨rfl, em, ed⟩ := day_eq v1 v2 e
  exact ⟨rfl, by rw [← a1, ← b1, em], by rw [← a2, ← b2, em], ed⟩
theorem next_less {y n d ry rm rd : Int} {l : Bool} (h1 : dateE y n l d = 0) (hv : Valid ry rm rd) (e : dayV y n l d + 1 = dayOf ry rm rd) : lessD y n l d ry (Cal.ofN (Cal.leap ry) rm) (Cal.ofL (Cal.leap ry) rm) rd = true := by
  obtain ⟨e1, e2⟩ := valid_date hv
  rw [less_day h1 e1, e2, decide_eq_true_iff]
  omega
theorem last_date {y n : Int} {l : Bool} (h : lastE y n l = 0) : 1 ≤ y ∧ y ≤ 9999 ∧ Cal.plOk (Cal.leap y) n l = true ∧ lastV y n l = dLen y (Cal.plV (Cal.leap y) n l) ∧ Valid y (Cal.plV (Cal.leap y) n l) (lastV y n l) ∧ dateE y n l (lastV y n l) = 0 ∧ dateE y n l (lastV y n l + 1) = 4 := by
  unfold lastE at h
  split at h
  · rename_i c
    split at h
    · rename_i p
      obtain ⟨h1, h2⟩ := year_in y c
      obtain ⟨a1, a2, _, _⟩ := place_in _ _ _ p
      have hl := len_bd y _ h1 h2 a1 a2
      have e : lastV y n l = dLen y (Cal.plV (Cal.leap y) n l) := by simp [lastV, c, p]
      refine ⟨h1, h2, p, e, ⟨h1, h2, a1, a2, by omega, by omega⟩, ?_, ?_⟩
      · unfold dateE; rw [c, p, e]; simp; omega
      · unfold dateE; rw [c, p, e]; simp; omega
    · omega
  · omega
theorem last_no {y n : Int} {l : Bool} (h : ¬ lastE y n l = 0) : lastV y n l = 0 := by
  unfold lastV
  unfold lastE at h
  cases c : Cal.yearIn y <;> cases p : Cal.plOk (Cal.leap y) n l <;> simp_all
theorem most_one (y : Int) : 1 ≤ Cal.most (Cal.leap y) := by unfold Cal.most; split <;> omega
theorem of_most (lp : Bool) : Cal.ofN lp (Cal.most lp) = 12 ∧ Cal.ofN lp 1 = 1 := by cases lp <;> decide
theorem next_cases {y m : Int} (h1 : 1 ≤ y) (h2 : y ≤ 9999) (m1 : 1 ≤ m) (m2 : m ≤ Cal.most (Cal.leap y)) :
    (∃ z r, Valid z r 1 ∧ dayOf y m (dLen y m) + 1 = dayOf z r 1 ∧ ¬ (Cal.ofN (Cal.leap z) r = Cal.ofN (Cal.leap y) m ∧ Cal.ofL (Cal.leap z) r = Cal.ofL (Cal.leap y) m)) ∨ (y = 9999 ∧ Cal.ofN (Cal.leap y) m = 12 ∧ 2278650 < dayOf y m (dLen y m) + 1) := by
  by_cases c : m = Cal.most (Cal.leap y)
  · have ha := ahead_most y h1 h2
    have hl : Cal.long y = Cal.first (y + 1) - Cal.first y := rfl
    obtain ⟨o1, _⟩ := of_most (Cal.leap y)
    by_cases c2 : y = 9999
    · right
      refine ⟨c2, by rw [c]; exact o1, ?_⟩
      have h10 := first_last
      subst c2
      have hl9 : Cal.long 9999 = Cal.first 10000 - Cal.first 9999 := rfl
      clear hl
      unfold dayOf; rw [c]; omega
    · left
      have hb := len_bd (y + 1) 1 (by omega) (by omega) (by omega) (most_one _)
      refine ⟨y + 1, 1, ⟨by omega, by omega, by omega, most_one _, by omega, by omega⟩, ?_, fun e => ?_⟩
      · have a1 := ahead_one (y + 1) (by omega) (by omega)
        unfold dayOf; rw [c]; omega
      · have e1 := e.1
        rw [(of_most _).2, c, o1] at e1
        omega
  · left
    have hb := len_bd y (m + 1) h1 h2 (by omega) (by omega)
    have hn := ahead_next y m h1 h2 m1 (by omega)
    refine ⟨y, m + 1, ⟨h1, h2, by omega, by omega, by omega, by omega⟩, by unfold dayOf; omega, fun e => ?_⟩
    have a := (of_place (Cal.leap y) m m1 m2).2.2
    have b := (of_place (Cal.leap y) (m + 1) (by omega) (by omega)).2.2
    rw [e.1, e.2, a] at b
    omega
end D10
end Go.Proofs.YtoofgalkchnpnaaGreatDoor
