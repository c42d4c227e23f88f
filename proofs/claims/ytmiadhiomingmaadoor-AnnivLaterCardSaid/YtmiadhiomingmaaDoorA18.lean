/- Layer 18: anniversaries, plainly. -/
import Derived.Test.YtmiadhiomingmaaDoorW15
import Derived.Test.YtmiadhiomingmaaDoorW10
namespace Go.Proofs.YtmiadhiomingmaaDoor
open Go.RowKit
set_option linter.unusedVariables false
set_option maxRecDepth 100000
namespace A18
def chkE (y n : Int) (l : Bool) (d Y : Int) : Int := if D10.dateE y n l d = 0 then (if Y < 1 ∨ 9999 < Y then 2 else if Y ≤ y then 1 else 0) else D10.dateE y n l d
def cM (Y m d : Int) : Int := if d ≤ D10.dLen Y m then m else m + 1
def cD (Y m d : Int) : Int := if d ≤ D10.dLen Y m then d else 1
def m0 (Y n : Int) (l : Bool) : Int := Cal.plV (Cal.leap Y) (S15.intoN Y n l 0) (S15.intoL Y n l 0)
def k1 (y n : Int) (l : Bool) (d : Int) : Bool := d == 30 && ((n == 2 || n == 3) && decide (D10.lastV (y + 1) n l < 30))
def k2 (l : Bool) (d Y : Int) : Bool := d == 30 && (l && !Cal.leap Y)
def k3 (y n Y : Int) : Bool := n == 6 && (!Cal.leap y && Cal.leap Y)
def dM (y n : Int) (l : Bool) (d Y : Int) : Int := if k1 y n l d then Cal.plV (Cal.leap Y) n l else if k2 l d Y then 5 else if k3 y n Y then cM Y 6 d else cM Y (m0 Y n l) d
def dD (y n : Int) (l : Bool) (d Y : Int) : Int := if k1 y n l d then D10.lastV Y n l else if k2 l d Y then 30 else if k3 y n Y then cD Y 6 d else cD Y (m0 Y n l) d
def bY (y n : Int) (l : Bool) (d Y : Int) : Int := if chkE y n l d Y = 0 then Y else 0
def bN (y n : Int) (l : Bool) (d Y : Int) : Int := if chkE y n l d Y = 0 then Cal.ofN (Cal.leap Y) (cM Y (m0 Y n l) d) else 0
def bL (y n : Int) (l : Bool) (d Y : Int) : Bool := if chkE y n l d Y = 0 then Cal.ofL (Cal.leap Y) (cM Y (m0 Y n l) d) else false
def bD (y n : Int) (l : Bool) (d Y : Int) : Int := if chkE y n l d Y = 0 then cD Y (m0 Y n l) d else 0
def tN (y n : Int) (l : Bool) (d Y : Int) : Int := if chkE y n l d Y = 0 then Cal.ofN (Cal.leap Y) (dM y n l d Y) else 0
def tL (y n : Int) (l : Bool) (d Y : Int) : Bool := if chkE y n l d Y = 0 then Cal.ofL (Cal.leap Y) (dM y n l d Y) else false
def tD (y n : Int) (l : Bool) (d Y : Int) : Int := if chkE y n l d Y = 0 then dD y n l d Y else 0
theorem chk_0 {y n d Y : Int} {l : Bool} (h : chkE y n l d Y = 0) : D10.dateE y n l d = 0 ∧ 1 ≤ Y ∧ Y ≤ 9999 ∧ y < Y := by
  unfold chkE at h
  by_cases c : D10.dateE y n l d = 0
  · rw [if_pos c] at h
    by_cases c2 : Y < 1 ∨ 9999 < Y
    · rw [if_pos c2] at h; omega
    · rw [if_neg c2] at h
      by_cases c3 : Y ≤ y
      · rw [if_pos c3] at h; omega
      · exact ⟨c, by omega, by omega, by omega⟩
  · rw [if_neg c] at h; exact absurd h c
theorem cnt_there {Y m d : Int} (h1 : 1 ≤ Y) (h2 : Y ≤ 9999) (m1 : 1 ≤ m) (m2 : m ≤ Cal.most (Cal.leap Y)) (d1 : 1 ≤ d) (d2 : d ≤ 30) (hl : d ≤ D10.dLen Y m ∨ m < Cal.most (Cal.leap Y)) : D10.Valid Y (cM Y m d) (cD Y m d) ∧ D10.dayOf Y (cM Y m d) (cD Y m d) = D10.dayOf Y m 1 + d - 1 := by
  have hb := D10.len_bd Y m h1 h2 m1 m2
  unfold cM cD
  by_cases c : d ≤ D10.dLen Y m
  · rw [if_pos c, if_pos c]
    exact ⟨⟨h1, h2, m1, m2, d1, c⟩, by unfold D10.dayOf; omega⟩
  · rw [if_neg c, if_neg c]
    have hm : m < Cal.most (Cal.leap Y) := by omega
    have hb2 := D10.len_bd Y (m + 1) h1 h2 (by omega) (by omega)
    have ha := D10.ahead_next Y m h1 h2 m1 (by omega)
    exact ⟨⟨h1, h2, by omega, by omega, by omega, by omega⟩, by unfold D10.dayOf; omega⟩
theorem mostPos (Y : Int) : 1 ≤ Cal.most (Cal.leap Y) := by unfold Cal.most; split <;> omega
theorem lastValid {y n : Int} {l : Bool} (h1 : 1 ≤ y) (h2 : y ≤ 9999) (hp : Cal.plOk (Cal.leap y) n l = true) : D10.Valid y (Cal.plV (Cal.leap y) n l) (D10.lastV y n l) := by
  obtain ⟨a, b, _, _⟩ := D10.place_in _ _ _ hp
  have hb := D10.len_bd y _ h1 h2 a b
  have e : D10.lastV y n l = D10.dLen y (Cal.plV (Cal.leap y) n l) := by simp [D10.lastV, Cal.yearIn_yes y h1 h2, hp]
  rw [e]
  exact ⟨h1, h2, a, b, by omega, Int.le_refl _⟩
theorem most_29 (Y : Int) (h1 : 1 ≤ Y) (h2 : Y ≤ 9999) : D10.dLen Y (Cal.most (Cal.leap Y)) = 29 := by
  obtain ⟨j, x, e1, e2, e3, _⟩ := D10.month_facts Y _ h1 h2 (mostPos Y) (Int.le_refl _)
  rw [e3]
  unfold D10.ls at e2
  cases hl : Cal.leap Y with
  | true =>
    rw [hl] at e1 e2
    have ej : j = 12 := by simp [Cal.most] at e1; omega
    subst ej
    simp [lens] at e2
    omega
  | false =>
    rw [hl] at e1 e2
    have ej : j = 11 := by simp [Cal.most] at e1; omega
    subst ej
    simp [lens] at e2
    omega
theorem five_30 (Y : Int) (h1 : 1 ≤ Y) (h2 : Y ≤ 9999) : D10.dLen Y 5 = 30 := by
  obtain ⟨j, x, e1, e2, e3, _⟩ := D10.month_facts Y 5 h1 h2 (by omega) (by unfold Cal.most; split <;> omega)
  rw [e3]
  unfold D10.ls at e2
  have ej : j = 4 := by omega
  subst ej
  simp [lens] at e2
  omega
theorem right_of {lp : Bool} {n : Int} {l : Bool} (h : Cal.plOk lp n l = true) : Cal.right n l = true := by unfold Cal.plOk at h; simp only [Bool.and_eq_true] at h; exact h.1
theorem into_0 {Y n : Int} {l : Bool} (h1 : 1 ≤ Y) (h2 : Y ≤ 9999) (hr : Cal.right n l = true) : S15.intoE Y n l 0 = 0 ∧ Cal.plOk (Cal.leap Y) (S15.intoN Y n l 0) (S15.intoL Y n l 0) = true ∧
    ((S15.intoN Y n l 0 = n ∧ S15.intoL Y n l 0 = l ∧ Cal.plOk (Cal.leap Y) n l = true) ∨ (S15.intoN Y n l 0 = 6 ∧ S15.intoL Y n l 0 = false ∧ n = 5 ∧ l = true ∧ Cal.leap Y = false)) := by
  have m0 : S15.mode 0 = true := rfl
  by_cases hp : Cal.plOk (Cal.leap Y) n l = true
  · have e : S15.intoE Y n l 0 = 0 := by unfold S15.intoE; rw [m0, Cal.yearIn_yes Y h1 h2, hr, hp]; rfl
    have en : S15.intoN Y n l 0 = n := by unfold S15.intoN; rw [if_pos e, if_pos hp]
    have el : S15.intoL Y n l 0 = l := by unfold S15.intoL; rw [if_pos e, if_pos hp]
    exact ⟨e, by rw [en, el]; exact hp, .inl ⟨en, el, hp⟩⟩
  · have e : S15.intoE Y n l 0 = 0 := by
      unfold S15.intoE; rw [m0, Cal.yearIn_yes Y h1 h2, hr, if_pos rfl, if_pos rfl, if_pos rfl, if_neg hp]; rfl
    have en : S15.intoN Y n l 0 = 6 := by unfold S15.intoN; rw [if_pos e, if_neg hp]
    have el : S15.intoL Y n l 0 = false := by unfold S15.intoL; rw [if_pos e, if_neg hp]
    have hh : l = true ∧ Cal.leap Y = false := by
      unfold Cal.plOk at hp
      rw [hr] at hp
      cases l <;> cases hy : Cal.leap Y <;> simp [hy] at hp ⊢
    obtain ⟨rfl, hy⟩ := hh
    have hn : n = 5 := by
      rcases right_cases n true hr with ⟨_, _, c⟩ | ⟨c, _⟩
      · cases c
      · exact c
    exact ⟨e, by rw [en, el, hy]; decide, .inr ⟨en, el, hn, rfl, hy⟩⟩
/-- Where a birthday is. -/
theorem bir_ok {y n d Y : Int} {l : Bool} (h : chkE y n l d Y = 0) : 1 ≤ m0 Y n l ∧ m0 Y n l ≤ Cal.most (Cal.leap Y) ∧ 1 ≤ d ∧ d ≤ 30 ∧ (d ≤ D10.dLen Y (m0 Y n l) ∨ m0 Y n l < Cal.most (Cal.leap Y)) := by
  obtain ⟨hd, h1, h2, hlt⟩ := chk_0 h
  obtain ⟨hv, hp⟩ := D10.date_valid hd
  obtain ⟨_, hq, hi⟩ := into_0 h1 h2 (right_of hp)
  obtain ⟨p1, p2, _, _⟩ := D10.place_in _ _ _ hq
  have hb := D10.len_bd y _ hv.1 hv.2.1 hv.2.2.1 hv.2.2.2.1
  have d1 := hv.2.2.2.2.1
  have d2 := hv.2.2.2.2.2
  refine ⟨p1, p2, d1, by omega, ?_⟩
  by_cases c : m0 Y n l = Cal.most (Cal.leap Y)
  · refine .inl ?_
    have hn := (S15.place_last _ _ _ hq).2 c
    rcases hi with ⟨e1, _, _⟩ | ⟨e1, _⟩
    · have h12 := (S15.place_last _ _ _ hp).1 (e1.symm.trans hn)
      rw [h12, most_29 y hv.1 hv.2.1] at d2
      have := D10.len_bd Y _ h1 h2 p1 p2
      unfold m0; omega
    · omega
  · refine .inr ?_
    have : m0 Y n l ≤ Cal.most (Cal.leap Y) := p2
    omega
theorem bir_there {y n d Y : Int} {l : Bool} (h : chkE y n l d Y = 0) : D10.Valid Y (cM Y (m0 Y n l) d) (cD Y (m0 Y n l) d) ∧ D10.dayOf Y (cM Y (m0 Y n l) d) (cD Y (m0 Y n l) d) = D10.dayOf Y (m0 Y n l) 1 + d - 1 := by
  obtain ⟨_, h1, h2, _⟩ := chk_0 h
  obtain ⟨a, b, c, e, f⟩ := bir_ok h
  exact cnt_there h1 h2 a b c e f
theorem six_there {y n d Y : Int} {l : Bool} (h : chkE y n l d Y = 0) (hk : k3 y n Y = true) : Cal.leap Y = true ∧ D10.Valid Y (cM Y 6 d) (cD Y 6 d) ∧ D10.dayOf Y (cM Y 6 d) (cD Y 6 d) = D10.dayOf Y 6 1 + d - 1 := by
  obtain ⟨_, h1, h2, _⟩ := chk_0 h
  obtain ⟨_, _, c, e, _⟩ := bir_ok h
  unfold k3 at hk
  simp only [Bool.and_eq_true, beq_iff_eq] at hk
  have hm : Cal.most (Cal.leap Y) = 13 := by rw [hk.2.2]; rfl
  exact ⟨hk.2.2, cnt_there h1 h2 (by omega) (by omega) c e (.inr (by omega))⟩
/-- A code of the second or third month. -/
theorem two_there {n : Int} {l lp : Bool} (hr : Cal.right n l = true) (hn : n = 2 ∨ n = 3) (Y : Int) : l = false ∧ Cal.plOk (Cal.leap Y) n l = true ∧ Cal.plV (Cal.leap Y) n l = n := by
  have hl : l = false := by
    rcases right_cases n l hr with ⟨_, _, c⟩ | ⟨c, _⟩
    · exact c
    · omega
  subst hl
  refine ⟨rfl, by unfold Cal.plOk; rw [hr]; cases Cal.leap Y <;> rfl, ?_⟩
  rcases hn with rfl | rfl <;> cases Cal.leap Y <;> decide
theorem k1_in {y n d : Int} {l : Bool} (h : k1 y n l d = true) : d = 30 ∧ (n = 2 ∨ n = 3) ∧ D10.lastV (y + 1) n l < 30 := by
  unfold k1 at h
  simpa [Bool.and_eq_true] using h
theorem dth_there {y n d Y : Int} {l : Bool} (h : chkE y n l d Y = 0) : D10.Valid Y (dM y n l d Y) (dD y n l d Y) := by
  obtain ⟨hd, h1, h2, _⟩ := chk_0 h
  obtain ⟨hv, hp⟩ := D10.date_valid hd
  unfold dM dD
  by_cases c1 : k1 y n l d = true
  · rw [if_pos c1, if_pos c1]
    obtain ⟨_, hn, _⟩ := k1_in c1
    obtain ⟨_, q1, q2⟩ := two_there (lp := true) (right_of hp) hn Y
    exact lastValid h1 h2 q1
  · rw [if_neg c1, if_neg c1]
    by_cases c2 : k2 l d Y = true
    · rw [if_pos c2, if_pos c2]
      exact ⟨h1, h2, by omega, by unfold Cal.most; split <;> omega, by omega, by rw [five_30 Y h1 h2]; omega⟩
    · rw [if_neg c2, if_neg c2]
      by_cases c3 : k3 y n Y = true
      · rw [if_pos c3, if_pos c3]; exact (six_there h c3).2.1
      · rw [if_neg c3, if_neg c3]; exact (bir_there h).1
theorem bir_date {y n d Y : Int} {l : Bool} (h : chkE y n l d Y = 0) : D10.dateE (bY y n l d Y) (bN y n l d Y) (bL y n l d Y) (bD y n l d Y) = 0 ∧ bY y n l d Y = Y := by
  have e := D10.valid_date (bir_there h).1
  unfold bY bN bL bD
  rw [if_pos h, if_pos h, if_pos h, if_pos h]
  exact ⟨e.1, rfl⟩
theorem dth_date {y n d Y : Int} {l : Bool} (h : chkE y n l d Y = 0) : D10.dateE (bY y n l d Y) (tN y n l d Y) (tL y n l d Y) (tD y n l d Y) = 0 := by
  have e := D10.valid_date (dth_there h)
  unfold bY tN tL tD
  rw [if_pos h, if_pos h, if_pos h, if_pos h]
  exact e.1
/-- A plain date stays. -/
theorem plain_same {y n d Y : Int} {l : Bool} (h : chkE y n l d Y = 0) (hd : d < 30) (hl : l = false) (hn : ¬ n = 6) : (bN y n l d Y = n ∧ bL y n l d Y = l ∧ bD y n l d Y = d) ∧ (tN y n l d Y = n ∧ tL y n l d Y = l ∧ tD y n l d Y = d) := by
  obtain ⟨hde, h1, h2, _⟩ := chk_0 h
  obtain ⟨hv, hp⟩ := D10.date_valid hde
  obtain ⟨_, hq, hi⟩ := into_0 h1 h2 (right_of hp)
  obtain ⟨p1, p2, q1, q2⟩ := D10.place_in _ _ _ hq
  have hb := D10.len_bd Y (m0 Y n l) h1 h2 p1 p2
  have e1 : S15.intoN Y n l 0 = n ∧ S15.intoL Y n l 0 = l := by
    rcases hi with ⟨a, b, _⟩ | ⟨_, _, _, c, _⟩
    · exact ⟨a, b⟩
    · rw [hl] at c; cases c
  have ec : cM Y (m0 Y n l) d = m0 Y n l := by unfold cM; rw [if_pos (by omega)]
  have ed : cD Y (m0 Y n l) d = d := by unfold cD; rw [if_pos (by omega)]
  have en : Cal.ofN (Cal.leap Y) (m0 Y n l) = n := q1.trans e1.1
  have el : Cal.ofL (Cal.leap Y) (m0 Y n l) = l := q2.trans e1.2
  have n1 : ¬ k1 y n l d = true := fun c => by have := (k1_in c).1; omega
  have n2 : ¬ k2 l d Y = true := fun c => by unfold k2 at c; simp at c; omega
  have n3 : ¬ k3 y n Y = true := fun c => by unfold k3 at c; simp at c; omega
  have eM : dM y n l d Y = m0 Y n l := by unfold dM; rw [if_neg n1, if_neg n2, if_neg n3, ec]
  have eD : dD y n l d Y = d := by unfold dD; rw [if_neg n1, if_neg n2, if_neg n3, ed]
  unfold bN bL bD tN tL tD
  rw [if_pos h, if_pos h, if_pos h, if_pos h, if_pos h, if_pos h, ec, ed, eM, eD]
  exact ⟨⟨en, el, rfl⟩, ⟨en, el, rfl⟩⟩
/-! Later years. -/
theorem take_29 : ∀ (xs : List Int) (j : Nat), (∀ x ∈ xs, 29 ≤ x ∧ x ≤ 30) → j ≤ xs.length → 29 * (j : Int) ≤ (xs.take j).sum
  | xs, 0, _, _ => by simp
  | [], j + 1, _, h => by simp at h
  | x :: xs, j + 1, hx, h => by
    have ih := take_29 xs j (fun z hz => hx z (List.mem_cons_of_mem _ hz)) (by simpa using h)
    have := hx x (List.mem_cons_self ..)
    rw [List.take_succ_cons, List.sum_cons]
    omega
theorem ahead_29 (Y m : Int) (h1 : 1 ≤ Y) (h2 : Y ≤ 9999) (m1 : 1 ≤ m) (m2 : m ≤ Cal.most (Cal.leap Y)) : 29 * (m - 1) ≤ D10.dAhead Y m ∧ D10.dAhead Y m ≤ 30 * (m - 1) := by
  obtain ⟨j, x, e1, e2, e3, e4, _⟩ := D10.month_facts Y m h1 h2 m1 m2
  have hj := (List.getElem?_eq_some_iff.1 e2).1
  have a := take_29 (D10.ls Y) j (D10.ls_bd Y) (by omega)
  have b := (sum_bd (D10.ls Y) (D10.ls_bd Y) j).2
  rw [e4]
  omega
theorem long_ge (Y : Int) (h1 : 1 ≤ Y) (h2 : Y ≤ 9999) : 353 ≤ Cal.first (Y + 1) - Cal.first Y ∧ (Cal.leap Y = true → 383 ≤ Cal.first (Y + 1) - Cal.first Y) := by
  obtain ⟨i, hi, _, hk, hl⟩ := year_row Y h1 h2
  have hs := D10.row_sum i hi
  obtain ⟨_, e, _⟩ := D10.year_facts Y h1 h2
  have h0 : 0 ≤ kevK i := by unfold kevK; split <;> omega
  unfold D10.ls at e
  rw [hk, hl, hs] at e
  unfold Cal.long at e
  rw [← hl] at e
  refine ⟨by split at e <;> omega, fun h => ?_⟩
  rw [if_pos h] at e
  omega
theorem later {Y Z p q u v : Int} (h1 : 1 ≤ Y) (hlt : Y < Z) (h2 : Z ≤ 9999) (p1 : 1 ≤ p) (p2 : p ≤ Cal.most (Cal.leap Y)) (q1 : 1 ≤ q) (q2 : q ≤ Cal.most (Cal.leap Z)) (hv : u ≤ v + 1) (hpq : p ≤ q ∨ (Cal.leap Y = true ∧ p ≤ q + 1)) :
    320 ≤ (Cal.first Z + D10.dAhead Z q + v - 1) - (Cal.first Y + D10.dAhead Y p + u - 1) := by
  obtain ⟨g1, g2⟩ := long_ge Y h1 (by omega)
  have hm := first_mono (Y + 1) Z (by omega) (by omega) (by omega)
  obtain ⟨a1, a2⟩ := ahead_29 Y p h1 (by omega) p1 p2
  obtain ⟨b1, b2⟩ := ahead_29 Z q (by omega) h2 q1 q2
  have p13 : p ≤ 13 := by unfold Cal.most at p2; split at p2 <;> omega
  rcases hpq with c | ⟨c1, c2⟩
  · by_cases hl : Cal.leap Y = true
    · have := g2 hl; omega
    · have : p ≤ 12 := by unfold Cal.most at p2; rw [if_neg hl] at p2; exact p2
      omega
  · have := g2 c1; omega
theorem m0_val {Y n : Int} {l : Bool} (h1 : 1 ≤ Y) (h2 : Y ≤ 9999) (hr : Cal.right n l = true) : m0 Y n l = if l = true then 6 else if Cal.leap Y = true ∧ 5 < n then n + 1 else n := by
  obtain ⟨_, hq, hi⟩ := into_0 h1 h2 hr
  unfold m0
  rcases hi with ⟨a, b, c⟩ | ⟨a, b, hn, hl, hy⟩
  · rw [a, b]
    unfold Cal.plV
    rw [if_pos c]
    cases l with
    | true =>
      have hy : Cal.leap Y = true := by
        unfold Cal.plOk at c; rw [hr] at c; cases hy : Cal.leap Y <;> simp [hy] at c ⊢
      have hn : n = 5 := by
        rcases right_cases n true hr with ⟨_, _, c⟩ | ⟨c, _⟩
        · cases c
        · exact c
      rw [hy, hn]; rfl
    | false => cases Cal.leap Y <;> simp
  · rw [a, b, hy, hl, if_pos rfl]; decide
theorem m0_years {Y Z n : Int} {l : Bool} (h1 : 1 ≤ Y) (h2 : Y ≤ 9999) (h3 : 1 ≤ Z) (h4 : Z ≤ 9999) (hr : Cal.right n l = true) : m0 Y n l ≤ m0 Z n l ∨ (Cal.leap Y = true ∧ m0 Y n l ≤ m0 Z n l + 1) := by
  rw [m0_val h1 h2 hr, m0_val h3 h4 hr]
  cases l with
  | true => exact .inl (by simp)
  | false =>
    cases hy : Cal.leap Y with
    | false => refine .inl ?_; simp; split <;> omega
    | true => refine .inr ⟨rfl, ?_⟩; simp; split <;> split <;> omega
theorem bir_day {y n d Y : Int} {l : Bool} (h : chkE y n l d Y = 0) : D10.dayV (bY y n l d Y) (bN y n l d Y) (bL y n l d Y) (bD y n l d Y) = Cal.first Y + D10.dAhead Y (m0 Y n l) + d - 1 := by
  obtain ⟨hv, e⟩ := bir_there h
  have e2 := (D10.valid_date hv).2
  unfold bY bN bL bD
  rw [if_pos h, if_pos h, if_pos h, if_pos h, e2, e]
  unfold D10.dayOf; omega
/-- The place and the day that a day of remembrance is counted from. -/
def pM (y n : Int) (l : Bool) (d Y : Int) : Int := if k1 y n l d then Cal.plV (Cal.leap Y) n l else if k2 l d Y then 5 else if k3 y n Y then 6 else m0 Y n l
def pE (y n : Int) (l : Bool) (d Y : Int) : Int := if k1 y n l d then D10.lastV Y n l else d
theorem dth_day {y n d Y : Int} {l : Bool} (h : chkE y n l d Y = 0) : D10.dayV (bY y n l d Y) (tN y n l d Y) (tL y n l d Y) (tD y n l d Y) = Cal.first Y + D10.dAhead Y (pM y n l d Y) + pE y n l d Y - 1 ∧ 1 ≤ pM y n l d Y ∧ pM y n l d Y ≤ Cal.most (Cal.leap Y) := by
  obtain ⟨hd, h1, h2, _⟩ := chk_0 h
  obtain ⟨hvd, hp⟩ := D10.date_valid hd
  have hv := dth_there h
  have e2 := (D10.valid_date hv).2
  have e0 : D10.dayV (bY y n l d Y) (tN y n l d Y) (tL y n l d Y) (tD y n l d Y) = D10.dayOf Y (dM y n l d Y) (dD y n l d Y) := by
    unfold bY tN tL tD
    rw [if_pos h, if_pos h, if_pos h, if_pos h, e2]
  rw [e0]
  unfold dM dD pM pE
  by_cases c1 : k1 y n l d = true
  · rw [if_pos c1, if_pos c1, if_pos c1, if_pos c1]
    obtain ⟨_, hn, _⟩ := k1_in c1
    obtain ⟨_, q1, q2⟩ := two_there (lp := true) (right_of hp) hn Y
    obtain ⟨a, b, _, _⟩ := D10.place_in _ _ _ q1
    exact ⟨rfl, a, b⟩
  · rw [if_neg c1, if_neg c1, if_neg c1, if_neg c1]
    by_cases c2 : k2 l d Y = true
    · rw [if_pos c2, if_pos c2, if_pos c2]
      have hd30 : d = 30 := by unfold k2 at c2; simp only [Bool.and_eq_true, beq_iff_eq] at c2; exact c2.1
      exact ⟨by rw [hd30]; rfl, by omega, by unfold Cal.most; split <;> omega⟩
    · rw [if_neg c2, if_neg c2, if_neg c2]
      by_cases c3 : k3 y n Y = true
      · rw [if_pos c3, if_pos c3, if_pos c3]
        obtain ⟨hl, _, e⟩ := six_there h c3
        exact ⟨by rw [e]; unfold D10.dayOf; omega, by omega, by rw [hl]; decide⟩
      · rw [if_neg c3, if_neg c3, if_neg c3]
        obtain ⟨a, b, _⟩ := bir_ok h
        exact ⟨by rw [(bir_there h).2]; unfold D10.dayOf; omega, a, b⟩
theorem bir_later {y n d Y Z : Int} {l : Bool} (h : chkE y n l d Y = 0) (h' : chkE y n l d Z = 0) (hlt : Y < Z) :
    320 ≤ D10.dayV (bY y n l d Z) (bN y n l d Z) (bL y n l d Z) (bD y n l d Z) - D10.dayV (bY y n l d Y) (bN y n l d Y) (bL y n l d Y) (bD y n l d Y) := by
  rw [bir_day h, bir_day h']
  obtain ⟨hd, h1, h2, _⟩ := chk_0 h
  obtain ⟨_, h3, h4, _⟩ := chk_0 h'
  obtain ⟨_, hp⟩ := D10.date_valid hd
  obtain ⟨a, b, _⟩ := bir_ok h
  obtain ⟨a', b', _⟩ := bir_ok h'
  exact later h1 hlt h4 a b a' b' (by omega) (m0_years h1 h2 h3 h4 (right_of hp))
theorem dth_later {y n d Y Z : Int} {l : Bool} (h : chkE y n l d Y = 0) (h' : chkE y n l d Z = 0) (hlt : Y < Z) :
    320 ≤ D10.dayV (bY y n l d Z) (tN y n l d Z) (tL y n l d Z) (tD y n l d Z) - D10.dayV (bY y n l d Y) (tN y n l d Y) (tL y n l d Y) (tD y n l d Y) := by
  obtain ⟨e, a, b⟩ := dth_day h
  obtain ⟨e', a', b'⟩ := dth_day h'
  rw [e, e']
  obtain ⟨hd, h1, h2, hy⟩ := chk_0 h
  obtain ⟨_, h3, h4, _⟩ := chk_0 h'
  obtain ⟨hv, hp⟩ := D10.date_valid hd
  have hr := right_of hp
  refine later h1 hlt h4 a b a' b' ?_ ?_
  · unfold pE
    by_cases c : k1 y n l d = true
    · rw [if_pos c, if_pos c]
      obtain ⟨_, hn, _⟩ := k1_in c
      obtain ⟨_, q1, _⟩ := two_there (lp := true) hr hn Y
      obtain ⟨_, q2, _⟩ := two_there (lp := true) hr hn Z
      have b1 := S15.lastV_bd (S15.last_0 h1 h2 q1)
      have b2 := S15.lastV_bd (S15.last_0 h3 h4 q2)
      omega
    · rw [if_neg c, if_neg c]; omega
  · unfold pM
    by_cases c : k1 y n l d = true
    · rw [if_pos c, if_pos c]
      obtain ⟨_, hn, _⟩ := k1_in c
      obtain ⟨_, _, q1⟩ := two_there (lp := true) hr hn Y
      obtain ⟨_, _, q2⟩ := two_there (lp := true) hr hn Z
      exact .inl (by rw [q1, q2]; exact Int.le_refl _)
    · rw [if_neg c, if_neg c]
      have m1 := m0_val (n := n) (l := l) h1 h2 hr
      have m2 := m0_val (n := n) (l := l) h3 h4 hr
      have my := m0_years (n := n) (l := l) h1 h2 h3 h4 hr
      by_cases cl : l = true
      · subst cl
        have k3n : ∀ X, ¬ k3 y n X = true := fun X hX => by
          unfold k3 at hX
          simp only [Bool.and_eq_true, beq_iff_eq] at hX
          rcases right_cases n true hr with ⟨_, _, c⟩ | ⟨c, _⟩
          · cases c
          · omega
        rw [if_neg (k3n Y), if_neg (k3n Z)]
        simp only [if_true] at m1 m2
        by_cases c2 : k2 true d Y = true
        · rw [if_pos c2]
          refine .inl ?_
          split <;> omega
        · rw [if_neg c2]
          by_cases c4 : k2 true d Z = true
          · rw [if_pos c4, m1]
            refine .inr ⟨?_, by omega⟩
            unfold k2 at c2 c4
            simp only [Bool.and_eq_true, beq_iff_eq, Bool.not_eq_true'] at c2 c4
            cases hy : Cal.leap Y with
            | true => rfl
            | false => exact absurd ⟨c4.1, trivial, hy⟩ c2
          · rw [if_neg c4]; exact my
      · have cl' : l = false := by simpa using cl
        subst cl'
        have k2n : ∀ X, ¬ k2 false d X = true := fun X hX => by unfold k2 at hX; simp at hX
        rw [if_neg (k2n Y), if_neg (k2n Z)]
        by_cases c2 : k3 y n Y = true
        · rw [if_pos c2]
          have hn : n = 6 := by unfold k3 at c2; simp only [Bool.and_eq_true, beq_iff_eq] at c2; exact c2.1
          refine .inl ?_
          split
          · omega
          · rw [m2]; simp; split <;> omega
        · rw [if_neg c2]
          by_cases c4 : k3 y n Z = true
          · rw [if_pos c4]
            unfold k3 at c2 c4
            simp only [Bool.and_eq_true, beq_iff_eq, Bool.not_eq_true'] at c2 c4
            have hy : ¬ Cal.leap Y = true := fun hh => c2 ⟨c4.1, c4.2.1, hh⟩
            refine .inl ?_
            rw [m1]; simp [hy]; omega
          · rw [if_neg c4]; exact my
end A18
end Go.Proofs.YtmiadhiomingmaaDoor
