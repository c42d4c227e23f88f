/- Merged: Cel4, A18, Anniv, AnnivD. -/
import Derived.Test.YtaaaalbgjpjgoaaGreatDoorVBB
import Derived.Test.YtaaaalbgjpjgoaaGreatDoorVSH
import Derived.Test.YtaaaalbgjpjgoaaGreatDoorVHR
import Derived.Test.YtaaaalbgjpjgoaaGreatDoorVTail
section
/- Four cells of a block behind a call, by name. -/
set_option linter.unusedVariables false
set_option linter.unusedSimpArgs false
set_option maxRecDepth 100000
namespace Go.Proofs.YtaaaalbgjpjgoaaGreatDoor
open Go.ChangeShapes Go.WideShapes Go.ChangeAt Go.RowKit Go.Lib
theorem cel4a {W w' : World} {B : Nat} {a b c d : Value} (hc : ∀ b o, b < W.heap.size → w'.cell? ⟨b, o, none⟩ = W.cell? ⟨b, o, none⟩) (h1 : B < W.heap.size := by first | omega | (simp; done) | (simp; omega)) (h2 : W.cell? ⟨B, 0, none⟩ = some a := by first | (with_reducible assumption) | (simp [go_sem]; done) | (simp [go_sem, *]; done) | assumption) (h3 : W.cell? ⟨B, 1, none⟩ = some b := by first | (with_reducible assumption) | (simp [go_sem]; done) | (simp [go_sem, *]; done) | assumption) (h4 : W.cell? ⟨B, 2, none⟩ = some c := by first | (with_reducible assumption) | (simp [go_sem]; done) | (simp [go_sem, *]; done) | assumption) (h5 : W.cell? ⟨B, 3, none⟩ = some d := by first | (with_reducible assumption) | (simp [go_sem]; done) | (simp [go_sem, *]; done) | assumption) :
    w'.cell? ⟨B, 0, none⟩ = some a ∧ w'.cell? ⟨B, 1, none⟩ = some b ∧ w'.cell? ⟨B, 2, none⟩ = some c ∧ w'.cell? ⟨B, 3, none⟩ = some d :=
  ⟨(hc _ _ h1).trans h2, (hc _ _ h1).trans h3, (hc _ _ h1).trans h4, (hc _ _ h1).trans h5⟩
end Go.Proofs.YtaaaalbgjpjgoaaGreatDoor
end
section
/- Layer 18: anniversaries, plainly. -/
namespace Go.Proofs.YtaaaalbgjpjgoaaGreatDoor
open Go.RowKit
set_option linter.unusedVariables false
set_option maxRecDepth 100000
namespace A18
def chkE (y n : Int) (l : Bool) (d Y : Int) : Int := if D10.dateE y n l d = 0 then (if Y < 1 ∨ 9999 < Y then 2 else if Y ≤ y then 1 else 0) else D10.dateE y n l d
def cM (Y m d : Int) : Int := if d ≤ D10.dLen Y m then m else m + 1
def cD (Y m d : Int) : Int := if d ≤ D10.dLen Y m then d else 1
def m0 (Y n : Int) (l : Bool) : Int := Cal.plV (Cal.leap Y) (S15.intoN Y n l 0) (S15.intoL Y n l 0)
def k1 (y n : Int) (l : Bool) (d : Int) : Bool := d == 30 && ((n == 2 || n == 3) && decide (D10.lastV (y + 1) n l < 30))
def k2 (l : Bool) (d Y : Int) : Bool := d == 30 && (l && !Cal.leap Y)
def k3 (y n Y : Int) : Bool := n == 6 && (!Cal.leap y && Cal.leap Y)
def dM (y n : Int) (l : Bool) (d Y : Int) : Int := if k1 y n l d then Cal.plV (Cal.leap Y) n l else if k2 l d Y then 5 else if k3 y n Y then cM Y 6 d else cM Y (m0 Y n l) d
def dD (y n : Int) (l : Bool) (d Y : Int) : Int := if k1 y n l d then D10.lastV Y n l else if k2 l d Y then 30 else if k3 y n Y then cD Y 6 d else cD Y (m0 Y n l) d
def bY (y n : Int) (l : Bool) (d Y : Int) : Int := if chkE y n l d Y = 0 then Y else 0
def bN (y n : Int) (l : Bool) (d Y : Int) : Int := if chkE y n l d Y = 0 then Cal.ofN (Cal.leap Y) (cM Y (m0 Y n l) d) else 0
def bL (y n : Int) (l : Bool) (d Y : Int) : Bool := if chkE y n l d Y = 0 then Cal.ofL (Cal.leap Y) (cM Y (m0 Y n l) d) else false
def bD (y n : Int) (l : Bool) (d Y : Int) : Int := if chkE y n l d Y = 0 then cD Y (m0 Y n l) d else 0
def tN (y n : Int) (l : Bool) (d Y : Int) : Int := if chkE y n l d Y = 0 then Cal.ofN (Cal.leap Y) (dM y n l d Y) else 0
def tL (y n : Int) (l : Bool) (d Y : Int) : Bool := if chkE y n l d Y = 0 then Cal.ofL (Cal.leap Y) (dM y n l d Y) else false
def tD (y n : Int) (l : Bool) (d Y : Int) : Int := if chkE y n l d Y = 0 then dD y n l d Y else 0
theorem chk_0 {y n d Y : Int} {l : Bool} (h : chkE y n l d Y = 0) : D10.dateE y n l d = 0 ∧ 1 ≤ Y ∧ Y ≤ 9999 ∧ y < Y := by
  unfold chkE at h
  by_cases c : D10.dateE y n l d = 0
  · rw [if_pos c] at h
    by_cases c2 : Y < 1 ∨ 9999 < Y
    · rw [if_pos c2] at h; omega
    · rw [if_neg c2] at h
      by_cases c3 : Y ≤ y
      · rw [if_pos c3] at h; omega
      · exact ⟨c, by omega, by omega, by omega⟩
  · rw [if_neg c] at h; exact absurd h c
theorem cnt_there {Y m d : Int} (h1 : 1 ≤ Y) (h2 : Y ≤ 9999) (m1 : 1 ≤ m) (m2 : m ≤ Cal.most (Cal.leap Y)) (d1 : 1 ≤ d) (d2 : d ≤ 30) (hl : d ≤ D10.dLen Y m ∨ m < Cal.most (Cal.leap Y)) : D10.Valid Y (cM Y m d) (cD Y m d) ∧ D10.dayOf Y (cM Y m d) (cD Y m d) = D10.dayOf Y m 1 + d - 1 := by
  have hb := D10.len_bd Y m h1 h2 m1 m2
  unfold cM cD
  by_cases c : d ≤ D10.dLen Y m
  · rw [if_pos c, if_pos c]
    exact ⟨⟨h1, h2, m1, m2, d1, c⟩, by unfold D10.dayOf; omega⟩
  · rw [if_neg c, if_neg c]
    have hm : m < Cal.most (Cal.leap Y) := by omega
    have hb2 := D10.len_bd Y (m + 1) h1 h2 (by omega) (by omega)
    have ha := D10.ahead_next Y m h1 h2 m1 (by omega)
    exact ⟨⟨h1, h2, by omega, by omega, by omega, by omega⟩, by unfold D10.dayOf; omega⟩
theorem mostPos (Y : Int) : 1 ≤ Cal.most (Cal.leap Y) := by unfold Cal.most; split <;> omega
theorem lastValid {y n : Int} {l : Bool} (h1 : 1 ≤ y) (h2 : y ≤ 9999) (hp : Cal.plOk (Cal.leap y) n l = true) : D10.Valid y (Cal.plV (Cal.leap y) n l) (D10.lastV y n l) := by
  obtain ⟨a, b, _, _⟩ := D10.place_in _ _ _ hp
  have hb := D10.len_bd y _ h1 h2 a b
  have e : D10.lastV y n l = D10.dLen y (Cal.plV (Cal.leap y) n l) := by simp [D10.lastV, Cal.yearIn_yes y h1 h2, hp]
  rw [e]
  exact ⟨h1, h2, a, b, by omega, Int.le_refl _⟩
theorem most_29 (Y : Int) (h1 : 1 ≤ Y) (h2 : Y ≤ 9999) : D10.dLen Y (Cal.most (Cal.leap Y)) = 29 := by
  obtain ⟨j, x, e1, e2, e3, _⟩ := D10.month_facts Y _ h1 h2 (mostPos Y) (Int.le_refl _)
  rw [e3]
  unfold D10.ls at e2
  cases hl : Cal.leap Y with
  | true =>
    rw [hl] at e1 e2
    have ej : j = 12 := by simp [Cal.most] at e1; omega
    subst ej
    simp [lens] at e2
    omega
  | false =>
    rw [hl] at e1 e2
    have ej : j = 11 := by simp [Cal.most] at e1; omega
    subst ej
    simp [lens] at e2
    omega
theorem five_30 (Y : Int) (h1 : 1 ≤ Y) (h2 : Y ≤ 9999) : D10.dLen Y 5 = 30 := by
  obtain ⟨j, x, e1, e2, e3, _⟩ := D10.month_facts Y 5 h1 h2 (by omega) (by unfold Cal.most; split <;> omega)
  rw [e3]
  unfold D10.ls at e2
  have ej : j = 4 := by omega
  subst ej
  simp [lens] at e2
  omega
theorem right_of {lp : Bool} {n : Int} {l : Bool} (h : Cal.plOk lp n l = true) : Cal.right n l = true := by unfold Cal.plOk at h; simp only [Bool.and_eq_true] at h; exact h.1
theorem into_0 {Y n : Int} {l : Bool} (h1 : 1 ≤ Y) (h2 : Y ≤ 9999) (hr : Cal.right n l = true) : S15.intoE Y n l 0 = 0 ∧ Cal.plOk (Cal.leap Y) (S15.intoN Y n l 0) (S15.intoL Y n l 0) = true ∧
    ((S15.intoN Y n l 0 = n ∧ S15.intoL Y n l 0 = l ∧ Cal.plOk (Cal.leap Y) n l = true) ∨ (S15.intoN Y n l 0 = 6 ∧ S15.intoL Y n l 0 = false ∧ n = 5 ∧ l = true ∧ Cal.leap Y = false)) := by
  have m0 : S15.mode 0 = true := rfl
  by_cases hp : Cal.plOk (Cal.leap Y) n l = true
  · have e : S15.intoE Y n l 0 = 0 := by unfold S15.intoE; rw [m0, Cal.yearIn_yes Y h1 h2, hr, hp]; rfl
    have en : S15.intoN Y n l 0 = n := by unfold S15.intoN; rw [if_pos e, if_pos hp]
    have el : S15.intoL Y n l 0 = l := by unfold S15.intoL; rw [if_pos e, if_pos hp]
    exact ⟨e, by rw [en, el]; exact hp, .inl ⟨en, el, hp⟩⟩
  · have e : S15.intoE Y n l 0 = 0 := by
      unfold S15.intoE; rw [m0, Cal.yearIn_yes Y h1 h2, hr, if_pos rfl, if_pos rfl, if_pos rfl, if_neg hp]; rfl
    have en : S15.intoN Y n l 0 = 6 := by unfold S15.intoN; rw [if_pos e, if_neg hp]
    have el : S15.intoL Y n l 0 = false := by unfold S15.intoL; rw [if_pos e, if_neg hp]
    have hh : l = true ∧ Cal.leap Y = false := by
      unfold Cal.plOk at hp
      rw [hr] at hp
      cases l <;> cases hy : Cal.leap Y <;> simp [hy] at hp ⊢
    obtain ⟨rfl, hy⟩ := hh
    have hn : n = 5 := by
      rcases right_cases n true hr with ⟨_, _, c⟩ | ⟨c, _⟩
      · cases c
      · exact c
    exact ⟨e, by rw [en, el, hy]; decide, .inr ⟨en, el, hn, rfl, hy⟩⟩
/-- Where a birthday is. -/
theorem bir_ok {y n d Y : Int} {l : Bool} (h : chkE y n l d Y = 0) : 1 ≤ m0 Y n l ∧ m0 Y n l ≤ Cal.most (Cal.leap Y) ∧ 1 ≤ d ∧ d ≤ 30 ∧ (d ≤ D10.dLen Y (m0 Y n l) ∨ m0 Y n l < Cal.most (Cal.leap Y)) := by
  obtain ⟨hd, h1, h2, hlt⟩ := chk_0 h
  obtain ⟨hv, hp⟩ := D10.date_valid hd
  obtain ⟨_, hq, hi⟩ := into_0 h1 h2 (right_of hp)
  obtain ⟨p1, p2, _, _⟩ := D10.place_in _ _ _ hq
  have hb := D10.len_bd y _ hv.1 hv.2.1 hv.2.2.1 hv.2.2.2.1
  have d1 := hv.2.2.2.2.1
  have d2 := hv.2.2.2.2.2
  refine ⟨p1, p2, d1, by omega, ?_⟩
  by_cases c : m0 Y n l = Cal.most (Cal.leap Y)
  · refine .inl ?_
    have hn := (S15.place_last _ _ _ hq).2 c
    rcases hi with ⟨e1, _, _⟩ | ⟨e1, _⟩
    · have h12 := (S15.place_last _ _ _ hp).1 (e1.symm.trans hn)
      rw [h12, most_29 y hv.1 hv.2.1] at d2
      have := D10.len_bd Y _ h1 h2 p1 p2
      unfold m0; omega
    · omega
  · refine .inr ?_
    have : m0 Y n l ≤ Cal.most (Cal.leap Y) := p2
    omega
theorem bir_there {y n d Y : Int} {l : Bool} (h : chkE y n l d Y = 0) : D10.Valid Y (cM Y (m0 Y n l) d) (cD Y (m0 Y n l) d) ∧ D10.dayOf Y (cM Y (m0 Y n l) d) (cD Y (m0 Y n l) d) = D10.dayOf Y (m0 Y n l) 1 + d - 1 := by
  obtain ⟨_, h1, h2, _⟩ := chk_0 h
  obtain ⟨a, b, c, e, f⟩ := bir_ok h
  exact cnt_there h1 h2 a b c e f
theorem six_there {y n d Y : Int} {l : Bool} (h : chkE y n l d Y = 0) (hk : k3 y n Y = true) : Cal.leap Y = true ∧ D10.Valid Y (cM Y 6 d) (cD Y 6 d) ∧ D10.dayOf Y (cM Y 6 d) (cD Y 6 d) = D10.dayOf Y 6 1 + d - 1 := by
  obtain ⟨_, h1, h2, _⟩ := chk_0 h
  obtain ⟨_, _, c, e, _⟩ := bir_ok h
  unfold k3 at hk
  simp only [Bool.and_eq_true, beq_iff_eq] at hk
  have hm : Cal.most (Cal.leap Y) = 13 := by rw [hk.2.2]; rfl
  exact ⟨hk.2.2, cnt_there h1 h2 (by omega) (by omega) c e (.inr (by omega))⟩
/-- A code of the second or third month. -/
theorem two_there {n : Int} {l lp : Bool} (hr : Cal.right n l = true) (hn : n = 2 ∨ n = 3) (Y : Int) : l = false ∧ Cal.plOk (Cal.leap Y) n l = true ∧ Cal.plV (Cal.leap Y) n l = n := by
  have hl : l = false := by
    rcases right_cases n l hr with ⟨_, _, c⟩ | ⟨c, _⟩
    · exact c
    · omega
  subst hl
  refine ⟨rfl, by unfold Cal.plOk; rw [hr]; cases Cal.leap Y <;> rfl, ?_⟩
  rcases hn with rfl | rfl <;> cases Cal.leap Y <;> decide
theorem k1_in {y n d : Int} {l : Bool} (h : k1 y n l d = true) : d = 30 ∧ (n = 2 ∨ n = 3) ∧ D10.lastV (y + 1) n l < 30 := by
  unfold k1 at h
  simpa [Bool.and_eq_true] using h
theorem dth_there {y n d Y : Int} {l : Bool} (h : chkE y n l d Y = 0) : D10.Valid Y (dM y n l d Y) (dD y n l d Y) := by
  obtain ⟨hd, h1, h2, _⟩ := chk_0 h
  obtain ⟨hv, hp⟩ := D10.date_valid hd
  unfold dM dD
  by_cases c1 : k1 y n l d = true
  · rw [if_pos c1, if_pos c1]
    obtain ⟨_, hn, _⟩ := k1_in c1
    obtain ⟨_, q1, q2⟩ := two_there (lp := true) (right_of hp) hn Y
    exact lastValid h1 h2 q1
  · rw [if_neg c1, if_neg c1]
    by_cases c2 : k2 l d Y = true
    · rw [if_pos c2, if_pos c2]
      exact ⟨h1, h2, by omega, by unfold Cal.most; split <;> omega, by omega, by rw [five_30 Y h1 h2]; omega⟩
    · rw [if_neg c2, if_neg c2]
      by_cases c3 : k3 y n Y = true
      · rw [if_pos c3, if_pos c3]; exact (six_there h c3).2.1
      · rw [if_neg c3, if_neg c3]; exact (bir_there h).1
theorem bir_date {y n d Y : Int} {l : Bool} (h : chkE y n l d Y = 0) : D10.dateE (bY y n l d Y) (bN y n l d Y) (bL y n l d Y) (bD y n l d Y) = 0 ∧ bY y n l d Y = Y := by
  have e := D10.valid_date (bir_there h).1
  unfold bY bN bL bD
  rw [if_pos h, if_pos h, if_pos h, if_pos h]
  exact ⟨e.1, rfl⟩
theorem dth_date {y n d Y : Int} {l : Bool} (h : chkE y n l d Y = 0) : D10.dateE (bY y n l d Y) (tN y n l d Y) (tL y n l d Y) (tD y n l d Y) = 0 := by
  have e := D10.valid_date (dth_there h)
  unfold bY tN tL tD
  rw [if_pos h, if_pos h, if_pos h, if_pos h]
  exact e.1
/-- A plain date stays. -/
theorem plain_same {y n d Y : Int} {l : Bool} (h : chkE y n l d Y = 0) (hd : d < 30) (hl : l = false) (hn : ¬ n = 6) : (bN y n l d Y = n ∧ bL y n l d Y = l ∧ bD y n l d Y = d) ∧ (tN y n l d Y = n ∧ tL y n l d Y = l ∧ tD y n l d Y = d) := by
  obtain ⟨hde, h1, h2, _⟩ := chk_0 h
  obtain ⟨hv, hp⟩ := D10.date_valid hde
  obtain ⟨_, hq, hi⟩ := into_0 h1 h2 (right_of hp)
  obtain ⟨p1, p2, q1, q2⟩ := D10.place_in _ _ _ hq
  have hb := D10.len_bd Y (m0 Y n l) h1 h2 p1 p2
  have e1 : S15.intoN Y n l 0 = n ∧ S15.intoL Y n l 0 = l := by
    rcases hi with ⟨a, b, _⟩ | ⟨_, _, _, c, _⟩
    · exact ⟨a, b⟩
    · rw [hl] at c; cases c
  have ec : cM Y (m0 Y n l) d = m0 Y n l := by unfold cM; rw [if_pos (by omega)]
  have ed : cD Y (m0 Y n l) d = d := by unfold cD; rw [if_pos (by omega)]
  have en : Cal.ofN (Cal.leap Y) (m0 Y n l) = n := q1.trans e1.1
  have el : Cal.ofL (Cal.leap Y) (m0 Y n l) = l := q2.trans e1.2
  have n1 : ¬ k1 y n l d = true := fun c => by have := (k1_in c).1; omega
  have n2 : ¬ k2 l d Y = true := fun c => by unfold k2 at c; simp at c; omega
  have n3 : ¬ k3 y n Y = true := fun c => by unfold k3 at c; simp at c; omega
  have eM : dM y n l d Y = m0 Y n l := by unfold dM; rw [if_neg n1, if_neg n2, if_neg n3, ec]
  have eD : dD y n l d Y = d := by unfold dD; rw [if_neg n1, if_neg n2, if_neg n3, ed]
  unfold bN bL bD tN tL tD
  rw [if_pos h, if_pos h, if_pos h, if_pos h, if_pos h, if_pos h, ec, ed, eM, eD]
  exact ⟨⟨en, el, rfl⟩, ⟨en, el, rfl⟩⟩
/-! Later years. -/
theorem take_29 : ∀ (xs : List Int) (j : Nat), (∀ x ∈ xs, 29 ≤ x ∧ x ≤ 30) → j ≤ xs.length → 29 * (j : Int) ≤ (xs.take j).sum
  | xs, 0, _, _ => by simp
  | [], j + 1, _, h => by simp at h
  | x :: xs, j + 1, hx, h => by
    have ih := take_29 xs j (fun z hz => hx z (List.mem_cons_of_mem _ hz)) (by simpa using h)
    have := hx x (List.mem_cons_self ..)
    rw [List.take_succ_cons, List.sum_cons]
    omega
theorem ahead_29 (Y m : Int) (h1 : 1 ≤ Y) (h2 : Y ≤ 9999) (m1 : 1 ≤ m) (m2 : m ≤ Cal.most (Cal.leap Y)) : 29 * (m - 1) ≤ D10.dAhead Y m ∧ D10.dAhead Y m ≤ 30 * (m - 1) := by
  obtain ⟨j, x, e1, e2, e3, e4, _⟩ := D10.month_facts Y m h1 h2 m1 m2
  have hj := (List.getElem?_eq_some_iff.1 e2).1
  have a := take_29 (D10.ls Y) j (D10.ls_bd Y) (by omega)
  have b := (sum_bd (D10.ls Y) (D10.ls_bd Y) j).2
  rw [e4]
  omega
theorem long_ge (Y : Int) (h1 : 1 ≤ Y) (h2 : Y ≤ 9999) : 353 ≤ Cal.first (Y + 1) - Cal.first Y ∧ (Cal.leap Y = true → 383 ≤ Cal.first (Y + 1) - Cal.first Y) := by
  obtain ⟨i, hi, _, hk, hl⟩ := year_row Y h1 h2
  have hs := D10.row_sum i hi
  obtain ⟨_, e, _⟩ := D10.year_facts Y h1 h2
  have h0 : 0 ≤ kevK i := by unfold kevK; split <;> omega
  unfold D10.ls at e
  rw [hk, hl, hs] at e
  unfold Cal.long at e
  rw [← hl] at e
  refine ⟨by split at e <;> omega, fun h => ?_⟩
  rw [if_pos h] at e
  omega
theorem later {Y Z p q u v : Int} (h1 : 1 ≤ Y) (hlt : Y < Z) (h2 : Z ≤ 9999) (p1 : 1 ≤ p) (p2 : p ≤ Cal.most (Cal.leap Y)) (q1 : 1 ≤ q) (q2 : q ≤ Cal.most (Cal.leap Z)) (hv : u ≤ v + 1) (hpq : p ≤ q ∨ (Cal.leap Y = true ∧ p ≤ q + 1)) :
    320 ≤ (Cal.first Z + D10.dAhead Z q + v - 1) - (Cal.first Y + D10.dAhead Y p + u - 1) := by
  obtain ⟨g1, g2⟩ := long_ge Y h1 (by omega)
  have hm := first_mono (Y + 1) Z (by omega) (by omega) (by omega)
  obtain ⟨a1, a2⟩ := ahead_29 Y p h1 (by omega) p1 p2
  obtain ⟨b1, b2⟩ := ahead_29 Z q (by omega) h2 q1 q2
  have p13 : p ≤ 13 := by unfold Cal.most at p2; split at p2 <;> omega
  rcases hpq with c | ⟨c1, c2⟩
  · by_cases hl : Cal.leap Y = true
    · have := g2 hl; omega
    · have : p ≤ 12 := by unfold Cal.most at p2; rw [if_neg hl] at p2; exact p2
      omega
  · have := g2 c1; omega
theorem m0_val {Y n : Int} {l : Bool} (h1 : 1 ≤ Y) (h2 : Y ≤ 9999) (hr : Cal.right n l = true) : m0 Y n l = if l = true then 6 else if Cal.leap Y = true ∧ 5 < n then n + 1 else n := by
  obtain ⟨_, hq, hi⟩ := into_0 h1 h2 hr
  unfold m0
  rcases hi with ⟨a, b, c⟩ | ⟨a, b, hn, hl, hy⟩
  · rw [a, b]
    unfold Cal.plV
    rw [if_pos c]
    cases l with
    | true =>
      have hy : Cal.leap Y = true := by
        unfold Cal.plOk at c; rw [hr] at c; cases hy : Cal.leap Y <;> simp [hy] at c ⊢
      have hn : n = 5 := by
        rcases right_cases n true hr with ⟨_, _, c⟩ | ⟨c, _⟩
        · cases c
        · exact c
      rw [hy, hn]; rfl
    | false => cases Cal.leap Y <;> simp
  · rw [a, b, hy, hl, if_pos rfl]; decide
theorem bir_day {y n d Y : Int} {l : Bool} (h : chkE y n l d Y = 0) : D10.dayV (bY y n l d Y) (bN y n l d Y) (bL y n l d Y) (bD y n l d Y) = Cal.first Y + D10.dAhead Y (m0 Y n l) + d - 1 := by
  obtain ⟨hv, e⟩ := bir_there h
  have e2 := (D10.valid_date hv).2
  unfold bY bN bL bD
  rw [if_pos h, if_pos h, if_pos h, if_pos h, e2, e]
  unfold D10.dayOf; omega
/-- The place and the day that a day of remembrance is counted from. -/
def pM (y n : Int) (l : Bool) (d Y : Int) : Int := if k1 y n l d then Cal.plV (Cal.leap Y) n l else if k2 l d Y then 5 else if k3 y n Y then 6 else m0 Y n l
def pE (y n : Int) (l : Bool) (d Y : Int) : Int := if k1 y n l d then D10.lastV Y n l else d
theorem dth_day {y n d Y : Int} {l : Bool} (h : chkE y n l d Y = 0) : D10.dayV (bY y n l d Y) (tN y n l d Y) (tL y n l d Y) (tD y n l d Y) = Cal.first Y + D10.dAhead Y (pM y n l d Y) + pE y n l d Y - 1 ∧ 1 ≤ pM y n l d Y ∧ pM y n l d Y ≤ Cal.most (Cal.leap Y) := by
  obtain ⟨hd, h1, h2, _⟩ := chk_0 h
  obtain ⟨hvd, hp⟩ := D10.date_valid hd
  have hv := dth_there h
  have e2 := (D10.valid_date hv).2
  have e0 : D10.dayV (bY y n l d Y) (tN y n l d Y) (tL y n l d Y) (tD y n l d Y) = D10.dayOf Y (dM y n l d Y) (dD y n l d Y) := by
    unfold bY tN tL tD
    rw [if_pos h, if_pos h, if_pos h, if_pos h, e2]
  rw [e0]
  unfold dM dD pM pE
  by_cases c1 : k1 y n l d = true
  · rw [if_pos c1, if_pos c1, if_pos c1, if_pos c1]
    obtain ⟨_, hn, _⟩ := k1_in c1
    obtain ⟨_, q1, q2⟩ := two_there (lp := true) (right_of hp) hn Y
    obtain ⟨a, b, _, _⟩ := D10.place_in _ _ _ q1
    exact ⟨rfl, a, b⟩
  · rw [if_neg c1, if_neg c1, if_neg c1, if_neg c1]
    by_cases c2 : k2 l d Y = true
    · rw [if_pos c2, if_pos c2, if_pos c2]
      have hd30 : d = 30 := by unfold k2 at c2; simp only [Bool.and_eq_true, beq_iff_eq] at c2; exact c2.1
      exact ⟨by rw [hd30]; rfl, by omega, by unfold Cal.most; split <;> omega⟩
    · rw [if_neg c2, if_neg c2, if_neg c2]
      by_cases c3 : k3 y n Y = true
      · rw [if_pos c3, if_pos c3, if_pos c3]
        obtain ⟨hl, _, e⟩ := six_there h c3
        exact ⟨by rw [e]; unfold D10.dayOf; omega, by omega, by rw [hl]; decide⟩
      · rw [if_neg c3, if_neg c3, if_neg c3]
        obtain ⟨a, b, _⟩ := bir_ok h
        exact ⟨by rw [(bir_there h).2]; unfold D10.dayOf; omega, a, b⟩
end A18
end Go.Proofs.YtaaaalbgjpjgoaaGreatDoor
end
section
/- Layer 18: anniversaries. -/
namespace Go.Proofs.YtaaaalbgjpjgoaaGreatDoor
open Go.ChangeShapes Go.WideShapes Go.ChangeAt Go.RowKit
set_option linter.unusedVariables false
set_option maxRecDepth 100000
set_option maxHeartbeats 2000000 in
theorem anniv_check_err (y n : Int) (l : Bool) (d Y : Int) (hy : I64 y) (hY : I64 Y) (w : World) (hT : Tab w 2 kevCells) (hL : Tab w 3 lenCells) (h0 : ¬ D10.dateE y n l d = 0) :
    Calls Tryo.prog 114 #[.agg #[.int .i64 (y), .int .i64 (n), .bool (l), .int .i64 (d)], .int .i64 Y] w fun e w' => e = .returned (.int .i64 (D10.dateE y n l d)) ∧ Below w.heap.size w w' := by
  have HC := Lib.hid (fun w hT hL => heb_Check y n l d w hy hT hL)
  have h1 : (D10.dateE y n l d != 0) = true := by simpa using h0
  clear h0
  generalize D10.dateE y n l d = de at *
  go_enter Tryo.func114, Tryz.ntmps114
  go_wp2_with fail
  refine (HC.out _ (Tab.below hT bel) (Tab.below hL bel)).mono ?_
  rintro e w1 ⟨rfl, hb1⟩
  obtain ⟨hc1, hf1⟩ := bcell hb1
  have hz1 := hb1.size
  try simp at hz1
  have hs1x0 : w.heap.size < w1.heap.size := by omega
  obtain ⟨g1x0, g1x1, g1x2, g1x3⟩ := cel4a (B := w.heap.size) (a := .int .i64 y) (b := .int .i64 n) (c := .bool l) (d := .int .i64 d) hc1
  go_wp2_with fail
  go_ret
  refine ⟨by first | rfl | (simp [*]; done), ?_⟩
  exact bel
set_option maxHeartbeats 2000000 in
theorem anniv_check_low (y n : Int) (l : Bool) (d Y : Int) (hy : I64 y) (hY : I64 Y) (w : World) (hT : Tab w 2 kevCells) (hL : Tab w 3 lenCells) (h0 : D10.dateE y n l d = 0) (h : Y < 1) :
    Calls Tryo.prog 114 #[.agg #[.int .i64 (y), .int .i64 (n), .bool (l), .int .i64 (d)], .int .i64 Y] w fun e w' => e = .returned (.int .i64 (2)) ∧ Below w.heap.size w w' := by
  have HC := Lib.hid (fun w hT hL => heb_Check y n l d w hy hT hL)
  rw [h0] at HC
  obtain ⟨y1, y2⟩ := hy
  obtain ⟨Y1, Y2⟩ := hY
  clear h0
  go_enter Tryo.func114, Tryz.ntmps114
  go_wp2_with fail
  refine (HC.out _ (Tab.below hT bel) (Tab.below hL bel)).mono ?_
  rintro e w1 ⟨rfl, hb1⟩
  obtain ⟨hc1, hf1⟩ := bcell hb1
  have hz1 := hb1.size
  try simp at hz1
  have hs1x0 : w.heap.size < w1.heap.size := by omega
  obtain ⟨g1x0, g1x1, g1x2, g1x3⟩ := cel4a (B := w.heap.size) (a := .int .i64 y) (b := .int .i64 n) (c := .bool l) (d := .int .i64 d) hc1
  go_wp2_with fail
  go_ret
  refine ⟨by first | rfl | (simp [*]; done), ?_⟩
  exact bel
set_option maxHeartbeats 2000000 in
theorem anniv_check_high (y n : Int) (l : Bool) (d Y : Int) (hy : I64 y) (hY : I64 Y) (w : World) (hT : Tab w 2 kevCells) (hL : Tab w 3 lenCells) (h0 : D10.dateE y n l d = 0) (h1 : 1 ≤ Y) (h : 9999 < Y) :
    Calls Tryo.prog 114 #[.agg #[.int .i64 (y), .int .i64 (n), .bool (l), .int .i64 (d)], .int .i64 Y] w fun e w' => e = .returned (.int .i64 (2)) ∧ Below w.heap.size w w' := by
  have HC := Lib.hid (fun w hT hL => heb_Check y n l d w hy hT hL)
  rw [h0] at HC
  obtain ⟨y1, y2⟩ := hy
  obtain ⟨Y1, Y2⟩ := hY
  clear h0
  go_enter Tryo.func114, Tryz.ntmps114
  go_wp2_with fail
  refine (HC.out _ (Tab.below hT bel) (Tab.below hL bel)).mono ?_
  rintro e w1 ⟨rfl, hb1⟩
  obtain ⟨hc1, hf1⟩ := bcell hb1
  have hz1 := hb1.size
  try simp at hz1
  have hs1x0 : w.heap.size < w1.heap.size := by omega
  obtain ⟨g1x0, g1x1, g1x2, g1x3⟩ := cel4a (B := w.heap.size) (a := .int .i64 y) (b := .int .i64 n) (c := .bool l) (d := .int .i64 d) hc1
  go_wp2_with fail
  go_ret
  refine ⟨by first | rfl | (simp [*]; done), ?_⟩
  exact bel
set_option maxHeartbeats 2000000 in
theorem anniv_check_arg (y n : Int) (l : Bool) (d Y : Int) (hy : I64 y) (hY : I64 Y) (w : World) (hT : Tab w 2 kevCells) (hL : Tab w 3 lenCells) (h0 : D10.dateE y n l d = 0) (h1 : 1 ≤ Y) (h2 : Y ≤ 9999) (h : Y ≤ y) :
    Calls Tryo.prog 114 #[.agg #[.int .i64 (y), .int .i64 (n), .bool (l), .int .i64 (d)], .int .i64 Y] w fun e w' => e = .returned (.int .i64 (1)) ∧ Below w.heap.size w w' := by
  have HC := Lib.hid (fun w hT hL => heb_Check y n l d w hy hT hL)
  rw [h0] at HC
  obtain ⟨y1, y2⟩ := hy
  obtain ⟨Y1, Y2⟩ := hY
  clear h0
  go_enter Tryo.func114, Tryz.ntmps114
  go_wp2_with fail
  refine (HC.out _ (Tab.below hT bel) (Tab.below hL bel)).mono ?_
  rintro e w1 ⟨rfl, hb1⟩
  obtain ⟨hc1, hf1⟩ := bcell hb1
  have hz1 := hb1.size
  try simp at hz1
  have hs1x0 : w.heap.size < w1.heap.size := by omega
  obtain ⟨g1x0, g1x1, g1x2, g1x3⟩ := cel4a (B := w.heap.size) (a := .int .i64 y) (b := .int .i64 n) (c := .bool l) (d := .int .i64 d) hc1
  go_wp2_with fail
  go_ret
  refine ⟨by first | rfl | (simp [*]; done), ?_⟩
  exact bel
set_option maxHeartbeats 2000000 in
theorem anniv_check_ok (y n : Int) (l : Bool) (d Y : Int) (hy : I64 y) (hY : I64 Y) (w : World) (hT : Tab w 2 kevCells) (hL : Tab w 3 lenCells) (h0 : D10.dateE y n l d = 0) (h1 : 1 ≤ Y) (h2 : Y ≤ 9999) (h : y < Y) :
    Calls Tryo.prog 114 #[.agg #[.int .i64 (y), .int .i64 (n), .bool (l), .int .i64 (d)], .int .i64 Y] w fun e w' => e = .returned (.int .i64 (0)) ∧ Below w.heap.size w w' := by
  have HC := Lib.hid (fun w hT hL => heb_Check y n l d w hy hT hL)
  rw [h0] at HC
  obtain ⟨y1, y2⟩ := hy
  obtain ⟨Y1, Y2⟩ := hY
  clear h0
  go_enter Tryo.func114, Tryz.ntmps114
  go_wp2_with fail
  refine (HC.out _ (Tab.below hT bel) (Tab.below hL bel)).mono ?_
  rintro e w1 ⟨rfl, hb1⟩
  obtain ⟨hc1, hf1⟩ := bcell hb1
  have hz1 := hb1.size
  try simp at hz1
  have hs1x0 : w.heap.size < w1.heap.size := by omega
  obtain ⟨g1x0, g1x1, g1x2, g1x3⟩ := cel4a (B := w.heap.size) (a := .int .i64 y) (b := .int .i64 n) (c := .bool l) (d := .int .i64 d) hc1
  go_wp2_with fail
  go_ret
  refine ⟨by first | rfl | (simp [*]; done), ?_⟩
  exact bel
theorem anniv_check (y n : Int) (l : Bool) (d Y : Int) (hy : I64 y) (hY : I64 Y) (w : World) (hT : Tab w 2 kevCells) (hL : Tab w 3 lenCells) :
    Calls Tryo.prog 114 #[.agg #[.int .i64 (y), .int .i64 (n), .bool (l), .int .i64 (d)], .int .i64 Y] w fun e w' => e = .returned (.int .i64 (A18.chkE y n l d Y)) ∧ Below w.heap.size w w' := by
  unfold A18.chkE
  by_cases h0 : D10.dateE y n l d = 0
  · rw [if_pos h0]
    by_cases h1 : Y < 1 ∨ 9999 < Y
    · rw [if_pos h1]
      by_cases c : Y < 1
      · exact anniv_check_low y n l d Y hy hY w hT hL h0 c
      · exact anniv_check_high y n l d Y hy hY w hT hL h0 (by omega) (by omega)
    · rw [if_neg h1]
      by_cases h2 : Y ≤ y
      · rw [if_pos h2]; exact anniv_check_arg y n l d Y hy hY w hT hL h0 (by omega) (by omega) h2
      · rw [if_neg h2]; exact anniv_check_ok y n l d Y hy hY w hT hL h0 (by omega) (by omega) (by omega)
  · rw [if_neg h0]; exact anniv_check_err y n l d Y hy hY w hT hL h0
set_option maxHeartbeats 2000000 in
theorem anniv_days (y n : Int) (l : Bool) (hy : I64 y) (w : World) (hT : Tab w 2 kevCells) (hL : Tab w 3 lenCells)  :
    Calls Tryo.prog 117 #[.int .i64 y, .agg #[.int .i64 (n), .bool (l)]] w fun e w' => e = .returned (.int .i64 (D10.lastV y n l)) ∧ Below w.heap.size w w' := by
  have HL := Lib.hid (fun w hT hL => heb_Last y n l w hy hT hL)
  generalize D10.lastV y n l = lv at *
  generalize D10.lastE y n l = le at *
  go_enter Tryo.func117, Tryz.ntmps117
  go_wp2_with fail
  refine (HL.out _ (Tab.below hT bel) (Tab.below hL bel)).mono ?_
  rintro e w1 ⟨rfl, hb1⟩
  obtain ⟨hc1, hf1⟩ := bcell hb1
  have hz1 := hb1.size
  try simp at hz1
  go_wp2_with fail
  go_ret
  refine ⟨by first | rfl | (simp [*]; done), ?_⟩
  exact bel
set_option maxHeartbeats 2000000 in
theorem anniv_counted (y n : Int) (l : Bool) (e cm cd : Int) (hy : I64 y) (w : World) (hT : Tab w 2 kevCells) (hL : Tab w 3 lenCells) (h0 : D10.dateE y n l 1 = 0) (he : 1 ≤ e ∧ e ≤ 30) (hv : D10.Valid y cm cd) (hD : D10.dayV y n l 1 + e - 1 = D10.dayOf y cm cd)  :
    Calls Tryo.prog 116 #[.int .i64 y, .agg #[.int .i64 (n), .bool (l)], .int .i64 e] w fun e w' => e = .returned (.tuple #[.agg #[.int .i64 (y), .int .i64 (Cal.ofN (Cal.leap y) cm), .bool (Cal.ofL (Cal.leap y) cm), .int .i64 (cd)], .int .i64 (0)]) ∧ Below w.heap.size w w' := by
  obtain ⟨e1, e2⟩ := he
  have DD := (D10.dayV_ok y n l 1 h0).2
  obtain ⟨D1, D2⟩ := DD
  have HT := Lib.hid (fun w hT hL => heb_ToDay y n l 1 w hy hT hL)
  have HF := Lib.hid (fun w hT hL => heb_FromDay_at y cm cd w hT hL hv)
  rw [← hD] at HF
  rw [h0] at HT
  clear h0 hD hv
  generalize D10.dayV y n l 1 = D at *
  generalize Cal.ofN (Cal.leap y) cm = rn at *
  generalize Cal.ofL (Cal.leap y) cm = rl at *
  go_enter Tryo.func116, Tryz.ntmps116
  go_wp2_with fail
  refine (HT.out _ (Tab.below hT bel) (Tab.below hL bel)).mono ?_
  rintro e w1 ⟨rfl, hb1⟩
  obtain ⟨hc1, hf1⟩ := bcell hb1
  have hz1 := hb1.size
  try simp at hz1
  have hs1x0 : w.heap.size < w1.heap.size := by omega
  have hs1x1 : (w.heap.size + 1) < w1.heap.size := by omega
  have g1x0 : w1.cell? ⟨w.heap.size, 0, none⟩ = some (.int .i64 n) := cel hc1
  have g1x1 : w1.cell? ⟨w.heap.size, 1, none⟩ = some (.bool l) := cel hc1
  obtain ⟨g1x2, g1x3, g1x4, g1x5⟩ := cel4a (B := (w.heap.size + 1)) (a := .int .i64 0) (b := .int .i64 0) (c := .bool false) (d := .int .i64 0) hc1
  go_wp2_with fail
  refine (HF.out _ (Tab.below hT bel) (Tab.below hL bel)).mono ?_
  rintro e w2 ⟨rfl, hb2⟩
  obtain ⟨hc2, hf2⟩ := bcell hb2
  have hz2 := hb2.size
  try simp at hz2
  have hs2x0 : (w.heap.size + 1) < w2.heap.size := by omega
  obtain ⟨g2x0, g2x1, g2x2, g2x3⟩ := cel4a (B := (w.heap.size + 1)) (a := .int .i64 0) (b := .int .i64 0) (c := .bool false) (d := .int .i64 0) hc2
  go_wp2_with fail
  refine bodyPost_ret (v := .tuple #[.agg #[.int .i64 (y), .int .i64 (rn), .bool (rl), .int .i64 (cd)], .int .i64 (0)]) (by simp [results, Tryz.results116, go_sem, *]) rfl ⟨rfl, ?_⟩
  exact bel
set_option maxHeartbeats 2000000 in
theorem anniv_Birth_err (y n : Int) (l : Bool) (d Y : Int) (hy : I64 y) (hd : I64 d) (hY : I64 Y) (w : World) (hT : Tab w 2 kevCells) (hL : Tab w 3 lenCells) (h0 : ¬ A18.chkE y n l d Y = 0) :
    Calls Tryo.prog 52 #[.agg #[.int .i64 (y), .int .i64 (n), .bool (l), .int .i64 (d)], .int .i64 Y] w fun e w' => e = .returned (.tuple #[.agg #[.int .i64 (0), .int .i64 (0), .bool (false), .int .i64 (0)], .int .i64 (A18.chkE y n l d Y)]) ∧ Below w.heap.size w w' := by
  have HC := Lib.hid (fun w hT hL => anniv_check y n l d Y hy hY w hT hL)
  have h1 : (A18.chkE y n l d Y != 0) = true := by simpa using h0
  clear h0
  generalize A18.chkE y n l d Y = ce at *
  go_enter Tryo.func52, Tryz.ntmps52
  go_wp2_with fail
  refine (HC.out _ (Tab.below hT bel) (Tab.below hL bel)).mono ?_
  rintro e w1 ⟨rfl, hb1⟩
  obtain ⟨hc1, hf1⟩ := bcell hb1
  have hz1 := hb1.size
  try simp at hz1
  have hs1x0 : w.heap.size < w1.heap.size := by omega
  have hs1x1 : (w.heap.size + 1) < w1.heap.size := by omega
  obtain ⟨g1x0, g1x1, g1x2, g1x3⟩ := cel4a (B := w.heap.size) (a := .int .i64 y) (b := .int .i64 n) (c := .bool l) (d := .int .i64 d) hc1
  obtain ⟨g1x4, g1x5, g1x6, g1x7⟩ := cel4a (B := (w.heap.size + 1)) (a := .int .i64 0) (b := .int .i64 0) (c := .bool false) (d := .int .i64 0) hc1
  go_wp2_with fail
  refine bodyPost_ret (v := .tuple #[.agg #[.int .i64 (0), .int .i64 (0), .bool (false), .int .i64 (0)], .int .i64 (ce)]) (by simp [results, Tryz.results52, go_sem, *]) rfl ⟨rfl, ?_⟩
  exact bel
set_option maxHeartbeats 2000000 in
theorem anniv_Birth_ok (y n : Int) (l : Bool) (d Y : Int) (hy : I64 y) (hd : I64 d) (hY : I64 Y) (w : World) (hT : Tab w 2 kevCells) (hL : Tab w 3 lenCells) (h0 : A18.chkE y n l d Y = 0) :
    Calls Tryo.prog 52 #[.agg #[.int .i64 (y), .int .i64 (n), .bool (l), .int .i64 (d)], .int .i64 Y] w fun e w' => e = .returned (.tuple #[.agg #[.int .i64 (Y), .int .i64 (Cal.ofN (Cal.leap Y) (A18.cM Y (A18.m0 Y n l) d)), .bool (Cal.ofL (Cal.leap Y) (A18.cM Y (A18.m0 Y n l) d)), .int .i64 (A18.cD Y (A18.m0 Y n l) d)], .int .i64 (0)]) ∧ Below w.heap.size w w' := by
  have HC := Lib.hid (fun w hT hL => anniv_check y n l d Y hy hY w hT hL)
  obtain ⟨hde, h1, h2, hlt⟩ := A18.chk_0 h0
  obtain ⟨hvd, hp⟩ := D10.date_valid hde
  have hr := A18.right_of hp
  have HI := Lib.hid (fun w => shift_Into Y n l 0 w)
  obtain ⟨hi, hq, _⟩ := A18.into_0 h1 h2 hr
  obtain ⟨_, _, d1, d2, _⟩ := A18.bir_ok h0
  obtain ⟨hv, hD⟩ := A18.bir_there h0
  have hm := D10.place_in _ _ _ hq
  have hb := D10.len_bd Y (A18.m0 Y n l) h1 h2 hm.1 hm.2.1
  have v1 : D10.Valid Y (A18.m0 Y n l) 1 := ⟨h1, h2, hm.1, hm.2.1, by omega, by omega⟩
  obtain ⟨q0, qD⟩ := D10.valid_date v1
  rw [show Cal.ofN (Cal.leap Y) (A18.m0 Y n l) = S15.intoN Y n l 0 from hm.2.2.1, show Cal.ofL (Cal.leap Y) (A18.m0 Y n l) = S15.intoL Y n l 0 from hm.2.2.2] at q0 qD
  rw [← qD] at hD
  have HN := Lib.hid (fun w hT hL => anniv_counted Y (S15.intoN Y n l 0) (S15.intoL Y n l 0) d (A18.cM Y (A18.m0 Y n l) d) (A18.cD Y (A18.m0 Y n l) d) hY w hT hL q0 ⟨d1, d2⟩ hv hD.symm)
  rw [h0] at HC
  rw [hi] at HI
  clear hi hq hv hD hm hb v1 q0 qD hvd hp hr hde h0
  generalize S15.intoN Y n l 0 = n1 at *
  generalize S15.intoL Y n l 0 = l1 at *
  generalize Cal.ofN (Cal.leap Y) (A18.cM Y (A18.m0 Y n l) d) = rn at *
  generalize Cal.ofL (Cal.leap Y) (A18.cM Y (A18.m0 Y n l) d) = rl at *
  generalize A18.cD Y (A18.m0 Y n l) d = rd at *
  go_enter Tryo.func52, Tryz.ntmps52
  go_wp2_with fail
  refine (HC.out _ (Tab.below hT bel) (Tab.below hL bel)).mono ?_
  rintro e w1 ⟨rfl, hb1⟩
  obtain ⟨hc1, hf1⟩ := bcell hb1
  have hz1 := hb1.size
  try simp at hz1
  have hs1x0 : w.heap.size < w1.heap.size := by omega
  have hs1x1 : (w.heap.size + 1) < w1.heap.size := by omega
  obtain ⟨g1x0, g1x1, g1x2, g1x3⟩ := cel4a (B := w.heap.size) (a := .int .i64 y) (b := .int .i64 n) (c := .bool l) (d := .int .i64 d) hc1
  obtain ⟨g1x4, g1x5, g1x6, g1x7⟩ := cel4a (B := (w.heap.size + 1)) (a := .int .i64 0) (b := .int .i64 0) (c := .bool false) (d := .int .i64 0) hc1
  go_wp2_with fail
  refine (HI.out _).mono ?_
  rintro e w2 ⟨rfl, hb2⟩
  obtain ⟨hc2, hf2⟩ := bcell hb2
  have hz2 := hb2.size
  try simp at hz2
  have hs2x0 : w.heap.size < w2.heap.size := by omega
  have hs2x1 : (w.heap.size + 1) < w2.heap.size := by omega
  obtain ⟨g2x0, g2x1, g2x2, g2x3⟩ := cel4a (B := w.heap.size) (a := .int .i64 y) (b := .int .i64 n) (c := .bool l) (d := .int .i64 d) hc2
  obtain ⟨g2x4, g2x5, g2x6, g2x7⟩ := cel4a (B := (w.heap.size + 1)) (a := .int .i64 0) (b := .int .i64 0) (c := .bool false) (d := .int .i64 0) hc2
  go_wp2_with fail
  refine (HN.out _ (Tab.below hT bel) (Tab.below hL bel)).mono ?_
  rintro e w3 ⟨rfl, hb3⟩
  obtain ⟨hc3, hf3⟩ := bcell hb3
  have hz3 := hb3.size
  try simp at hz3
  have hs3x0 : (w.heap.size + 1) < w3.heap.size := by omega
  obtain ⟨g3x0, g3x1, g3x2, g3x3⟩ := cel4a (B := (w.heap.size + 1)) (a := .int .i64 0) (b := .int .i64 0) (c := .bool false) (d := .int .i64 0) hc3
  go_wp2_with fail
  refine bodyPost_ret (v := .tuple #[.agg #[.int .i64 (Y), .int .i64 (rn), .bool (rl), .int .i64 (rd)], .int .i64 (0)]) (by simp [results, Tryz.results52, go_sem, *]) rfl ⟨rfl, ?_⟩
  exact bel
theorem anniv_Birth (y n : Int) (l : Bool) (d Y : Int) (hy : I64 y) (hd : I64 d) (hY : I64 Y) (w : World) (hT : Tab w 2 kevCells) (hL : Tab w 3 lenCells) :
    Calls Tryo.prog 52 #[.agg #[.int .i64 (y), .int .i64 (n), .bool (l), .int .i64 (d)], .int .i64 Y] w fun e w' => e = .returned (.tuple #[.agg #[.int .i64 (A18.bY y n l d Y), .int .i64 (A18.bN y n l d Y), .bool (A18.bL y n l d Y), .int .i64 (A18.bD y n l d Y)], .int .i64 (A18.chkE y n l d Y)]) ∧ Below w.heap.size w w' := by
  unfold A18.bY A18.bN A18.bL A18.bD
  by_cases h0 : A18.chkE y n l d Y = 0
  · rw [if_pos h0, if_pos h0, if_pos h0, if_pos h0, h0]; exact anniv_Birth_ok y n l d Y hy hd hY w hT hL h0
  · rw [if_neg h0, if_neg h0, if_neg h0, if_neg h0]; exact anniv_Birth_err y n l d Y hy hd hY w hT hL h0
set_option maxHeartbeats 2000000 in
theorem anniv_Death_err (y n : Int) (l : Bool) (d Y : Int) (hy : I64 y) (hd : I64 d) (hY : I64 Y) (w : World) (hT : Tab w 2 kevCells) (hL : Tab w 3 lenCells) (h0 : ¬ A18.chkE y n l d Y = 0) :
    Calls Tryo.prog 53 #[.agg #[.int .i64 (y), .int .i64 (n), .bool (l), .int .i64 (d)], .int .i64 Y] w fun e w' => e = .returned (.tuple #[.agg #[.int .i64 (0), .int .i64 (0), .bool (false), .int .i64 (0)], .int .i64 (A18.chkE y n l d Y)]) ∧ Below w.heap.size w w' := by
  have HC := Lib.hid (fun w hT hL => anniv_check y n l d Y hy hY w hT hL)
  have h1 : (A18.chkE y n l d Y != 0) = true := by simpa using h0
  clear h0
  generalize A18.chkE y n l d Y = ce at *
  go_enter Tryo.func53, Tryz.ntmps53
  go_wp2_with fail
  refine (HC.out _ (Tab.below hT bel) (Tab.below hL bel)).mono ?_
  rintro e w1 ⟨rfl, hb1⟩
  obtain ⟨hc1, hf1⟩ := bcell hb1
  have hz1 := hb1.size
  try simp at hz1
  have hs1x0 : w.heap.size < w1.heap.size := by omega
  have hs1x1 : (w.heap.size + 1) < w1.heap.size := by omega
  obtain ⟨g1x0, g1x1, g1x2, g1x3⟩ := cel4a (B := w.heap.size) (a := .int .i64 y) (b := .int .i64 n) (c := .bool l) (d := .int .i64 d) hc1
  obtain ⟨g1x4, g1x5, g1x6, g1x7⟩ := cel4a (B := (w.heap.size + 1)) (a := .int .i64 0) (b := .int .i64 0) (c := .bool false) (d := .int .i64 0) hc1
  go_wp2_with fail
  refine bodyPost_ret (v := .tuple #[.agg #[.int .i64 (0), .int .i64 (0), .bool (false), .int .i64 (0)], .int .i64 (ce)]) (by simp [results, Tryz.results53, go_sem, *]) rfl ⟨rfl, ?_⟩
  exact bel
end Go.Proofs.YtaaaalbgjpjgoaaGreatDoor
end
section
/- Layer 18: days of remembrance. -/
namespace Go.Proofs.YtaaaalbgjpjgoaaGreatDoor
open Go.ChangeShapes Go.WideShapes Go.ChangeAt Go.RowKit
set_option linter.unusedVariables false
set_option maxRecDepth 100000
namespace A18
theorem dth_k1 {y n d Y : Int} {l : Bool} (h : chkE y n l d Y = 0) (c : k1 y n l d = true) : tN y n l d Y = n ∧ tL y n l d Y = l ∧ tD y n l d Y = D10.lastV Y n l := by
  obtain ⟨hd, h1, h2, _⟩ := chk_0 h
  obtain ⟨_, hp⟩ := D10.date_valid hd
  obtain ⟨_, hn, _⟩ := k1_in c
  obtain ⟨_, q1, _⟩ := two_there (lp := true) (right_of hp) hn Y
  obtain ⟨_, _, a, b⟩ := D10.place_in _ _ _ q1
  unfold tN tL tD dM dD
  rw [if_pos h, if_pos h, if_pos h, if_pos c, if_pos c]
  exact ⟨a, b, rfl⟩
theorem dth_k2 {y n d Y : Int} {l : Bool} (h : chkE y n l d Y = 0) (c1 : ¬ k1 y n l d = true) (c : k2 l d Y = true) : tN y n l d Y = 5 ∧ tL y n l d Y = false ∧ tD y n l d Y = 30 := by
  unfold tN tL tD dM dD
  rw [if_pos h, if_pos h, if_pos h, if_neg c1, if_neg c1, if_pos c, if_pos c]
  cases Cal.leap Y <;> decide
theorem dth_k3 {y n d Y : Int} {l : Bool} (h : chkE y n l d Y = 0) (c1 : ¬ k1 y n l d = true) (c2 : ¬ k2 l d Y = true) (c : k3 y n Y = true) : tN y n l d Y = Cal.ofN (Cal.leap Y) (cM Y 6 d) ∧ tL y n l d Y = Cal.ofL (Cal.leap Y) (cM Y 6 d) ∧ tD y n l d Y = cD Y 6 d := by
  unfold tN tL tD dM dD
  rw [if_pos h, if_pos h, if_pos h, if_neg c1, if_neg c1, if_neg c2, if_neg c2, if_pos c, if_pos c]
  exact ⟨rfl, rfl, rfl⟩
theorem dth_b {y n d Y : Int} {l : Bool} (h : chkE y n l d Y = 0) (c1 : ¬ k1 y n l d = true) (c2 : ¬ k2 l d Y = true) (c3 : ¬ k3 y n Y = true) : tN y n l d Y = bN y n l d Y ∧ tL y n l d Y = bL y n l d Y ∧ tD y n l d Y = bD y n l d Y := by
  unfold tN tL tD dM dD bN bL bD
  simp [h, c1, c2, c3]
theorem six_short {y d : Int} {l : Bool} (h : D10.dateE y 6 l d = 0) : d ≤ 29 := by
  obtain ⟨hv, hp⟩ := D10.date_valid h
  have hl : l = false := by
    rcases right_cases 6 l (right_of hp) with ⟨_, _, c⟩ | ⟨c, _⟩
    · exact c
    · omega
  subst hl
  obtain ⟨a, b, c, e, f, g⟩ := hv
  obtain ⟨j, x, e1, e2, e3, _⟩ := D10.month_facts y _ a b c e
  rw [e3] at g
  unfold D10.ls at e2
  cases hy : Cal.leap y with
  | true =>
    rw [hy] at e1 e2
    have : j = 6 := by have : Cal.plV true 6 false = 7 := by decide
                       omega
    subst this
    simp [lens] at e2
    omega
  | false =>
    rw [hy] at e1 e2
    have : j = 5 := by have : Cal.plV false 6 false = 6 := by decide
                       omega
    subst this
    simp [lens] at e2
    omega
end A18
set_option maxHeartbeats 4000000 in
theorem anniv_Death_a2 (y : Int) (Y : Int) (hy : I64 y) (hY : I64 Y) (w : World) (hT : Tab w 2 kevCells) (hL : Tab w 3 lenCells) (h0 : A18.chkE y 2 false 30 Y = 0) (hl : (decide (D10.lastV (y + 1) 2 false < 30)) = true)  :
    Calls Tryo.prog 53 #[.agg #[.int .i64 (y), .int .i64 (2), .bool (false), .int .i64 (30)], .int .i64 Y] w fun e w' => e = .returned (.tuple #[.agg #[.int .i64 (Y), .int .i64 (2), .bool (false), .int .i64 (D10.lastV Y 2 false)], .int .i64 (0)]) ∧ Below w.heap.size w w' := by
  have HC := Lib.hid (fun w hT hL => anniv_check y 2 false 30 Y hy hY w hT hL)
  obtain ⟨hde, h1, h2, hlt⟩ := A18.chk_0 h0
  obtain ⟨hvd, hp⟩ := D10.date_valid hde
  obtain ⟨b1, b2⟩ := (⟨hvd.1, hvd.2.1⟩ : 1 ≤ y ∧ y ≤ 9999)
  rw [h0] at HC
  have HW := Lib.hid (fun w => cycle_Leap_ok y w (by omega) (by omega))
  have HV := Lib.hid (fun w => cycle_Leap_ok Y w (by omega) (by omega))
  have HD := Lib.hid (fun w hT hL => anniv_days (y + 1) 2 false ⟨by omega, by omega⟩ w hT hL)
  have HE := Lib.hid (fun w hT hL => anniv_days Y 2 false hY w hT hL)
  have y1 := hy.1
  clear hde hvd hp h0
  generalize D10.lastV Y 2 false = rd at *
  generalize D10.lastV (y + 1) 2 false = lv at *
  try generalize Cal.leap y = wl at *
  try generalize Cal.leap Y = il at *
  go_enter Tryo.func53, Tryz.ntmps53
  go_wp2_with fail
  refine (HC.out _ (Tab.below hT bel) (Tab.below hL bel)).mono ?_
  rintro e w1 ⟨rfl, hb1⟩
  obtain ⟨hc1, hf1⟩ := bcell hb1
  have hz1 := hb1.size
  try simp at hz1
  have hs1x0 : w.heap.size < w1.heap.size := by omega
  have hs1x1 : (w.heap.size + 1) < w1.heap.size := by omega
  obtain ⟨g1x0, g1x1, g1x2, g1x3⟩ := cel4a (B := w.heap.size) (a := .int .i64 y) (b := .int .i64 2) (c := .bool false) (d := .int .i64 30) hc1
  obtain ⟨g1x4, g1x5, g1x6, g1x7⟩ := cel4a (B := (w.heap.size + 1)) (a := .int .i64 0) (b := .int .i64 0) (c := .bool false) (d := .int .i64 0) hc1
  go_wp2_with fail
  refine (HW.out _).mono ?_
  rintro e w' ⟨rfl, rfl⟩
  go_wp2_with fail
  refine (HV.out _).mono ?_
  rintro e w' ⟨rfl, rfl⟩
  go_wp2_with fail
  refine (HD.out _ (Tab.below hT bel) (Tab.below hL bel)).mono ?_
  rintro e w2 ⟨rfl, hb2⟩
  obtain ⟨hc2, hf2⟩ := bcell hb2
  have hz2 := hb2.size
  try simp at hz2
  have hs2x0 : w.heap.size < w2.heap.size := by omega
  have hs2x1 : (w.heap.size + 1) < w2.heap.size := by omega
  obtain ⟨g2x0, g2x1, g2x2, g2x3⟩ := cel4a (B := w.heap.size) (a := .int .i64 y) (b := .int .i64 2) (c := .bool false) (d := .int .i64 30) hc2
  obtain ⟨g2x4, g2x5, g2x6, g2x7⟩ := cel4a (B := (w.heap.size + 1)) (a := .int .i64 0) (b := .int .i64 0) (c := .bool false) (d := .int .i64 0) hc2
  go_wp2_with fail
  refine settle (fun W => W.cell? ⟨w.heap.size, 0, none⟩ = some (.int .i64 y) ∧ W.cell? ⟨w.heap.size, 1, none⟩ = some (.int .i64 2) ∧ W.cell? ⟨w.heap.size, 2, none⟩ = some (.bool false) ∧ W.cell? ⟨w.heap.size, 3, none⟩ = some (.int .i64 30) ∧ W.cell? ⟨(w.heap.size + 1), 0, none⟩ = some (.int .i64 0) ∧ W.cell? ⟨(w.heap.size + 1), 1, none⟩ = some (.int .i64 0) ∧ W.cell? ⟨(w.heap.size + 1), 2, none⟩ = some (.bool false) ∧ W.cell? ⟨(w.heap.size + 1), 3, none⟩ = some (.int .i64 0) ∧ w.heap.size < W.heap.size ∧ (w.heap.size + 1) < W.heap.size ∧ W.frozen? ⟨(w.heap.size + 1), 0, none⟩ = false ∧ W.frozen? ⟨(w.heap.size + 1), 1, none⟩ = false ∧ W.frozen? ⟨(w.heap.size + 1), 2, none⟩ = false ∧ W.frozen? ⟨(w.heap.size + 1), 3, none⟩ = false ∧ Below w.heap.size w W) ⟨?_, ?_, ?_, ?_, ?_, ?_, ?_, ?_, ?_, ?_, ?_, ?_, ?_, ?_, ?_⟩ ?_
  · (first | (with_reducible assumption) | (simp [go_sem, *]; done))
  · (first | (with_reducible assumption) | (simp [go_sem, *]; done))
  · (first | (with_reducible assumption) | (simp [go_sem, *]; done))
  · (first | (with_reducible assumption) | (simp [go_sem, *]; done))
  · (first | (with_reducible assumption) | (simp [go_sem, *]; done))
  · (first | (with_reducible assumption) | (simp [go_sem, *]; done))
  · (first | (with_reducible assumption) | (simp [go_sem, *]; done))
  · (first | (with_reducible assumption) | (simp [go_sem, *]; done))
  · (first | (with_reducible assumption) | (simp; done) | (simp; omega) | omega)
  · (first | (with_reducible assumption) | (simp; done) | (simp; omega) | omega)
  · exact (hf2 _ _ (by first | omega | (simp; done) | (simp; omega))).trans ((hf1 _ _ (by first | omega | (simp; done) | (simp; omega))).trans (by simp [go_sem]))
  · exact (hf2 _ _ (by first | omega | (simp; done) | (simp; omega))).trans ((hf1 _ _ (by first | omega | (simp; done) | (simp; omega))).trans (by simp [go_sem]))
  · exact (hf2 _ _ (by first | omega | (simp; done) | (simp; omega))).trans ((hf1 _ _ (by first | omega | (simp; done) | (simp; omega))).trans (by simp [go_sem]))
  · exact (hf2 _ _ (by first | omega | (simp; done) | (simp; omega))).trans ((hf1 _ _ (by first | omega | (simp; done) | (simp; omega))).trans (by simp [go_sem]))
  · (exact bel)
  rintro W4 ⟨r4x0, r4x1, r4x2, r4x3, r4x4, r4x5, r4x6, r4x7, rs4x0, rs4x1, rf4x0, rf4x1, rf4x2, rf4x3, hB4⟩
  refine wp_region_tail 8 (by kernel_rfl) (by kernel_rfl) (fun hall => ?_)
  simp only [List.take_succ_cons, List.take_zero, List.drop_succ_cons, List.drop_zero]
  repeat (first | go_big_quiet_skip | (go_big_quiet_want; first | (refine quiet_load1 _ _ _ rfl rfl ?_ ?_ ?_; (focus (intro _; simp; done)); (focus (first | assumption | omega | (simp; done) | (simp; omega))); apply Exists.intro; refine ⟨?_, ?_⟩; assumption; go_simp; go_big_quiet_on) | (refine quiet_load2 _ _ _ _ rfl rfl ?_ ?_ ?_ ?_; (focus (intro _; simp; done)); (focus (intro _; simp; done)); (focus (first | assumption | omega | (simp; done) | (simp; omega))); apply Exists.intro; apply Exists.intro; refine ⟨?_, ?_, ?_⟩; assumption; assumption; go_simp; go_big_quiet_on) | (refine quiet_load3 _ _ _ _ rfl rfl ?_ ?_ ?_ ?_; (focus (intro _; simp; done)); (focus (intro _; simp; done)); (focus (first | assumption | omega | (simp; done) | (simp; omega))); apply Exists.intro; apply Exists.intro; apply Exists.intro; refine ⟨?_, ?_, ?_, ?_⟩; assumption; assumption; assumption; go_simp; go_big_quiet_on) | (refine quiet_load4 _ _ _ _ rfl rfl ?_ ?_ ?_ ?_; (focus (intro _; simp; done)); (focus (intro _; simp; done)); (focus (first | assumption | omega | (simp; done) | (simp; omega))); apply Exists.intro; apply Exists.intro; apply Exists.intro; apply Exists.intro; refine ⟨?_, ?_, ?_, ?_, ?_⟩; assumption; assumption; assumption; assumption; go_simp; go_big_quiet_on) | (go_big_quiet_op; first | go_big_quiet_on | (apply Exists.intro; refine ⟨fun x hx => ?_, ?_⟩; (first | (with_reducible exact call_below hx (HE.out x (Tab.below hT (bt hB4 hx)) (Tab.below hL (bt hB4 hx)))) | exact call_below hx (HE.out x (Tab.below hT (bt hB4 hx)) (Tab.below hL (bt hB4 hx)))); go_big_quiet_on))))
  refine wpQuiet_nil ?_
  clear hall
  intro w5 hw5
  obtain ⟨hc5, hf5⟩ := bcell hw5
  have hz5 := hw5.size
  have hB5 := bt hB4 hw5
  have g5x4 : w5.cell? ⟨(w.heap.size + 1), 0, none⟩ = some (.int .i64 0) := (hc5 _ _ (by omega)).trans (by with_reducible assumption)
  have g5x5 : w5.cell? ⟨(w.heap.size + 1), 1, none⟩ = some (.int .i64 0) := (hc5 _ _ (by omega)).trans (by with_reducible assumption)
  have g5x6 : w5.cell? ⟨(w.heap.size + 1), 2, none⟩ = some (.bool false) := (hc5 _ _ (by omega)).trans (by with_reducible assumption)
  have g5x7 : w5.cell? ⟨(w.heap.size + 1), 3, none⟩ = some (.int .i64 0) := (hc5 _ _ (by omega)).trans (by with_reducible assumption)
  have z5x0 : w5.frozen? ⟨w.heap.size + 1, 0, none⟩ = false := (hf5 _ _ (by omega)).trans rf4x0
  have z5x1 : w5.frozen? ⟨w.heap.size + 1, 1, none⟩ = false := (hf5 _ _ (by omega)).trans rf4x1
  have z5x2 : w5.frozen? ⟨w.heap.size + 1, 2, none⟩ = false := (hf5 _ _ (by omega)).trans rf4x2
  have z5x3 : w5.frozen? ⟨w.heap.size + 1, 3, none⟩ = false := (hf5 _ _ (by omega)).trans rf4x3
  go_wp2_with fail
  refine bodyPost_ret (v := .tuple #[.agg #[.int .i64 (Y), .int .i64 (2), .bool (false), .int .i64 (rd)], .int .i64 (0)]) (by simp [results, Tryz.results53, go_sem, *]) rfl ⟨rfl, ?_⟩
  exact bel
set_option maxHeartbeats 4000000 in
theorem anniv_Death_a3 (y : Int) (Y : Int) (hy : I64 y) (hY : I64 Y) (w : World) (hT : Tab w 2 kevCells) (hL : Tab w 3 lenCells) (h0 : A18.chkE y 3 false 30 Y = 0) (hl : (decide (D10.lastV (y + 1) 3 false < 30)) = true)  :
    Calls Tryo.prog 53 #[.agg #[.int .i64 (y), .int .i64 (3), .bool (false), .int .i64 (30)], .int .i64 Y] w fun e w' => e = .returned (.tuple #[.agg #[.int .i64 (Y), .int .i64 (3), .bool (false), .int .i64 (D10.lastV Y 3 false)], .int .i64 (0)]) ∧ Below w.heap.size w w' := by
  have HC := Lib.hid (fun w hT hL => anniv_check y 3 false 30 Y hy hY w hT hL)
  obtain ⟨hde, h1, h2, hlt⟩ := A18.chk_0 h0
  obtain ⟨hvd, hp⟩ := D10.date_valid hde
  obtain ⟨b1, b2⟩ := (⟨hvd.1, hvd.2.1⟩ : 1 ≤ y ∧ y ≤ 9999)
  rw [h0] at HC
  have HW := Lib.hid (fun w => cycle_Leap_ok y w (by omega) (by omega))
  have HV := Lib.hid (fun w => cycle_Leap_ok Y w (by omega) (by omega))
  have HD := Lib.hid (fun w hT hL => anniv_days (y + 1) 3 false ⟨by omega, by omega⟩ w hT hL)
  have HE := Lib.hid (fun w hT hL => anniv_days Y 3 false hY w hT hL)
  have y1 := hy.1
  clear hde hvd hp h0
  generalize D10.lastV Y 3 false = rd at *
  generalize D10.lastV (y + 1) 3 false = lv at *
  try generalize Cal.leap y = wl at *
  try generalize Cal.leap Y = il at *
  go_enter Tryo.func53, Tryz.ntmps53
  go_wp2_with fail
  refine (HC.out _ (Tab.below hT bel) (Tab.below hL bel)).mono ?_
  rintro e w1 ⟨rfl, hb1⟩
  obtain ⟨hc1, hf1⟩ := bcell hb1
  have hz1 := hb1.size
  try simp at hz1
  have hs1x0 : w.heap.size < w1.heap.size := by omega
  have hs1x1 : (w.heap.size + 1) < w1.heap.size := by omega
  obtain ⟨g1x0, g1x1, g1x2, g1x3⟩ := cel4a (B := w.heap.size) (a := .int .i64 y) (b := .int .i64 3) (c := .bool false) (d := .int .i64 30) hc1
  obtain ⟨g1x4, g1x5, g1x6, g1x7⟩ := cel4a (B := (w.heap.size + 1)) (a := .int .i64 0) (b := .int .i64 0) (c := .bool false) (d := .int .i64 0) hc1
  go_wp2_with fail
  refine (HW.out _).mono ?_
  rintro e w' ⟨rfl, rfl⟩
  go_wp2_with fail
  refine (HV.out _).mono ?_
  rintro e w' ⟨rfl, rfl⟩
  go_wp2_with fail
  refine (HD.out _ (Tab.below hT bel) (Tab.below hL bel)).mono ?_
  rintro e w2 ⟨rfl, hb2⟩
  obtain ⟨hc2, hf2⟩ := bcell hb2
  have hz2 := hb2.size
  try simp at hz2
  have hs2x0 : w.heap.size < w2.heap.size := by omega
  have hs2x1 : (w.heap.size + 1) < w2.heap.size := by omega
  obtain ⟨g2x0, g2x1, g2x2, g2x3⟩ := cel4a (B := w.heap.size) (a := .int .i64 y) (b := .int .i64 3) (c := .bool false) (d := .int .i64 30) hc2
  obtain ⟨g2x4, g2x5, g2x6, g2x7⟩ := cel4a (B := (w.heap.size + 1)) (a := .int .i64 0) (b := .int .i64 0) (c := .bool false) (d := .int .i64 0) hc2
  go_wp2_with fail
  refine settle (fun W => W.cell? ⟨w.heap.size, 0, none⟩ = some (.int .i64 y) ∧ W.cell? ⟨w.heap.size, 1, none⟩ = some (.int .i64 3) ∧ W.cell? ⟨w.heap.size, 2, none⟩ = some (.bool false) ∧ W.cell? ⟨w.heap.size, 3, none⟩ = some (.int .i64 30) ∧ W.cell? ⟨(w.heap.size + 1), 0, none⟩ = some (.int .i64 0) ∧ W.cell? ⟨(w.heap.size + 1), 1, none⟩ = some (.int .i64 0) ∧ W.cell? ⟨(w.heap.size + 1), 2, none⟩ = some (.bool false) ∧ W.cell? ⟨(w.heap.size + 1), 3, none⟩ = some (.int .i64 0) ∧ w.heap.size < W.heap.size ∧ (w.heap.size + 1) < W.heap.size ∧ W.frozen? ⟨(w.heap.size + 1), 0, none⟩ = false ∧ W.frozen? ⟨(w.heap.size + 1), 1, none⟩ = false ∧ W.frozen? ⟨(w.heap.size + 1), 2, none⟩ = false ∧ W.frozen? ⟨(w.heap.size + 1), 3, none⟩ = false ∧ Below w.heap.size w W) ⟨?_, ?_, ?_, ?_, ?_, ?_, ?_, ?_, ?_, ?_, ?_, ?_, ?_, ?_, ?_⟩ ?_
  · (first | (with_reducible assumption) | (simp [go_sem, *]; done))
  · (first | (with_reducible assumption) | (simp [go_sem, *]; done))
  · (first | (with_reducible assumption) | (simp [go_sem, *]; done))
  · (first | (with_reducible assumption) | (simp [go_sem, *]; done))
  · (first | (with_reducible assumption) | (simp [go_sem, *]; done))
  · (first | (with_reducible assumption) | (simp [go_sem, *]; done))
  · (first | (with_reducible assumption) | (simp [go_sem, *]; done))
  · (first | (with_reducible assumption) | (simp [go_sem, *]; done))
  · (first | (with_reducible assumption) | (simp; done) | (simp; omega) | omega)
  · (first | (with_reducible assumption) | (simp; done) | (simp; omega) | omega)
  · exact (hf2 _ _ (by first | omega | (simp; done) | (simp; omega))).trans ((hf1 _ _ (by first | omega | (simp; done) | (simp; omega))).trans (by simp [go_sem]))
  · exact (hf2 _ _ (by first | omega | (simp; done) | (simp; omega))).trans ((hf1 _ _ (by first | omega | (simp; done) | (simp; omega))).trans (by simp [go_sem]))
  · exact (hf2 _ _ (by first | omega | (simp; done) | (simp; omega))).trans ((hf1 _ _ (by first | omega | (simp; done) | (simp; omega))).trans (by simp [go_sem]))
  · exact (hf2 _ _ (by first | omega | (simp; done) | (simp; omega))).trans ((hf1 _ _ (by first | omega | (simp; done) | (simp; omega))).trans (by simp [go_sem]))
  · (exact bel)
  rintro W4 ⟨r4x0, r4x1, r4x2, r4x3, r4x4, r4x5, r4x6, r4x7, rs4x0, rs4x1, rf4x0, rf4x1, rf4x2, rf4x3, hB4⟩
  refine wp_region_tail 8 (by kernel_rfl) (by kernel_rfl) (fun hall => ?_)
  simp only [List.take_succ_cons, List.take_zero, List.drop_succ_cons, List.drop_zero]
  repeat (first | go_big_quiet_skip | (go_big_quiet_want; first | (refine quiet_load1 _ _ _ rfl rfl ?_ ?_ ?_; (focus (intro _; simp; done)); (focus (first | assumption | omega | (simp; done) | (simp; omega))); apply Exists.intro; refine ⟨?_, ?_⟩; assumption; go_simp; go_big_quiet_on) | (refine quiet_load2 _ _ _ _ rfl rfl ?_ ?_ ?_ ?_; (focus (intro _; simp; done)); (focus (intro _; simp; done)); (focus (first | assumption | omega | (simp; done) | (simp; omega))); apply Exists.intro; apply Exists.intro; refine ⟨?_, ?_, ?_⟩; assumption; assumption; go_simp; go_big_quiet_on) | (refine quiet_load3 _ _ _ _ rfl rfl ?_ ?_ ?_ ?_; (focus (intro _; simp; done)); (focus (intro _; simp; done)); (focus (first | assumption | omega | (simp; done) | (simp; omega))); apply Exists.intro; apply Exists.intro; apply Exists.intro; refine ⟨?_, ?_, ?_, ?_⟩; assumption; assumption; assumption; go_simp; go_big_quiet_on) | (refine quiet_load4 _ _ _ _ rfl rfl ?_ ?_ ?_ ?_; (focus (intro _; simp; done)); (focus (intro _; simp; done)); (focus (first | assumption | omega | (simp; done) | (simp; omega))); apply Exists.intro; apply Exists.intro; apply Exists.intro; apply Exists.intro; refine ⟨?_, ?_, ?_, ?_, ?_⟩; assumption; assumption; assumption; assumption; go_simp; go_big_quiet_on) | (go_big_quiet_op; first | go_big_quiet_on | (apply Exists.intro; refine ⟨fun x hx => ?_, ?_⟩; (first | (with_reducible exact call_below hx (HE.out x (Tab.below hT (bt hB4 hx)) (Tab.below hL (bt hB4 hx)))) | exact call_below hx (HE.out x (Tab.below hT (bt hB4 hx)) (Tab.below hL (bt hB4 hx)))); go_big_quiet_on))))
  refine wpQuiet_nil ?_
  clear hall
  intro w5 hw5
  obtain ⟨hc5, hf5⟩ := bcell hw5
  have hz5 := hw5.size
  have hB5 := bt hB4 hw5
  have g5x4 : w5.cell? ⟨(w.heap.size + 1), 0, none⟩ = some (.int .i64 0) := (hc5 _ _ (by omega)).trans (by with_reducible assumption)
  have g5x5 : w5.cell? ⟨(w.heap.size + 1), 1, none⟩ = some (.int .i64 0) := (hc5 _ _ (by omega)).trans (by with_reducible assumption)
  have g5x6 : w5.cell? ⟨(w.heap.size + 1), 2, none⟩ = some (.bool false) := (hc5 _ _ (by omega)).trans (by with_reducible assumption)
  have g5x7 : w5.cell? ⟨(w.heap.size + 1), 3, none⟩ = some (.int .i64 0) := (hc5 _ _ (by omega)).trans (by with_reducible assumption)
  have z5x0 : w5.frozen? ⟨w.heap.size + 1, 0, none⟩ = false := (hf5 _ _ (by omega)).trans rf4x0
  have z5x1 : w5.frozen? ⟨w.heap.size + 1, 1, none⟩ = false := (hf5 _ _ (by omega)).trans rf4x1
  have z5x2 : w5.frozen? ⟨w.heap.size + 1, 2, none⟩ = false := (hf5 _ _ (by omega)).trans rf4x2
  have z5x3 : w5.frozen? ⟨w.heap.size + 1, 3, none⟩ = false := (hf5 _ _ (by omega)).trans rf4x3
  go_wp2_with fail
  refine bodyPost_ret (v := .tuple #[.agg #[.int .i64 (Y), .int .i64 (3), .bool (false), .int .i64 (rd)], .int .i64 (0)]) (by simp [results, Tryz.results53, go_sem, *]) rfl ⟨rfl, ?_⟩
  exact bel
set_option maxHeartbeats 4000000 in
theorem anniv_Death_c2 (y : Int) (Y : Int) (hy : I64 y) (hY : I64 Y) (w : World) (hT : Tab w 2 kevCells) (hL : Tab w 3 lenCells) (h0 : A18.chkE y 2 false 30 Y = 0) (hl : (decide (D10.lastV (y + 1) 2 false < 30)) = false)  :
    Calls Tryo.prog 53 #[.agg #[.int .i64 (y), .int .i64 (2), .bool (false), .int .i64 (30)], .int .i64 Y] w fun e w' => e = .returned (.tuple #[.agg #[.int .i64 (A18.bY y 2 false 30 Y), .int .i64 (A18.bN y 2 false 30 Y), .bool (A18.bL y 2 false 30 Y), .int .i64 (A18.bD y 2 false 30 Y)], .int .i64 (0)]) ∧ Below w.heap.size w w' := by
  have HC := Lib.hid (fun w hT hL => anniv_check y 2 false 30 Y hy hY w hT hL)
  obtain ⟨hde, h1, h2, hlt⟩ := A18.chk_0 h0
  obtain ⟨hvd, hp⟩ := D10.date_valid hde
  obtain ⟨b1, b2⟩ := (⟨hvd.1, hvd.2.1⟩ : 1 ≤ y ∧ y ≤ 9999)
  rw [h0] at HC
  have HW := Lib.hid (fun w => cycle_Leap_ok y w (by omega) (by omega))
  have HV := Lib.hid (fun w => cycle_Leap_ok Y w (by omega) (by omega))
  have HD := Lib.hid (fun w hT hL => anniv_days (y + 1) 2 false ⟨by omega, by omega⟩ w hT hL)
  have HB := Lib.hid (fun w hT hL => anniv_Birth y 2 false 30 Y hy ⟨by omega, by omega⟩ hY w hT hL)
  rw [h0] at HB
  have y1 := hy.1
  clear hde hvd hp h0
  generalize A18.bY y 2 false 30 Y = ry at *
  generalize A18.bN y 2 false 30 Y = rn at *
  generalize A18.bL y 2 false 30 Y = rl at *
  generalize A18.bD y 2 false 30 Y = rd at *
  generalize D10.lastV (y + 1) 2 false = lv at *
  try generalize Cal.leap y = wl at *
  try generalize Cal.leap Y = il at *
  go_enter Tryo.func53, Tryz.ntmps53
  go_wp2_with fail
  refine (HC.out _ (Tab.below hT bel) (Tab.below hL bel)).mono ?_
  rintro e w1 ⟨rfl, hb1⟩
  obtain ⟨hc1, hf1⟩ := bcell hb1
  have hz1 := hb1.size
  try simp at hz1
  have hs1x0 : w.heap.size < w1.heap.size := by omega
  have hs1x1 : (w.heap.size + 1) < w1.heap.size := by omega
  obtain ⟨g1x0, g1x1, g1x2, g1x3⟩ := cel4a (B := w.heap.size) (a := .int .i64 y) (b := .int .i64 2) (c := .bool false) (d := .int .i64 30) hc1
  obtain ⟨g1x4, g1x5, g1x6, g1x7⟩ := cel4a (B := (w.heap.size + 1)) (a := .int .i64 0) (b := .int .i64 0) (c := .bool false) (d := .int .i64 0) hc1
  go_wp2_with fail
  refine (HW.out _).mono ?_
  rintro e w' ⟨rfl, rfl⟩
  go_wp2_with fail
  refine (HV.out _).mono ?_
  rintro e w' ⟨rfl, rfl⟩
  go_wp2_with fail
  refine (HD.out _ (Tab.below hT bel) (Tab.below hL bel)).mono ?_
  rintro e w2 ⟨rfl, hb2⟩
  obtain ⟨hc2, hf2⟩ := bcell hb2
  have hz2 := hb2.size
  try simp at hz2
  have hs2x0 : w.heap.size < w2.heap.size := by omega
  have hs2x1 : (w.heap.size + 1) < w2.heap.size := by omega
  obtain ⟨g2x0, g2x1, g2x2, g2x3⟩ := cel4a (B := w.heap.size) (a := .int .i64 y) (b := .int .i64 2) (c := .bool false) (d := .int .i64 30) hc2
  obtain ⟨g2x4, g2x5, g2x6, g2x7⟩ := cel4a (B := (w.heap.size + 1)) (a := .int .i64 0) (b := .int .i64 0) (c := .bool false) (d := .int .i64 0) hc2
  go_wp2_with fail
  refine (HB.out _ (Tab.below hT bel) (Tab.below hL bel)).mono ?_
  rintro e w3 ⟨rfl, hb3⟩
  obtain ⟨hc3, hf3⟩ := bcell hb3
  have hz3 := hb3.size
  try simp at hz3
  have hs3x0 : (w.heap.size + 1) < w3.heap.size := by omega
  obtain ⟨g3x0, g3x1, g3x2, g3x3⟩ := cel4a (B := (w.heap.size + 1)) (a := .int .i64 0) (b := .int .i64 0) (c := .bool false) (d := .int .i64 0) hc3
  go_wp2_with fail
  refine bodyPost_ret (v := .tuple #[.agg #[.int .i64 (ry), .int .i64 (rn), .bool (rl), .int .i64 (rd)], .int .i64 (0)]) (by simp [results, Tryz.results53, go_sem, *]) rfl ⟨rfl, ?_⟩
  exact bel
set_option maxHeartbeats 4000000 in
theorem anniv_Death_c3 (y : Int) (Y : Int) (hy : I64 y) (hY : I64 Y) (w : World) (hT : Tab w 2 kevCells) (hL : Tab w 3 lenCells) (h0 : A18.chkE y 3 false 30 Y = 0) (hl : (decide (D10.lastV (y + 1) 3 false < 30)) = false)  :
    Calls Tryo.prog 53 #[.agg #[.int .i64 (y), .int .i64 (3), .bool (false), .int .i64 (30)], .int .i64 Y] w fun e w' => e = .returned (.tuple #[.agg #[.int .i64 (A18.bY y 3 false 30 Y), .int .i64 (A18.bN y 3 false 30 Y), .bool (A18.bL y 3 false 30 Y), .int .i64 (A18.bD y 3 false 30 Y)], .int .i64 (0)]) ∧ Below w.heap.size w w' := by
  have HC := Lib.hid (fun w hT hL => anniv_check y 3 false 30 Y hy hY w hT hL)
  obtain ⟨hde, h1, h2, hlt⟩ := A18.chk_0 h0
  obtain ⟨hvd, hp⟩ := D10.date_valid hde
  obtain ⟨b1, b2⟩ := (⟨hvd.1, hvd.2.1⟩ : 1 ≤ y ∧ y ≤ 9999)
  rw [h0] at HC
  have HW := Lib.hid (fun w => cycle_Leap_ok y w (by omega) (by omega))
  have HV := Lib.hid (fun w => cycle_Leap_ok Y w (by omega) (by omega))
  have HD := Lib.hid (fun w hT hL => anniv_days (y + 1) 3 false ⟨by omega, by omega⟩ w hT hL)
  have HB := Lib.hid (fun w hT hL => anniv_Birth y 3 false 30 Y hy ⟨by omega, by omega⟩ hY w hT hL)
  rw [h0] at HB
  have y1 := hy.1
  clear hde hvd hp h0
  generalize A18.bY y 3 false 30 Y = ry at *
  generalize A18.bN y 3 false 30 Y = rn at *
  generalize A18.bL y 3 false 30 Y = rl at *
  generalize A18.bD y 3 false 30 Y = rd at *
  generalize D10.lastV (y + 1) 3 false = lv at *
  try generalize Cal.leap y = wl at *
  try generalize Cal.leap Y = il at *
  go_enter Tryo.func53, Tryz.ntmps53
  go_wp2_with fail
  refine (HC.out _ (Tab.below hT bel) (Tab.below hL bel)).mono ?_
  rintro e w1 ⟨rfl, hb1⟩
  obtain ⟨hc1, hf1⟩ := bcell hb1
  have hz1 := hb1.size
  try simp at hz1
  have hs1x0 : w.heap.size < w1.heap.size := by omega
  have hs1x1 : (w.heap.size + 1) < w1.heap.size := by omega
  obtain ⟨g1x0, g1x1, g1x2, g1x3⟩ := cel4a (B := w.heap.size) (a := .int .i64 y) (b := .int .i64 3) (c := .bool false) (d := .int .i64 30) hc1
  obtain ⟨g1x4, g1x5, g1x6, g1x7⟩ := cel4a (B := (w.heap.size + 1)) (a := .int .i64 0) (b := .int .i64 0) (c := .bool false) (d := .int .i64 0) hc1
  go_wp2_with fail
  refine (HW.out _).mono ?_
  rintro e w' ⟨rfl, rfl⟩
  go_wp2_with fail
  refine (HV.out _).mono ?_
  rintro e w' ⟨rfl, rfl⟩
  go_wp2_with fail
  refine (HD.out _ (Tab.below hT bel) (Tab.below hL bel)).mono ?_
  rintro e w2 ⟨rfl, hb2⟩
  obtain ⟨hc2, hf2⟩ := bcell hb2
  have hz2 := hb2.size
  try simp at hz2
  have hs2x0 : w.heap.size < w2.heap.size := by omega
  have hs2x1 : (w.heap.size + 1) < w2.heap.size := by omega
  obtain ⟨g2x0, g2x1, g2x2, g2x3⟩ := cel4a (B := w.heap.size) (a := .int .i64 y) (b := .int .i64 3) (c := .bool false) (d := .int .i64 30) hc2
  obtain ⟨g2x4, g2x5, g2x6, g2x7⟩ := cel4a (B := (w.heap.size + 1)) (a := .int .i64 0) (b := .int .i64 0) (c := .bool false) (d := .int .i64 0) hc2
  go_wp2_with fail
  refine (HB.out _ (Tab.below hT bel) (Tab.below hL bel)).mono ?_
  rintro e w3 ⟨rfl, hb3⟩
  obtain ⟨hc3, hf3⟩ := bcell hb3
  have hz3 := hb3.size
  try simp at hz3
  have hs3x0 : (w.heap.size + 1) < w3.heap.size := by omega
  obtain ⟨g3x0, g3x1, g3x2, g3x3⟩ := cel4a (B := (w.heap.size + 1)) (a := .int .i64 0) (b := .int .i64 0) (c := .bool false) (d := .int .i64 0) hc3
  go_wp2_with fail
  refine bodyPost_ret (v := .tuple #[.agg #[.int .i64 (ry), .int .i64 (rn), .bool (rl), .int .i64 (rd)], .int .i64 (0)]) (by simp [results, Tryz.results53, go_sem, *]) rfl ⟨rfl, ?_⟩
  exact bel
set_option maxHeartbeats 4000000 in
theorem anniv_Death_bl (y n : Int) (Y : Int) (hy : I64 y) (hY : I64 Y) (w : World) (hT : Tab w 2 kevCells) (hL : Tab w 3 lenCells) (h0 : A18.chkE y n true 30 Y = 0) (n2 : (n == 2) = false) (n3 : (n == 3) = false) (hi : Cal.leap Y = false) :
    Calls Tryo.prog 53 #[.agg #[.int .i64 (y), .int .i64 (n), .bool (true), .int .i64 (30)], .int .i64 Y] w fun e w' => e = .returned (.tuple #[.agg #[.int .i64 (Y), .int .i64 (5), .bool (false), .int .i64 (30)], .int .i64 (0)]) ∧ Below w.heap.size w w' := by
  have HC := Lib.hid (fun w hT hL => anniv_check y n true 30 Y hy hY w hT hL)
  obtain ⟨hde, h1, h2, hlt⟩ := A18.chk_0 h0
  obtain ⟨hvd, hp⟩ := D10.date_valid hde
  obtain ⟨b1, b2⟩ := (⟨hvd.1, hvd.2.1⟩ : 1 ≤ y ∧ y ≤ 9999)
  rw [h0] at HC
  have HW := Lib.hid (fun w => cycle_Leap_ok y w (by omega) (by omega))
  have HV := Lib.hid (fun w => cycle_Leap_ok Y w (by omega) (by omega))
  have y1 := hy.1
  clear hde hvd hp h0
  rw [hi] at HV
  clear hi
  try generalize Cal.leap y = wl at *
  try generalize Cal.leap Y = il at *
  go_enter Tryo.func53, Tryz.ntmps53
  go_wp2_with fail
  refine (HC.out _ (Tab.below hT bel) (Tab.below hL bel)).mono ?_
  rintro e w1 ⟨rfl, hb1⟩
  obtain ⟨hc1, hf1⟩ := bcell hb1
  have hz1 := hb1.size
  try simp at hz1
  have hs1x0 : w.heap.size < w1.heap.size := by omega
  have hs1x1 : (w.heap.size + 1) < w1.heap.size := by omega
  obtain ⟨g1x0, g1x1, g1x2, g1x3⟩ := cel4a (B := w.heap.size) (a := .int .i64 y) (b := .int .i64 n) (c := .bool true) (d := .int .i64 30) hc1
  obtain ⟨g1x4, g1x5, g1x6, g1x7⟩ := cel4a (B := (w.heap.size + 1)) (a := .int .i64 0) (b := .int .i64 0) (c := .bool false) (d := .int .i64 0) hc1
  go_wp2_with fail
  refine (HW.out _).mono ?_
  rintro e w' ⟨rfl, rfl⟩
  go_wp2_with fail
  refine (HV.out _).mono ?_
  rintro e w' ⟨rfl, rfl⟩
  go_wp2_with fail
  refine bodyPost_ret (v := .tuple #[.agg #[.int .i64 (Y), .int .i64 (5), .bool (false), .int .i64 (30)], .int .i64 (0)]) (by simp [results, Tryz.results53, go_sem, *]) rfl ⟨rfl, ?_⟩
  exact bel
set_option maxHeartbeats 4000000 in
theorem anniv_Death_bll (y n : Int) (Y : Int) (hy : I64 y) (hY : I64 Y) (w : World) (hT : Tab w 2 kevCells) (hL : Tab w 3 lenCells) (h0 : A18.chkE y n true 30 Y = 0) (n2 : (n == 2) = false) (n3 : (n == 3) = false) (n6 : (n == 6) = false) (hi : Cal.leap Y = true) :
    Calls Tryo.prog 53 #[.agg #[.int .i64 (y), .int .i64 (n), .bool (true), .int .i64 (30)], .int .i64 Y] w fun e w' => e = .returned (.tuple #[.agg #[.int .i64 (A18.bY y n true 30 Y), .int .i64 (A18.bN y n true 30 Y), .bool (A18.bL y n true 30 Y), .int .i64 (A18.bD y n true 30 Y)], .int .i64 (0)]) ∧ Below w.heap.size w w' := by
  have HC := Lib.hid (fun w hT hL => anniv_check y n true 30 Y hy hY w hT hL)
  obtain ⟨hde, h1, h2, hlt⟩ := A18.chk_0 h0
  obtain ⟨hvd, hp⟩ := D10.date_valid hde
  obtain ⟨b1, b2⟩ := (⟨hvd.1, hvd.2.1⟩ : 1 ≤ y ∧ y ≤ 9999)
  rw [h0] at HC
  have HW := Lib.hid (fun w => cycle_Leap_ok y w (by omega) (by omega))
  have HV := Lib.hid (fun w => cycle_Leap_ok Y w (by omega) (by omega))
  have HB := Lib.hid (fun w hT hL => anniv_Birth y n true 30 Y hy ⟨by omega, by omega⟩ hY w hT hL)
  rw [h0] at HB
  have y1 := hy.1
  clear hde hvd hp h0
  rw [hi] at HV
  generalize A18.bY y n true 30 Y = ry at *
  generalize A18.bN y n true 30 Y = rn at *
  generalize A18.bL y n true 30 Y = rl at *
  generalize A18.bD y n true 30 Y = rd at *
  clear hi
  try generalize Cal.leap y = wl at *
  try generalize Cal.leap Y = il at *
  go_enter Tryo.func53, Tryz.ntmps53
  go_wp2_with fail
  refine (HC.out _ (Tab.below hT bel) (Tab.below hL bel)).mono ?_
  rintro e w1 ⟨rfl, hb1⟩
  obtain ⟨hc1, hf1⟩ := bcell hb1
  have hz1 := hb1.size
  try simp at hz1
  have hs1x0 : w.heap.size < w1.heap.size := by omega
  have hs1x1 : (w.heap.size + 1) < w1.heap.size := by omega
  obtain ⟨g1x0, g1x1, g1x2, g1x3⟩ := cel4a (B := w.heap.size) (a := .int .i64 y) (b := .int .i64 n) (c := .bool true) (d := .int .i64 30) hc1
  obtain ⟨g1x4, g1x5, g1x6, g1x7⟩ := cel4a (B := (w.heap.size + 1)) (a := .int .i64 0) (b := .int .i64 0) (c := .bool false) (d := .int .i64 0) hc1
  go_wp2_with fail
  refine (HW.out _).mono ?_
  rintro e w' ⟨rfl, rfl⟩
  go_wp2_with fail
  refine (HV.out _).mono ?_
  rintro e w' ⟨rfl, rfl⟩
  go_wp2_with fail
  refine (HB.out _ (Tab.below hT bel) (Tab.below hL bel)).mono ?_
  rintro e w3 ⟨rfl, hb3⟩
  obtain ⟨hc3, hf3⟩ := bcell hb3
  have hz3 := hb3.size
  try simp at hz3
  have hs3x0 : (w.heap.size + 1) < w3.heap.size := by omega
  obtain ⟨g3x0, g3x1, g3x2, g3x3⟩ := cel4a (B := (w.heap.size + 1)) (a := .int .i64 0) (b := .int .i64 0) (c := .bool false) (d := .int .i64 0) hc3
  go_wp2_with fail
  refine bodyPost_ret (v := .tuple #[.agg #[.int .i64 (ry), .int .i64 (rn), .bool (rl), .int .i64 (rd)], .int .i64 (0)]) (by simp [results, Tryz.results53, go_sem, *]) rfl ⟨rfl, ?_⟩
  exact bel
set_option maxHeartbeats 4000000 in
theorem anniv_Death_bp (y n : Int) (Y : Int) (hy : I64 y) (hY : I64 Y) (w : World) (hT : Tab w 2 kevCells) (hL : Tab w 3 lenCells) (h0 : A18.chkE y n false 30 Y = 0) (n2 : (n == 2) = false) (n3 : (n == 3) = false) (n6 : (n == 6) = false) :
    Calls Tryo.prog 53 #[.agg #[.int .i64 (y), .int .i64 (n), .bool (false), .int .i64 (30)], .int .i64 Y] w fun e w' => e = .returned (.tuple #[.agg #[.int .i64 (A18.bY y n false 30 Y), .int .i64 (A18.bN y n false 30 Y), .bool (A18.bL y n false 30 Y), .int .i64 (A18.bD y n false 30 Y)], .int .i64 (0)]) ∧ Below w.heap.size w w' := by
  have HC := Lib.hid (fun w hT hL => anniv_check y n false 30 Y hy hY w hT hL)
  obtain ⟨hde, h1, h2, hlt⟩ := A18.chk_0 h0
  obtain ⟨hvd, hp⟩ := D10.date_valid hde
  obtain ⟨b1, b2⟩ := (⟨hvd.1, hvd.2.1⟩ : 1 ≤ y ∧ y ≤ 9999)
  rw [h0] at HC
  have HW := Lib.hid (fun w => cycle_Leap_ok y w (by omega) (by omega))
  have HV := Lib.hid (fun w => cycle_Leap_ok Y w (by omega) (by omega))
  have HB := Lib.hid (fun w hT hL => anniv_Birth y n false 30 Y hy ⟨by omega, by omega⟩ hY w hT hL)
  rw [h0] at HB
  have y1 := hy.1
  clear hde hvd hp h0
  generalize A18.bY y n false 30 Y = ry at *
  generalize A18.bN y n false 30 Y = rn at *
  generalize A18.bL y n false 30 Y = rl at *
  generalize A18.bD y n false 30 Y = rd at *
  try generalize Cal.leap y = wl at *
  try generalize Cal.leap Y = il at *
  go_enter Tryo.func53, Tryz.ntmps53
  go_wp2_with fail
  refine (HC.out _ (Tab.below hT bel) (Tab.below hL bel)).mono ?_
  rintro e w1 ⟨rfl, hb1⟩
  obtain ⟨hc1, hf1⟩ := bcell hb1
  have hz1 := hb1.size
  try simp at hz1
  have hs1x0 : w.heap.size < w1.heap.size := by omega
  have hs1x1 : (w.heap.size + 1) < w1.heap.size := by omega
  obtain ⟨g1x0, g1x1, g1x2, g1x3⟩ := cel4a (B := w.heap.size) (a := .int .i64 y) (b := .int .i64 n) (c := .bool false) (d := .int .i64 30) hc1
  obtain ⟨g1x4, g1x5, g1x6, g1x7⟩ := cel4a (B := (w.heap.size + 1)) (a := .int .i64 0) (b := .int .i64 0) (c := .bool false) (d := .int .i64 0) hc1
  go_wp2_with fail
  refine (HW.out _).mono ?_
  rintro e w' ⟨rfl, rfl⟩
  go_wp2_with fail
  refine (HV.out _).mono ?_
  rintro e w' ⟨rfl, rfl⟩
  go_wp2_with fail
  refine (HB.out _ (Tab.below hT bel) (Tab.below hL bel)).mono ?_
  rintro e w3 ⟨rfl, hb3⟩
  obtain ⟨hc3, hf3⟩ := bcell hb3
  have hz3 := hb3.size
  try simp at hz3
  have hs3x0 : (w.heap.size + 1) < w3.heap.size := by omega
  obtain ⟨g3x0, g3x1, g3x2, g3x3⟩ := cel4a (B := (w.heap.size + 1)) (a := .int .i64 0) (b := .int .i64 0) (c := .bool false) (d := .int .i64 0) hc3
  go_wp2_with fail
  refine bodyPost_ret (v := .tuple #[.agg #[.int .i64 (ry), .int .i64 (rn), .bool (rl), .int .i64 (rd)], .int .i64 (0)]) (by simp [results, Tryz.results53, go_sem, *]) rfl ⟨rfl, ?_⟩
  exact bel
set_option maxHeartbeats 4000000 in
theorem anniv_Death_k3 (y : Int) (l : Bool) (d Y : Int) (hy : I64 y) (hd : I64 d) (hY : I64 Y) (w : World) (hT : Tab w 2 kevCells) (hL : Tab w 3 lenCells) (h0 : A18.chkE y 6 l d Y = 0) (d30 : (d == 30) = false) (hw : Cal.leap y = false) (hi : Cal.leap Y = true) :
    Calls Tryo.prog 53 #[.agg #[.int .i64 (y), .int .i64 (6), .bool (l), .int .i64 (d)], .int .i64 Y] w fun e w' => e = .returned (.tuple #[.agg #[.int .i64 (Y), .int .i64 (Cal.ofN (Cal.leap Y) (A18.cM Y 6 d)), .bool (Cal.ofL (Cal.leap Y) (A18.cM Y 6 d)), .int .i64 (A18.cD Y 6 d)], .int .i64 (0)]) ∧ Below w.heap.size w w' := by
  have HC := Lib.hid (fun w hT hL => anniv_check y 6 l d Y hy hY w hT hL)
  obtain ⟨hde, h1, h2, hlt⟩ := A18.chk_0 h0
  obtain ⟨hvd, hp⟩ := D10.date_valid hde
  obtain ⟨b1, b2⟩ := (⟨hvd.1, hvd.2.1⟩ : 1 ≤ y ∧ y ≤ 9999)
  rw [h0] at HC
  have HW := Lib.hid (fun w => cycle_Leap_ok y w (by omega) (by omega))
  have HV := Lib.hid (fun w => cycle_Leap_ok Y w (by omega) (by omega))
  have hk : A18.k3 y 6 Y = true := by unfold A18.k3; simp [hw, hi]
  obtain ⟨_, hv, hD⟩ := A18.six_there h0 hk
  have hb := D10.len_bd Y 6 h1 h2 (by omega) (by rw [hi]; decide)
  obtain ⟨_, _, d1, d2, _⟩ := A18.bir_ok h0
  have v1 : D10.Valid Y 6 1 := ⟨h1, h2, by omega, by rw [hi]; decide, by omega, by omega⟩
  obtain ⟨q0, qD⟩ := D10.valid_date v1
  rw [hi, show Cal.ofN true 6 = 5 by decide, show Cal.ofL true 6 = true by decide] at q0 qD
  rw [← qD] at hD
  have HN := Lib.hid (fun w hT hL => anniv_counted Y 5 true d (A18.cM Y 6 d) (A18.cD Y 6 d) hY w hT hL q0 ⟨d1, d2⟩ hv hD.symm)
  clear hk hv hD hb v1 q0 qD
  have y1 := hy.1
  clear hde hvd hp h0
  rw [hi] at HV
  rw [hw] at HW
  generalize Cal.ofN (Cal.leap Y) (A18.cM Y 6 d) = rn at *
  generalize Cal.ofL (Cal.leap Y) (A18.cM Y 6 d) = rl at *
  generalize A18.cD Y 6 d = rd at *
  clear hi
  clear hw
  try generalize Cal.leap y = wl at *
  try generalize Cal.leap Y = il at *
  go_enter Tryo.func53, Tryz.ntmps53
  go_wp2_with fail
  refine (HC.out _ (Tab.below hT bel) (Tab.below hL bel)).mono ?_
  rintro e w1 ⟨rfl, hb1⟩
  obtain ⟨hc1, hf1⟩ := bcell hb1
  have hz1 := hb1.size
  try simp at hz1
  have hs1x0 : w.heap.size < w1.heap.size := by omega
  have hs1x1 : (w.heap.size + 1) < w1.heap.size := by omega
  obtain ⟨g1x0, g1x1, g1x2, g1x3⟩ := cel4a (B := w.heap.size) (a := .int .i64 y) (b := .int .i64 6) (c := .bool l) (d := .int .i64 d) hc1
  obtain ⟨g1x4, g1x5, g1x6, g1x7⟩ := cel4a (B := (w.heap.size + 1)) (a := .int .i64 0) (b := .int .i64 0) (c := .bool false) (d := .int .i64 0) hc1
  go_wp2_with fail
  refine (HW.out _).mono ?_
  rintro e w' ⟨rfl, rfl⟩
  go_wp2_with fail
  refine (HV.out _).mono ?_
  rintro e w' ⟨rfl, rfl⟩
  go_wp2_with fail
  refine (HN.out _ (Tab.below hT bel) (Tab.below hL bel)).mono ?_
  rintro e w3 ⟨rfl, hb3⟩
  obtain ⟨hc3, hf3⟩ := bcell hb3
  have hz3 := hb3.size
  try simp at hz3
  have hs3x0 : (w.heap.size + 1) < w3.heap.size := by omega
  obtain ⟨g3x0, g3x1, g3x2, g3x3⟩ := cel4a (B := (w.heap.size + 1)) (a := .int .i64 0) (b := .int .i64 0) (c := .bool false) (d := .int .i64 0) hc3
  go_wp2_with fail
  refine bodyPost_ret (v := .tuple #[.agg #[.int .i64 (Y), .int .i64 (rn), .bool (rl), .int .i64 (rd)], .int .i64 (0)]) (by simp [results, Tryz.results53, go_sem, *]) rfl ⟨rfl, ?_⟩
  exact bel
set_option maxHeartbeats 4000000 in
theorem anniv_Death_6w (y : Int) (l : Bool) (d Y : Int) (hy : I64 y) (hd : I64 d) (hY : I64 Y) (w : World) (hT : Tab w 2 kevCells) (hL : Tab w 3 lenCells) (h0 : A18.chkE y 6 l d Y = 0) (d30 : (d == 30) = false) (hw : Cal.leap y = true) :
    Calls Tryo.prog 53 #[.agg #[.int .i64 (y), .int .i64 (6), .bool (l), .int .i64 (d)], .int .i64 Y] w fun e w' => e = .returned (.tuple #[.agg #[.int .i64 (A18.bY y 6 l d Y), .int .i64 (A18.bN y 6 l d Y), .bool (A18.bL y 6 l d Y), .int .i64 (A18.bD y 6 l d Y)], .int .i64 (0)]) ∧ Below w.heap.size w w' := by
  have HC := Lib.hid (fun w hT hL => anniv_check y 6 l d Y hy hY w hT hL)
  obtain ⟨hde, h1, h2, hlt⟩ := A18.chk_0 h0
  obtain ⟨hvd, hp⟩ := D10.date_valid hde
  obtain ⟨b1, b2⟩ := (⟨hvd.1, hvd.2.1⟩ : 1 ≤ y ∧ y ≤ 9999)
  rw [h0] at HC
  have HW := Lib.hid (fun w => cycle_Leap_ok y w (by omega) (by omega))
  have HV := Lib.hid (fun w => cycle_Leap_ok Y w (by omega) (by omega))
  have HB := Lib.hid (fun w hT hL => anniv_Birth y 6 l d Y hy hd hY w hT hL)
  rw [h0] at HB
  have y1 := hy.1
  clear hde hvd hp h0
  rw [hw] at HW
  generalize A18.bY y 6 l d Y = ry at *
  generalize A18.bN y 6 l d Y = rn at *
  generalize A18.bL y 6 l d Y = rl at *
  generalize A18.bD y 6 l d Y = rd at *
  clear hw
  try generalize Cal.leap y = wl at *
  try generalize Cal.leap Y = il at *
  go_enter Tryo.func53, Tryz.ntmps53
  go_wp2_with fail
  refine (HC.out _ (Tab.below hT bel) (Tab.below hL bel)).mono ?_
  rintro e w1 ⟨rfl, hb1⟩
  obtain ⟨hc1, hf1⟩ := bcell hb1
  have hz1 := hb1.size
  try simp at hz1
  have hs1x0 : w.heap.size < w1.heap.size := by omega
  have hs1x1 : (w.heap.size + 1) < w1.heap.size := by omega
  obtain ⟨g1x0, g1x1, g1x2, g1x3⟩ := cel4a (B := w.heap.size) (a := .int .i64 y) (b := .int .i64 6) (c := .bool l) (d := .int .i64 d) hc1
  obtain ⟨g1x4, g1x5, g1x6, g1x7⟩ := cel4a (B := (w.heap.size + 1)) (a := .int .i64 0) (b := .int .i64 0) (c := .bool false) (d := .int .i64 0) hc1
  go_wp2_with fail
  refine (HW.out _).mono ?_
  rintro e w' ⟨rfl, rfl⟩
  go_wp2_with fail
  refine (HV.out _).mono ?_
  rintro e w' ⟨rfl, rfl⟩
  go_wp2_with fail
  refine (HB.out _ (Tab.below hT bel) (Tab.below hL bel)).mono ?_
  rintro e w3 ⟨rfl, hb3⟩
  obtain ⟨hc3, hf3⟩ := bcell hb3
  have hz3 := hb3.size
  try simp at hz3
  have hs3x0 : (w.heap.size + 1) < w3.heap.size := by omega
  obtain ⟨g3x0, g3x1, g3x2, g3x3⟩ := cel4a (B := (w.heap.size + 1)) (a := .int .i64 0) (b := .int .i64 0) (c := .bool false) (d := .int .i64 0) hc3
  go_wp2_with fail
  refine bodyPost_ret (v := .tuple #[.agg #[.int .i64 (ry), .int .i64 (rn), .bool (rl), .int .i64 (rd)], .int .i64 (0)]) (by simp [results, Tryz.results53, go_sem, *]) rfl ⟨rfl, ?_⟩
  exact bel
set_option maxHeartbeats 4000000 in
theorem anniv_Death_6i (y : Int) (l : Bool) (d Y : Int) (hy : I64 y) (hd : I64 d) (hY : I64 Y) (w : World) (hT : Tab w 2 kevCells) (hL : Tab w 3 lenCells) (h0 : A18.chkE y 6 l d Y = 0) (d30 : (d == 30) = false) (hw : Cal.leap y = false) (hi : Cal.leap Y = false) :
    Calls Tryo.prog 53 #[.agg #[.int .i64 (y), .int .i64 (6), .bool (l), .int .i64 (d)], .int .i64 Y] w fun e w' => e = .returned (.tuple #[.agg #[.int .i64 (A18.bY y 6 l d Y), .int .i64 (A18.bN y 6 l d Y), .bool (A18.bL y 6 l d Y), .int .i64 (A18.bD y 6 l d Y)], .int .i64 (0)]) ∧ Below w.heap.size w w' := by
  have HC := Lib.hid (fun w hT hL => anniv_check y 6 l d Y hy hY w hT hL)
  obtain ⟨hde, h1, h2, hlt⟩ := A18.chk_0 h0
  obtain ⟨hvd, hp⟩ := D10.date_valid hde
  obtain ⟨b1, b2⟩ := (⟨hvd.1, hvd.2.1⟩ : 1 ≤ y ∧ y ≤ 9999)
  rw [h0] at HC
  have HW := Lib.hid (fun w => cycle_Leap_ok y w (by omega) (by omega))
  have HV := Lib.hid (fun w => cycle_Leap_ok Y w (by omega) (by omega))
  have HB := Lib.hid (fun w hT hL => anniv_Birth y 6 l d Y hy hd hY w hT hL)
  rw [h0] at HB
  have y1 := hy.1
  clear hde hvd hp h0
  rw [hi] at HV
  rw [hw] at HW
  generalize A18.bY y 6 l d Y = ry at *
  generalize A18.bN y 6 l d Y = rn at *
  generalize A18.bL y 6 l d Y = rl at *
  generalize A18.bD y 6 l d Y = rd at *
  clear hi
  clear hw
  try generalize Cal.leap y = wl at *
  try generalize Cal.leap Y = il at *
  go_enter Tryo.func53, Tryz.ntmps53
  go_wp2_with fail
  refine (HC.out _ (Tab.below hT bel) (Tab.below hL bel)).mono ?_
  rintro e w1 ⟨rfl, hb1⟩
  obtain ⟨hc1, hf1⟩ := bcell hb1
  have hz1 := hb1.size
  try simp at hz1
  have hs1x0 : w.heap.size < w1.heap.size := by omega
  have hs1x1 : (w.heap.size + 1) < w1.heap.size := by omega
  obtain ⟨g1x0, g1x1, g1x2, g1x3⟩ := cel4a (B := w.heap.size) (a := .int .i64 y) (b := .int .i64 6) (c := .bool l) (d := .int .i64 d) hc1
  obtain ⟨g1x4, g1x5, g1x6, g1x7⟩ := cel4a (B := (w.heap.size + 1)) (a := .int .i64 0) (b := .int .i64 0) (c := .bool false) (d := .int .i64 0) hc1
  go_wp2_with fail
  refine (HW.out _).mono ?_
  rintro e w' ⟨rfl, rfl⟩
  go_wp2_with fail
  refine (HV.out _).mono ?_
  rintro e w' ⟨rfl, rfl⟩
  go_wp2_with fail
  refine (HB.out _ (Tab.below hT bel) (Tab.below hL bel)).mono ?_
  rintro e w3 ⟨rfl, hb3⟩
  obtain ⟨hc3, hf3⟩ := bcell hb3
  have hz3 := hb3.size
  try simp at hz3
  have hs3x0 : (w.heap.size + 1) < w3.heap.size := by omega
  obtain ⟨g3x0, g3x1, g3x2, g3x3⟩ := cel4a (B := (w.heap.size + 1)) (a := .int .i64 0) (b := .int .i64 0) (c := .bool false) (d := .int .i64 0) hc3
  go_wp2_with fail
  refine bodyPost_ret (v := .tuple #[.agg #[.int .i64 (ry), .int .i64 (rn), .bool (rl), .int .i64 (rd)], .int .i64 (0)]) (by simp [results, Tryz.results53, go_sem, *]) rfl ⟨rfl, ?_⟩
  exact bel
set_option maxHeartbeats 4000000 in
theorem anniv_Death_dp (y n : Int) (l : Bool) (d Y : Int) (hy : I64 y) (hd : I64 d) (hY : I64 Y) (w : World) (hT : Tab w 2 kevCells) (hL : Tab w 3 lenCells) (h0 : A18.chkE y n l d Y = 0) (d30 : (d == 30) = false) (n6 : (n == 6) = false) :
    Calls Tryo.prog 53 #[.agg #[.int .i64 (y), .int .i64 (n), .bool (l), .int .i64 (d)], .int .i64 Y] w fun e w' => e = .returned (.tuple #[.agg #[.int .i64 (A18.bY y n l d Y), .int .i64 (A18.bN y n l d Y), .bool (A18.bL y n l d Y), .int .i64 (A18.bD y n l d Y)], .int .i64 (0)]) ∧ Below w.heap.size w w' := by
  have HC := Lib.hid (fun w hT hL => anniv_check y n l d Y hy hY w hT hL)
  obtain ⟨hde, h1, h2, hlt⟩ := A18.chk_0 h0
  obtain ⟨hvd, hp⟩ := D10.date_valid hde
  obtain ⟨b1, b2⟩ := (⟨hvd.1, hvd.2.1⟩ : 1 ≤ y ∧ y ≤ 9999)
  rw [h0] at HC
  have HW := Lib.hid (fun w => cycle_Leap_ok y w (by omega) (by omega))
  have HV := Lib.hid (fun w => cycle_Leap_ok Y w (by omega) (by omega))
  have HB := Lib.hid (fun w hT hL => anniv_Birth y n l d Y hy hd hY w hT hL)
  rw [h0] at HB
  have y1 := hy.1
  clear hde hvd hp h0
  generalize A18.bY y n l d Y = ry at *
  generalize A18.bN y n l d Y = rn at *
  generalize A18.bL y n l d Y = rl at *
  generalize A18.bD y n l d Y = rd at *
  try generalize Cal.leap y = wl at *
  try generalize Cal.leap Y = il at *
  go_enter Tryo.func53, Tryz.ntmps53
  go_wp2_with fail
  refine (HC.out _ (Tab.below hT bel) (Tab.below hL bel)).mono ?_
  rintro e w1 ⟨rfl, hb1⟩
  obtain ⟨hc1, hf1⟩ := bcell hb1
  have hz1 := hb1.size
  try simp at hz1
  have hs1x0 : w.heap.size < w1.heap.size := by omega
  have hs1x1 : (w.heap.size + 1) < w1.heap.size := by omega
  obtain ⟨g1x0, g1x1, g1x2, g1x3⟩ := cel4a (B := w.heap.size) (a := .int .i64 y) (b := .int .i64 n) (c := .bool l) (d := .int .i64 d) hc1
  obtain ⟨g1x4, g1x5, g1x6, g1x7⟩ := cel4a (B := (w.heap.size + 1)) (a := .int .i64 0) (b := .int .i64 0) (c := .bool false) (d := .int .i64 0) hc1
  go_wp2_with fail
  refine (HW.out _).mono ?_
  rintro e w' ⟨rfl, rfl⟩
  go_wp2_with fail
  refine (HV.out _).mono ?_
  rintro e w' ⟨rfl, rfl⟩
  go_wp2_with fail
  refine (HB.out _ (Tab.below hT bel) (Tab.below hL bel)).mono ?_
  rintro e w3 ⟨rfl, hb3⟩
  obtain ⟨hc3, hf3⟩ := bcell hb3
  have hz3 := hb3.size
  try simp at hz3
  have hs3x0 : (w.heap.size + 1) < w3.heap.size := by omega
  obtain ⟨g3x0, g3x1, g3x2, g3x3⟩ := cel4a (B := (w.heap.size + 1)) (a := .int .i64 0) (b := .int .i64 0) (c := .bool false) (d := .int .i64 0) hc3
  go_wp2_with fail
  refine bodyPost_ret (v := .tuple #[.agg #[.int .i64 (ry), .int .i64 (rn), .bool (rl), .int .i64 (rd)], .int .i64 (0)]) (by simp [results, Tryz.results53, go_sem, *]) rfl ⟨rfl, ?_⟩
  exact bel
theorem anniv_Death (y n : Int) (l : Bool) (d Y : Int) (hy : I64 y) (hd : I64 d) (hY : I64 Y) (w : World) (hT : Tab w 2 kevCells) (hL : Tab w 3 lenCells) :
    Calls Tryo.prog 53 #[.agg #[.int .i64 (y), .int .i64 (n), .bool (l), .int .i64 (d)], .int .i64 Y] w fun e w' => e = .returned (.tuple #[.agg #[.int .i64 (A18.bY y n l d Y), .int .i64 (A18.tN y n l d Y), .bool (A18.tL y n l d Y), .int .i64 (A18.tD y n l d Y)], .int .i64 (A18.chkE y n l d Y)]) ∧ Below w.heap.size w w' := by
  by_cases h0 : A18.chkE y n l d Y = 0
  · have hY0 : A18.bY y n l d Y = Y := by unfold A18.bY; rw [if_pos h0]
    obtain ⟨hde, _, _, _⟩ := A18.chk_0 h0
    have hr := A18.right_of (D10.date_valid hde).2
    rw [h0]
    have kb : ∀ (c1 : ¬ A18.k1 y n l d = true) (c2 : ¬ A18.k2 l d Y = true) (c3 : ¬ A18.k3 y n Y = true), Calls Tryo.prog 53 #[.agg #[.int .i64 (y), .int .i64 (n), .bool (l), .int .i64 (d)], .int .i64 Y] w (fun e w' => e = .returned (.tuple #[.agg #[.int .i64 (A18.bY y n l d Y), .int .i64 (A18.bN y n l d Y), .bool (A18.bL y n l d Y), .int .i64 (A18.bD y n l d Y)], .int .i64 (0)]) ∧ Below w.heap.size w w') → Calls Tryo.prog 53 #[.agg #[.int .i64 (y), .int .i64 (n), .bool (l), .int .i64 (d)], .int .i64 Y] w (fun e w' => e = .returned (.tuple #[.agg #[.int .i64 (A18.bY y n l d Y), .int .i64 (A18.tN y n l d Y), .bool (A18.tL y n l d Y), .int .i64 (A18.tD y n l d Y)], .int .i64 (0)]) ∧ Below w.heap.size w w') := by
      intro c1 c2 c3 H
      obtain ⟨e1, e2, e3⟩ := A18.dth_b h0 c1 c2 c3
      rw [e1, e2, e3]; exact H
    by_cases hd30 : d = 30
    · subst hd30
      have n6 : ¬ n = 6 := fun c => by subst c; have := A18.six_short hde; omega
      have c3 : ¬ A18.k3 y n Y = true := fun c => by unfold A18.k3 at c; simp at c; omega
      by_cases hn : n = 2 ∨ n = 3
      · have hl := (A18.two_there (lp := true) hr hn Y).1
        subst hl
        have c2 : ¬ A18.k2 false 30 Y = true := fun c => by unfold A18.k2 at c; simp at c
        by_cases hlt : D10.lastV (y + 1) n false < 30
        · have c1 : A18.k1 y n false 30 = true := by unfold A18.k1; rcases hn with rfl | rfl <;> simp [hlt]
          obtain ⟨e1, e2, e3⟩ := A18.dth_k1 h0 c1
          rw [e1, e2, e3, hY0]
          rcases hn with rfl | rfl
          · exact anniv_Death_a2 y Y hy hY w hT hL h0 (by simpa using hlt)
          · exact anniv_Death_a3 y Y hy hY w hT hL h0 (by simpa using hlt)
        · have c1 : ¬ A18.k1 y n false 30 = true := fun c => hlt (A18.k1_in c).2.2
          refine kb c1 c2 c3 ?_
          rcases hn with rfl | rfl
          · exact anniv_Death_c2 y Y hy hY w hT hL h0 (by simpa using hlt)
          · exact anniv_Death_c3 y Y hy hY w hT hL h0 (by simpa using hlt)
      · have c1 : ¬ A18.k1 y n l 30 = true := fun c => hn (A18.k1_in c).2.1
        have m2 : (n == 2) = false := by simp; omega
        have m3 : (n == 3) = false := by simp; omega
        have m6 : (n == 6) = false := by simp; omega
        cases hl : l with
        | true =>
          subst hl
          cases hi : Cal.leap Y with
          | false =>
            obtain ⟨e1, e2, e3⟩ := A18.dth_k2 h0 c1 (by unfold A18.k2; simp [hi])
            rw [e1, e2, e3, hY0]
            exact anniv_Death_bl y n Y hy hY w hT hL h0 m2 m3 hi
          | true => exact kb c1 (fun c => by unfold A18.k2 at c; simp [hi] at c) c3 (anniv_Death_bll y n Y hy hY w hT hL h0 m2 m3 m6 hi)
        | false =>
          subst hl
          exact kb c1 (fun c => by unfold A18.k2 at c; simp at c) c3 (anniv_Death_bp y n Y hy hY w hT hL h0 m2 m3 m6)
    · have md : (d == 30) = false := by simpa using hd30
      have c1 : ¬ A18.k1 y n l d = true := fun c => hd30 (A18.k1_in c).1
      have c2 : ¬ A18.k2 l d Y = true := fun c => by unfold A18.k2 at c; simp at c; omega
      by_cases n6 : n = 6
      · subst n6
        cases hw : Cal.leap y with
        | true => exact kb c1 c2 (fun c => by unfold A18.k3 at c; simp [hw] at c) (anniv_Death_6w y l d Y hy hd hY w hT hL h0 md hw)
        | false =>
          cases hi : Cal.leap Y with
          | false => exact kb c1 c2 (fun c => by unfold A18.k3 at c; simp [hi] at c) (anniv_Death_6i y l d Y hy hd hY w hT hL h0 md hw hi)
          | true =>
            obtain ⟨e1, e2, e3⟩ := A18.dth_k3 h0 c1 c2 (by unfold A18.k3; simp [hw, hi])
            rw [e1, e2, e3, hY0]
            exact anniv_Death_k3 y l d Y hy hd hY w hT hL h0 md hw hi
      · exact kb c1 c2 (fun c => by unfold A18.k3 at c; simp at c; omega) (anniv_Death_dp y n l d Y hy hd hY w hT hL h0 md (by simpa using n6))
  · have e : A18.bY y n l d Y = 0 ∧ A18.tN y n l d Y = 0 ∧ A18.tL y n l d Y = false ∧ A18.tD y n l d Y = 0 := by
      unfold A18.bY A18.tN A18.tL A18.tD; rw [if_neg h0, if_neg h0, if_neg h0, if_neg h0]; exact ⟨rfl, rfl, rfl, rfl⟩
    rw [e.1, e.2.1, e.2.2.1, e.2.2.2]
    exact anniv_Death_err y n l d Y hy hd hY w hT hL h0
end Go.Proofs.YtaaaalbgjpjgoaaGreatDoor
end
