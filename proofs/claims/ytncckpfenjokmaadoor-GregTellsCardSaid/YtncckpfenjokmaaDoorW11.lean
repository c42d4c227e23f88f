/- Layer 11: dates and days, as plain arithmetic; the laws' example. -/
import Derived.Test.YtncckpfenjokmaaDoorGreg8
namespace Go.Proofs.YtncckpfenjokmaaDoor
open Go.ChangeShapes Go.WideShapes Go.ChangeAt Go.RowKit
set_option linter.unusedVariables false
set_option maxRecDepth 100000
namespace Gr
def Valid (y m d : Int) : Prop := 1 ≤ m ∧ m ≤ 12 ∧ 1 ≤ d ∧ d ≤ days y m
theorem ml_nn (y : Int) : ∀ x ∈ ml y, 0 ≤ x := fun x hx => by have := ml_bd y x hx; omega
theorem before_up (y m : Int) (h1 : 1 ≤ m) (h2 : m ≤ 12) : before y (m + 1) = before y m + days y m := by
  obtain ⟨x, e1, e2, _⟩ := ml_at y (m - 1).toNat (by omega)
  have := sum_take (ml y) (m - 1).toNat x e1
  rw [show (((m - 1).toNat : Nat) : Int) + 1 = m by omega] at e2
  unfold before
  rw [show (m + 1 - 1).toNat = (m - 1).toNat + 1 by omega, this, e2]
theorem before_one (y : Int) : before y 1 = 0 := rfl
theorem before_end (y : Int) : before y 13 = long y := by
  unfold before
  rw [← ml_sum]
  rfl
theorem year_one (y D : Int) (h1 : ahead y < D) (h2 : D ≤ ahead (y + 1)) : gY D = y := by
  obtain ⟨a, b, _⟩ := gY_spec D
  by_cases c : gY D < y
  · have := ahead_le (gY D + 1) y (by omega); omega
  · by_cases c' : y < gY D
    · have := ahead_le (y + 1) (gY D) (by omega); omega
    · omega
theorem date_of {y m d : Int} (h : Valid y m d) : gY (dayOf y m d) = y ∧ gF (dayOf y m d) = (m, d, true) := by
  obtain ⟨h1, h2, h3, h4⟩ := h
  obtain ⟨x, e1, e2, e3, e4⟩ := ml_at y (m - 1).toNat (by omega)
  rw [show (((m - 1).toNat : Nat) : Int) + 1 = m by omega] at e2
  have t1 := take_bd y (m - 1).toNat (by omega)
  have t2 := sum_take (ml y) (m - 1).toNat x e1
  have t3 := D10.take_mono (ml y) (ml_nn y) ((m - 1).toNat + 1) (12 - ((m - 1).toNat + 1))
  rw [show (m - 1).toNat + 1 + (12 - ((m - 1).toNat + 1)) = 12 by omega, List.take_of_length_le (show (ml y).length ≤ 12 from Nat.le_refl _), ml_sum] at t3
  have hu := ahead_up y
  have hd : dayOf y m d = ahead y + d + ((ml y).take (m - 1).toNat).sum := rfl
  have hy : gY (dayOf y m d) = y := year_one y _ (by omega) (by omega)
  refine ⟨hy, ?_⟩
  obtain ⟨_, _, s⟩ := gY_spec (dayOf y m d)
  have f := D10.findL_in d h3 (m - 1).toNat (ml y) 1 x (ml_nn y) e1 (by omega)
  unfold gF
  rw [hy] at s ⊢
  rw [show leftV (dayOf y m d - 1) + 1 = ((ml y).take (m - 1).toNat).sum + d by omega, f]
  simp only [Prod.mk.injEq, and_true]
  omega
theorem day_there (D : Int) : ∃ y m d, Valid y m d ∧ D = dayOf y m d := by
  obtain ⟨a, b, c⟩ := gY_spec D
  have hu := ahead_up (gY D)
  have hs := ml_sum (gY D)
  obtain ⟨j, x, q, e1, e2, e3, e4⟩ := D10.sum_there (ml (gY D)) (D - ahead (gY D)) (by omega) (by omega)
  have hj : j < 12 := (List.getElem?_eq_some_iff.1 e1).1
  obtain ⟨x', f1, f2, _⟩ := ml_at (gY D) j hj
  rw [e1] at f1
  cases f1
  refine ⟨gY D, (j : Int) + 1, q, ⟨by omega, by omega, e2, by omega⟩, ?_⟩
  unfold dayOf before
  rw [show ((j : Int) + 1 - 1).toNat = j by omega]
  omega
theorem year_in {y m d : Int} (h : Valid y m d) (b1 : -1373427 ≤ dayOf y m d) (b2 : dayOf y m d ≤ 2278650) : -4000 ≤ y ∧ y ≤ 6500 := by
  obtain ⟨h1, h2, h3, h4⟩ := h
  have t1 := take_bd y (m - 1).toNat (by omega)
  have hd : dayOf y m d = ahead y + d + ((ml y).take (m - 1).toNat).sum := rfl
  have hdd : d ≤ 31 := by
    obtain ⟨x, e1, e2, e3, e4⟩ := ml_at y (m - 1).toNat (by omega)
    rw [show (((m - 1).toNat : Nat) : Int) + 1 = m by omega] at e2
    omega
  unfold ahead at hd
  omega
theorem gt_valid {y m d : Int} (h : Valid y m d) (b1 : -1373427 ≤ dayOf y m d) (b2 : dayOf y m d ≤ 2278650) : gtE y m d = 0 ∧ gtV y m d = dayOf y m d := by
  have hy := year_in h b1 b2
  obtain ⟨h1, h2, h3, h4⟩ := h
  have e : gtE y m d = 0 := by unfold gtE; rw [if_neg (by omega), if_neg (by omega), if_neg (by omega), if_neg (by omega)]
  exact ⟨e, by unfold gtV; rw [e, if_pos rfl]⟩
theorem valid_gt {y m d : Int} (h : gtE y m d = 0) : Valid y m d ∧ gtV y m d = dayOf y m d ∧ -1373427 ≤ dayOf y m d ∧ dayOf y m d ≤ 2278650 := by
  have hv : gtV y m d = dayOf y m d := by unfold gtV; rw [h, if_pos rfl]
  unfold gtE at h
  split at h
  · omega
  · split at h
    · omega
    · split at h
      · omega
      · split at h
        · omega
        · exact ⟨⟨by omega, by omega, by omega, by omega⟩, hv, by omega, by omega⟩
theorem next_day {y m d : Int} (h : Valid y m d) : (d < days y m ∧ Valid y m (d + 1) ∧ dayOf y m (d + 1) = dayOf y m d + 1) ∨ (d = days y m ∧ m < 12 ∧ Valid y (m + 1) 1 ∧ dayOf y (m + 1) 1 = dayOf y m d + 1) ∨ (d = days y m ∧ m = 12 ∧ Valid (y + 1) 1 1 ∧ dayOf (y + 1) 1 1 = dayOf y m d + 1) := by
  obtain ⟨h1, h2, h3, h4⟩ := h
  by_cases c : d < days y m
  · exact .inl ⟨c, ⟨h1, h2, by omega, by omega⟩, by unfold dayOf; omega⟩
  · have hb := before_up y m h1 h2
    by_cases c2 : m < 12
    · refine .inr (.inl ⟨by omega, c2, ⟨by omega, by omega, by omega, ?_⟩, by unfold dayOf; omega⟩)
      obtain ⟨x, e1, e2, e3, e4⟩ := ml_at y m.toNat (by omega)
      rw [show ((m.toNat : Nat) : Int) = m by omega] at e2
      omega
    · obtain rfl : m = 12 := by omega
      rw [show (12 : Int) + 1 = 13 from rfl] at hb
      have := before_end y
      have := ahead_up y
      have := before_one (y + 1)
      refine .inr (.inr ⟨by omega, rfl, ⟨by omega, by omega, by omega, ?_⟩, by unfold dayOf; omega⟩)
      obtain ⟨x, e1, e2, e3, e4⟩ := ml_at (y + 1) 0 (by omega)
      have e2 : days (y + 1) 1 = x := e2
      omega
theorem less_next {y m d z k f : Int} (h : Valid y m d) (h' : Valid z k f) (e : dayOf z k f = dayOf y m d + 1) : greg_LessV y m d z k f = true := by
  have u : ∀ {a b c : Int}, Valid a b c → dayOf a b c = dayOf y m d + 1 → z = a ∧ k = b ∧ f = c := fun {a b c} hv he => by
    have p := date_of h'
    have q := date_of hv
    rw [e] at p
    rw [he] at q
    have h1 : z = a := p.1.symm.trans q.1
    have h2 := p.2.symm.trans q.2
    simp only [Prod.mk.injEq, and_true] at h2
    exact ⟨h1, h2.1, h2.2⟩
  rcases next_day h with ⟨a, b, c⟩ | ⟨a, b, c, g⟩ | ⟨a, b, c, g⟩
  · obtain ⟨rfl, rfl, rfl⟩ := u b c
    unfold greg_LessV; rw [if_pos rfl, if_pos rfl]; exact decide_eq_true (by omega)
  · obtain ⟨rfl, rfl, rfl⟩ := u c g
    unfold greg_LessV; rw [if_pos rfl, if_neg (by omega)]; exact decide_eq_true (by omega)
  · obtain ⟨rfl, rfl, rfl⟩ := u c g
    unfold greg_LessV; rw [if_neg (by omega)]; exact decide_eq_true (by omega)
theorem leap_400 (y : Int) : leap (y + 400) = leap y := by
  unfold leap
  rw [show (y + 400) % 4 = y % 4 by omega, show (y + 400) % 100 = y % 100 by omega, show (y + 400) % 400 = y % 400 by omega]
theorem round_400 {y m d : Int} (h : Valid y m d) : Valid (y + 400) m d ∧ dayOf (y + 400) m d = dayOf y m d + 146097 := by
  have hd : days (y + 400) m = days y m := by unfold days; rw [leap_400]
  have hm : ml (y + 400) = ml y := by unfold ml; rw [leap_400]
  refine ⟨⟨h.1, h.2.1, h.2.2.1, by rw [hd]; exact h.2.2.2⟩, ?_⟩
  unfold dayOf before ahead
  rw [hm]
  omega
end Gr
theorem greg_FromDay_v (y m d : Int) (w : World) (hG : Tab w 0 Gr.gregCells) (hv : Gr.Valid y m d) (b1 : -1373427 ≤ Gr.dayOf y m d) (b2 : Gr.dayOf y m d ≤ 2278650) :
    Calls Tryd.prog 21 #[.int .i64 (Gr.dayOf y m d)] w fun e w' => e = .returned (.tuple #[.agg #[.int .i64 y, .int .i64 m, .int .i64 d], .int .i64 0]) ∧ Below w.heap.size w w' := by
  have := greg_FromDay_at (Gr.dayOf y m d) w hG b1 b2
  rwa [(Gr.date_of hv).1, (Gr.date_of hv).2] at this
theorem ref11_FromDay_v (y m d : Int) (w : World) (hv : Gr.Valid y m d) (b1 : -1373427 ≤ Gr.dayOf y m d) (b2 : Gr.dayOf y m d ≤ 2278650) :
    Calls Tryd.prog 22 #[.int .i64 (Gr.dayOf y m d)] w fun e w' => e = .returned (.tuple #[.agg #[.int .i64 y, .int .i64 m, .int .i64 d], .int .i64 0]) ∧ Below w.heap.size w w' := by
  have := ref11_FromDay_at (Gr.dayOf y m d) w b1 b2
  rwa [(Gr.date_of hv).1, (Gr.date_of hv).2] at this
theorem greg_ToDay_2024 (w : World) (hG : Tab w 0 Gr.gregCells) : Calls Tryd.prog 19 #[.agg #[.int .i64 2024, .int .i64 10, .int .i64 3]] w fun e w' => e = .returned (.tuple #[.int .i64 739162, .int .i64 0]) ∧ Below w.heap.size w w' := by
  have := greg_ToDay 2024 10 3 w hG
  rwa [show Gr.gtV 2024 10 3 = 739162 by decide +kernel, show Gr.gtE 2024 10 3 = 0 by decide +kernel] at this
theorem greg_ToDay_2023 (w : World) (hG : Tab w 0 Gr.gregCells) : Calls Tryd.prog 19 #[.agg #[.int .i64 2023, .int .i64 2, .int .i64 29]] w fun e w' => e = .returned (.tuple #[.int .i64 0, .int .i64 4]) ∧ Below w.heap.size w w' := by
  have := greg_ToDay 2023 2 29 w hG
  rwa [show Gr.gtV 2023 2 29 = 0 by decide +kernel, show Gr.gtE 2023 2 29 = 4 by decide +kernel] at this
theorem greg_FromDay_2024 (w : World) (hG : Tab w 0 Gr.gregCells) : Calls Tryd.prog 21 #[.int .i64 739162] w fun e w' => e = .returned (.tuple #[.agg #[.int .i64 2024, .int .i64 10, .int .i64 3], .int .i64 0]) ∧ Below w.heap.size w w' := by
  have := greg_FromDay_at 739162 w hG (by omega) (by omega)
  rwa [show Gr.gY 739162 = 2024 by decide +kernel, show Gr.gF 739162 = (10, 3, true) by decide +kernel] at this
set_option maxHeartbeats 1000000 in
theorem awake11 (w : World) (hG : Tab w 0 Gr.gregCells) : Calls Tryd.prog 23 #[] w fun e w' => e = .returned (.bool true) ∧ Below w.heap.size w w' := by
  go_enter Tryd.func23, Tryd.ntmps23
  go_wp2_with fail
  refine (greg_ToDay_2024 _ (Tab.below hG (by repeat (first | (with_reducible exact Below.refl _ _) | assumption | (with_reducible refine bdrew ?_) | (with_reducible refine baa ?_ _) | (with_reducible refine bs ?_ (by first | exact Nat.le_refl _ | omega | (simp; omega)) _) | (with_reducible refine bt ?_ (by assumption)))))).mono ?_
  rintro e w1 ⟨rfl, hb1⟩
  obtain ⟨hc1, hf1⟩ := bcell hb1
  have hz1 := hb1.size
  try simp at hz1
  go_wp2_with fail
  refine (greg_FromDay_2024 _ (Tab.below hG (by repeat (first | (with_reducible exact Below.refl _ _) | assumption | (with_reducible refine bdrew ?_) | (with_reducible refine baa ?_ _) | (with_reducible refine bs ?_ (by first | exact Nat.le_refl _ | omega | (simp; omega)) _) | (with_reducible refine bt ?_ (by assumption)))))).mono ?_
  rintro e w2 ⟨rfl, hb2⟩
  obtain ⟨hc2, hf2⟩ := bcell hb2
  have hz2 := hb2.size
  try simp at hz2
  go_wp2_with fail
  refine (greg_ToDay_2023 _ (Tab.below hG (by repeat (first | (with_reducible exact Below.refl _ _) | assumption | (with_reducible refine bdrew ?_) | (with_reducible refine baa ?_ _) | (with_reducible refine bs ?_ (by first | exact Nat.le_refl _ | omega | (simp; omega)) _) | (with_reducible refine bt ?_ (by assumption)))))).mono ?_
  rintro e w3 ⟨rfl, hb3⟩
  obtain ⟨hc3, hf3⟩ := bcell hb3
  have hz3 := hb3.size
  try simp at hz3
  have hl3w2 : w2.heap.size < w3.heap.size := by omega
  have hm3w2 : w2.heap.size ≤ w3.heap.size := by omega
  have g3x0 : w3.cell? ⟨w2.heap.size, 0, none⟩ = some (.int .i64 2024) := (hc3 _ _ (by first | omega | (simp; done) | (simp; omega))).trans (by first | assumption | simp [go_sem] | simp [go_sem, *])
  have g3x1 : w3.cell? ⟨w2.heap.size, 1, none⟩ = some (.int .i64 10) := (hc3 _ _ (by first | omega | (simp; done) | (simp; omega))).trans (by first | assumption | simp [go_sem] | simp [go_sem, *])
  have g3x2 : w3.cell? ⟨w2.heap.size, 2, none⟩ = some (.int .i64 3) := (hc3 _ _ (by first | omega | (simp; done) | (simp; omega))).trans (by first | assumption | simp [go_sem] | simp [go_sem, *])
  go_wp2_with fail
  go_ret
  refine ⟨rfl, ?_⟩
  repeat (first | (with_reducible exact Below.refl _ _) | assumption | (with_reducible refine bdrew ?_) | (with_reducible refine baa ?_ _) | (with_reducible refine bs ?_ (by first | exact Nat.le_refl _ | omega | (simp; omega)) _) | (with_reducible refine bt ?_ (by assumption)))
end Go.Proofs.YtncckpfenjokmaaDoor
