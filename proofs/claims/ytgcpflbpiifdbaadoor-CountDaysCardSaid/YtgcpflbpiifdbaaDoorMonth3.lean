/- Layer 8: how many months, and their days. -/
import Derived.Test.YtgcpflbpiifdbaaDoorMonth2
import Derived.LoopTactic
namespace Go.Proofs.YtgcpflbpiifdbaaDoor
open Go.ChangeShapes Go.WideShapes Go.ChangeAt Go.RowKit
set_option linter.unusedVariables false
set_option maxRecDepth 100000
def cnt (b k : Int) (l : Bool) : Int := if number b k l = 0 then 0 else if l then 13 else 12
def has (b k : Int) (l : Bool) (m : Int) : Bool := decide (1 ≤ m) && decide (m ≤ cnt b k l)
def daysV (b k : Int) (l : Bool) (m : Int) : Int := if has b k l m then (lens k l).getD (m - 1).toNat 0 else 0
def aheadV (b k : Int) (l : Bool) (m : Int) : Int := if has b k l m then ((lens k l).take (m - 1).toNat).sum else 0
def findL : List Int → Int → Int → Int × Int × Bool
  | [], _, _ => (0, 0, false)
  | x :: r, i, n => if n ≤ x then (i, n, true) else findL r (i + 1) (n - x)
def findV (b k : Int) (l : Bool) (n : Int) : Int × Int × Bool := if n < 1 then (0, 0, false) else findL ((lens k l).take (cnt b k l).toNat) 1 n
theorem lens_len (k : Int) (l : Bool) : (lens k l).length = if l then 13 else 12 := by cases l <;> simp [lens]
theorem numFrom_bd (b k : Int) (l : Bool) : ∀ n i : Nat, 0 ≤ numFrom b k l n i
  | 0, _ => by simp [numFrom]
  | n + 1, i => by
    have := numFrom_bd b k l n (i + 1)
    simp only [numFrom]
    split <;> omega
theorem number_nn (b k : Int) (l : Bool) : 0 ≤ number b k l := numFrom_bd b k l 14 0
theorem cnt_bd (b k : Int) (l : Bool) : 0 ≤ cnt b k l ∧ cnt b k l ≤ 13 := by unfold cnt; split <;> (try split) <;> omega
theorem cnt_le (b k : Int) (l : Bool) : cnt b k l ≤ (lens k l).length := by rw [lens_len]; unfold cnt; split <;> cases l <;> simp
theorem cnt_no (b k : Int) (l : Bool) (h : number b k l = 0) : cnt b k l = 0 := by unfold cnt; rw [if_pos h]
theorem cnt_yes (b k : Int) (l : Bool) (h : number b k l ≠ 0) : cnt b k l = (lens k l).length := by rw [lens_len]; unfold cnt; rw [if_neg h]; cases l <;> rfl
theorem lens_bd (k : Int) (l : Bool) : ∀ x ∈ lens k l, 29 ≤ x ∧ x ≤ 30 := by
  intro x hx
  simp only [lens, List.mem_append, List.mem_cons, List.not_mem_nil, or_false] at hx
  rcases hx with (h | h | h | h | h) | h | h
  · omega
  · split at h <;> omega
  · split at h <;> omega
  · omega
  · omega
  · cases l <;> simp at h; omega
  · omega
theorem lens_at (k : Int) (l : Bool) (j : Nat) (hj : j < (lens k l).length) : ∃ x, (lens k l)[j]? = some x ∧ (lens k l).getD j 0 = x ∧ 29 ≤ x ∧ x ≤ 30 := by
  refine ⟨_, List.getElem?_eq_getElem hj, by simp [List.getD, List.getElem?_eq_getElem hj], lens_bd k l _ (List.getElem_mem hj)⟩
theorem sum_take (xs : List Int) (j : Nat) (x : Int) (h : xs[j]? = some x) : (xs.take (j + 1)).sum = (xs.take j).sum + x := by
  rw [List.take_add_one, h]; simp
theorem sum_bd (xs : List Int) (h : ∀ x ∈ xs, 29 ≤ x ∧ x ≤ 30) : ∀ j : Nat, 0 ≤ (xs.take j).sum ∧ (xs.take j).sum ≤ 30 * j
  | 0 => by simp
  | j + 1 => by
    have ih := sum_bd xs h j
    cases hj : xs[j]? with
    | none => rw [List.take_add_one, hj]; simp; omega
    | some x =>
      have := h x (List.mem_of_getElem? hj)
      rw [sum_take xs j x hj]; omega
theorem findL_step (xs : List Int) (j : Nat) (x i n : Int) (h : xs[j]? = some x) (hx : ¬ n ≤ x) : findL (xs.drop j) i n = findL (xs.drop (j + 1)) (i + 1) (n - x) := by
  have hl := (List.getElem?_eq_some_iff.1 h).1
  rw [List.drop_eq_getElem_cons hl, findL, (List.getElem?_eq_some_iff.1 h).2, if_neg hx]
theorem findL_hit (xs : List Int) (j : Nat) (x i n : Int) (h : xs[j]? = some x) (hx : n ≤ x) : findL (xs.drop j) i n = (i, n, true) := by
  have hl := (List.getElem?_eq_some_iff.1 h).1
  rw [List.drop_eq_getElem_cons hl, findL, (List.getElem?_eq_some_iff.1 h).2, if_pos hx]
theorem findL_end (xs : List Int) (j : Nat) (i n : Int) (h : xs.length ≤ j) : findL (xs.drop j) i n = (0, 0, false) := by
  rw [List.drop_eq_nil_of_le h]; rfl
set_option maxHeartbeats 1000000 in
theorem month_Count (b k : Int) (l : Bool) (w : World) (hT : Tab w 1 kevCells) :
    Calls Tryd.prog 65 #[.agg #[.int .i64 b, .int .i64 k, .bool l]] w fun e w' => e = .returned (.int .i64 (cnt b k l)) ∧ Below w.heap.size w w' := by
  have hN := fun (w : World) (h : Tab w 1 kevCells) => keviah_Number_any b k l w h
  by_cases h : number b k l = 0
  · rw [cnt_no b k l h]
    rw [h] at hN
    have HN := Lib.hid hN
    clear hN h
    go_enter Tryd.func65, Tryd.ntmps65
    go_wp2_with fail
    refine (HN.out _ (Tab.below hT (ba _ _))).mono ?_
    rintro e w1 ⟨rfl, hb1⟩
    obtain ⟨hc1, hf1⟩ := bcell hb1
    have hz1 := hb1.size
    try simp at hz1
    have hl1w : w.heap.size < w1.heap.size := by omega
    have hm1w : w.heap.size ≤ w1.heap.size := by omega
    have g1x0 : w1.cell? ⟨w.heap.size, 0, none⟩ = some (.int .i64 b) := (hc1 _ _ (by first | omega | (simp; done) | (simp; omega))).trans (by first | assumption | simp [go_sem] | simp [go_sem, *])
    have g1x1 : w1.cell? ⟨w.heap.size, 1, none⟩ = some (.int .i64 k) := (hc1 _ _ (by first | omega | (simp; done) | (simp; omega))).trans (by first | assumption | simp [go_sem] | simp [go_sem, *])
    have g1x2 : w1.cell? ⟨w.heap.size, 2, none⟩ = some (.bool l) := (hc1 _ _ (by first | omega | (simp; done) | (simp; omega))).trans (by first | assumption | simp [go_sem] | simp [go_sem, *])
    go_wp2_with fail
    go_ret
    exact ⟨rfl, bt (ba _ _) hb1⟩
  · have q : (number b k l == 0) = false := by rw [beq_eq_false_iff_ne]; exact h
    rw [cnt_yes b k l h, lens_len]
    have HN := Lib.hid hN
    clear hN h
    cases l
    · generalize number b k false = N at *
      go_enter Tryd.func65, Tryd.ntmps65
      go_wp2_with fail
      refine (HN.out _ (Tab.below hT (ba _ _))).mono ?_
      rintro e w1 ⟨rfl, hb1⟩
      obtain ⟨hc1, hf1⟩ := bcell hb1
      have hz1 := hb1.size
      try simp at hz1
      have hl1w : w.heap.size < w1.heap.size := by omega
      have hm1w : w.heap.size ≤ w1.heap.size := by omega
      have g1x0 : w1.cell? ⟨w.heap.size, 0, none⟩ = some (.int .i64 b) := (hc1 _ _ (by first | omega | (simp; done) | (simp; omega))).trans (by first | assumption | simp [go_sem] | simp [go_sem, *])
      have g1x1 : w1.cell? ⟨w.heap.size, 1, none⟩ = some (.int .i64 k) := (hc1 _ _ (by first | omega | (simp; done) | (simp; omega))).trans (by first | assumption | simp [go_sem] | simp [go_sem, *])
      have g1x2 : w1.cell? ⟨w.heap.size, 2, none⟩ = some (.bool false) := (hc1 _ _ (by first | omega | (simp; done) | (simp; omega))).trans (by first | assumption | simp [go_sem] | simp [go_sem, *])
      go_wp2_with fail
      go_ret
      exact ⟨rfl, bt (ba _ _) hb1⟩
    · generalize number b k true = N at *
      go_enter Tryd.func65, Tryd.ntmps65
      go_wp2_with fail
      refine (HN.out _ (Tab.below hT (ba _ _))).mono ?_
      rintro e w1 ⟨rfl, hb1⟩
      obtain ⟨hc1, hf1⟩ := bcell hb1
      have hz1 := hb1.size
      try simp at hz1
      have hl1w : w.heap.size < w1.heap.size := by omega
      have hm1w : w.heap.size ≤ w1.heap.size := by omega
      have g1x0 : w1.cell? ⟨w.heap.size, 0, none⟩ = some (.int .i64 b) := (hc1 _ _ (by first | omega | (simp; done) | (simp; omega))).trans (by first | assumption | simp [go_sem] | simp [go_sem, *])
      have g1x1 : w1.cell? ⟨w.heap.size, 1, none⟩ = some (.int .i64 k) := (hc1 _ _ (by first | omega | (simp; done) | (simp; omega))).trans (by first | assumption | simp [go_sem] | simp [go_sem, *])
      have g1x2 : w1.cell? ⟨w.heap.size, 2, none⟩ = some (.bool true) := (hc1 _ _ (by first | omega | (simp; done) | (simp; omega))).trans (by first | assumption | simp [go_sem] | simp [go_sem, *])
      go_wp2_with fail
      go_ret
      exact ⟨rfl, bt (ba _ _) hb1⟩
set_option maxHeartbeats 1000000 in
theorem ref8_Count (b k : Int) (l : Bool) (w : World)  :
    Calls Tryd.prog 36 #[.agg #[.int .i64 b, .int .i64 k, .bool l]] w fun e w' => e = .returned (.int .i64 (cnt b k l)) ∧ Below w.heap.size w w' := by
  have hN := fun (w : World) => ref7_Number_any b k l w
  by_cases h : number b k l = 0
  · rw [cnt_no b k l h]
    rw [h] at hN
    have HN := Lib.hid hN
    clear hN h
    go_enter Tryd.func36, Tryd.ntmps36
    go_wp2_with fail
    refine (HN.out _).mono ?_
    rintro e w1 ⟨rfl, hb1⟩
    obtain ⟨hc1, hf1⟩ := bcell hb1
    have hz1 := hb1.size
    try simp at hz1
    have hl1w : w.heap.size < w1.heap.size := by omega
    have hm1w : w.heap.size ≤ w1.heap.size := by omega
    have g1x0 : w1.cell? ⟨w.heap.size, 0, none⟩ = some (.int .i64 b) := (hc1 _ _ (by first | omega | (simp; done) | (simp; omega))).trans (by first | assumption | simp [go_sem] | simp [go_sem, *])
    have g1x1 : w1.cell? ⟨w.heap.size, 1, none⟩ = some (.int .i64 k) := (hc1 _ _ (by first | omega | (simp; done) | (simp; omega))).trans (by first | assumption | simp [go_sem] | simp [go_sem, *])
    have g1x2 : w1.cell? ⟨w.heap.size, 2, none⟩ = some (.bool l) := (hc1 _ _ (by first | omega | (simp; done) | (simp; omega))).trans (by first | assumption | simp [go_sem] | simp [go_sem, *])
    go_wp2_with fail
    go_ret
    exact ⟨rfl, bt (ba _ _) hb1⟩
  · have q : (number b k l == 0) = false := by rw [beq_eq_false_iff_ne]; exact h
    rw [cnt_yes b k l h, lens_len]
    have HN := Lib.hid hN
    clear hN h
    cases l
    · generalize number b k false = N at *
      go_enter Tryd.func36, Tryd.ntmps36
      go_wp2_with fail
      refine (HN.out _).mono ?_
      rintro e w1 ⟨rfl, hb1⟩
      obtain ⟨hc1, hf1⟩ := bcell hb1
      have hz1 := hb1.size
      try simp at hz1
      have hl1w : w.heap.size < w1.heap.size := by omega
      have hm1w : w.heap.size ≤ w1.heap.size := by omega
      have g1x0 : w1.cell? ⟨w.heap.size, 0, none⟩ = some (.int .i64 b) := (hc1 _ _ (by first | omega | (simp; done) | (simp; omega))).trans (by first | assumption | simp [go_sem] | simp [go_sem, *])
      have g1x1 : w1.cell? ⟨w.heap.size, 1, none⟩ = some (.int .i64 k) := (hc1 _ _ (by first | omega | (simp; done) | (simp; omega))).trans (by first | assumption | simp [go_sem] | simp [go_sem, *])
      have g1x2 : w1.cell? ⟨w.heap.size, 2, none⟩ = some (.bool false) := (hc1 _ _ (by first | omega | (simp; done) | (simp; omega))).trans (by first | assumption | simp [go_sem] | simp [go_sem, *])
      go_wp2_with fail
      refine (ref8_lengths b k false _).mono ?_
      rintro e w2 ⟨v, rfl, ⟨g, cap, rfl, hcap, hBg, hg, hcell⟩, hb2⟩
      rw [lens_len]
      go_wp2_with fail
      go_ret
      exact ⟨rfl, bt (bt (ba _ _) hb1) hb2⟩
    · generalize number b k true = N at *
      go_enter Tryd.func36, Tryd.ntmps36
      go_wp2_with fail
      refine (HN.out _).mono ?_
      rintro e w1 ⟨rfl, hb1⟩
      obtain ⟨hc1, hf1⟩ := bcell hb1
      have hz1 := hb1.size
      try simp at hz1
      have hl1w : w.heap.size < w1.heap.size := by omega
      have hm1w : w.heap.size ≤ w1.heap.size := by omega
      have g1x0 : w1.cell? ⟨w.heap.size, 0, none⟩ = some (.int .i64 b) := (hc1 _ _ (by first | omega | (simp; done) | (simp; omega))).trans (by first | assumption | simp [go_sem] | simp [go_sem, *])
      have g1x1 : w1.cell? ⟨w.heap.size, 1, none⟩ = some (.int .i64 k) := (hc1 _ _ (by first | omega | (simp; done) | (simp; omega))).trans (by first | assumption | simp [go_sem] | simp [go_sem, *])
      have g1x2 : w1.cell? ⟨w.heap.size, 2, none⟩ = some (.bool true) := (hc1 _ _ (by first | omega | (simp; done) | (simp; omega))).trans (by first | assumption | simp [go_sem] | simp [go_sem, *])
      go_wp2_with fail
      refine (ref8_lengths b k true _).mono ?_
      rintro e w2 ⟨v, rfl, ⟨g, cap, rfl, hcap, hBg, hg, hcell⟩, hb2⟩
      rw [lens_len]
      go_wp2_with fail
      go_ret
      exact ⟨rfl, bt (bt (ba _ _) hb1) hb2⟩
set_option maxHeartbeats 1000000 in
theorem ref8_is (b k : Int) (l : Bool) (m : Int) (w : World) :
    Calls Tryd.prog 33 #[.agg #[.int .i64 b, .int .i64 k, .bool l], .int .i64 m] w fun e w' => e = .returned (.bool (has b k l m)) ∧ Below w.heap.size w w' := by
  have hN := fun (w : World) => ref7_Number_any b k l w
  have hnn := number_nn b k l
  by_cases h : number b k l = 0
  · have e : has b k l m = false := by
      unfold has; rw [cnt_no b k l h]
      by_cases c : 1 ≤ m
      · have : ¬ m ≤ 0 := by omega
        simp [this]
      · simp [c]
    rw [e]
    rw [h] at hN
    have HN := Lib.hid hN
    clear hN h hnn e
    go_enter Tryd.func33, Tryd.ntmps33
    go_wp2_with fail
    refine (HN.out _).mono ?_
    rintro e w1 ⟨rfl, hb1⟩
    obtain ⟨hc1, hf1⟩ := bcell hb1
    have hz1 := hb1.size
    try simp at hz1
    have hl1w : w.heap.size < w1.heap.size := by omega
    have hm1w : w.heap.size ≤ w1.heap.size := by omega
    have g1x0 : w1.cell? ⟨w.heap.size, 0, none⟩ = some (.int .i64 b) := (hc1 _ _ (by first | omega | (simp; done) | (simp; omega))).trans (by first | assumption | simp [go_sem] | simp [go_sem, *])
    have g1x1 : w1.cell? ⟨w.heap.size, 1, none⟩ = some (.int .i64 k) := (hc1 _ _ (by first | omega | (simp; done) | (simp; omega))).trans (by first | assumption | simp [go_sem] | simp [go_sem, *])
    have g1x2 : w1.cell? ⟨w.heap.size, 2, none⟩ = some (.bool l) := (hc1 _ _ (by first | omega | (simp; done) | (simp; omega))).trans (by first | assumption | simp [go_sem] | simp [go_sem, *])
    go_wp2_with fail
    go_ret
    exact ⟨rfl, bt (ba _ _) hb1⟩
  · have q : (0 : Int) < number b k l := by omega
    have e : has b k l m = (decide (1 ≤ m) && decide (m ≤ ((lens k l).length : Int))) := by unfold has; rw [cnt_yes b k l h]
    rw [e, lens_len]
    have HN := Lib.hid hN
    clear hN h hnn e
    by_cases c : 1 ≤ m
    · cases l
      · generalize number b k false = N at *
        go_enter Tryd.func33, Tryd.ntmps33
        go_wp2_with fail
        refine (HN.out _).mono ?_
        rintro e w1 ⟨rfl, hb1⟩
        obtain ⟨hc1, hf1⟩ := bcell hb1
        have hz1 := hb1.size
        try simp at hz1
        have hl1w : w.heap.size < w1.heap.size := by omega
        have hm1w : w.heap.size ≤ w1.heap.size := by omega
        have g1x0 : w1.cell? ⟨w.heap.size, 0, none⟩ = some (.int .i64 b) := (hc1 _ _ (by first | omega | (simp; done) | (simp; omega))).trans (by first | assumption | simp [go_sem] | simp [go_sem, *])
        have g1x1 : w1.cell? ⟨w.heap.size, 1, none⟩ = some (.int .i64 k) := (hc1 _ _ (by first | omega | (simp; done) | (simp; omega))).trans (by first | assumption | simp [go_sem] | simp [go_sem, *])
        have g1x2 : w1.cell? ⟨w.heap.size, 2, none⟩ = some (.bool false) := (hc1 _ _ (by first | omega | (simp; done) | (simp; omega))).trans (by first | assumption | simp [go_sem] | simp [go_sem, *])
        go_wp2_with fail
        refine (ref8_lengths b k false _).mono ?_
        rintro e w2 ⟨v, rfl, ⟨g, cap, rfl, hcap, hBg, hg, hcell⟩, hb2⟩
        rw [lens_len]
        go_wp2_with fail
        go_ret
        refine ⟨ret_b ?_, bt (bt (ba _ _) hb1) hb2⟩
        simp
      · generalize number b k true = N at *
        go_enter Tryd.func33, Tryd.ntmps33
        go_wp2_with fail
        refine (HN.out _).mono ?_
        rintro e w1 ⟨rfl, hb1⟩
        obtain ⟨hc1, hf1⟩ := bcell hb1
        have hz1 := hb1.size
        try simp at hz1
        have hl1w : w.heap.size < w1.heap.size := by omega
        have hm1w : w.heap.size ≤ w1.heap.size := by omega
        have g1x0 : w1.cell? ⟨w.heap.size, 0, none⟩ = some (.int .i64 b) := (hc1 _ _ (by first | omega | (simp; done) | (simp; omega))).trans (by first | assumption | simp [go_sem] | simp [go_sem, *])
        have g1x1 : w1.cell? ⟨w.heap.size, 1, none⟩ = some (.int .i64 k) := (hc1 _ _ (by first | omega | (simp; done) | (simp; omega))).trans (by first | assumption | simp [go_sem] | simp [go_sem, *])
        have g1x2 : w1.cell? ⟨w.heap.size, 2, none⟩ = some (.bool true) := (hc1 _ _ (by first | omega | (simp; done) | (simp; omega))).trans (by first | assumption | simp [go_sem] | simp [go_sem, *])
        go_wp2_with fail
        refine (ref8_lengths b k true _).mono ?_
        rintro e w2 ⟨v, rfl, ⟨g, cap, rfl, hcap, hBg, hg, hcell⟩, hb2⟩
        rw [lens_len]
        go_wp2_with fail
        go_ret
        refine ⟨ret_b ?_, bt (bt (ba _ _) hb1) hb2⟩
        simp
    · cases l
      · generalize number b k false = N at *
        go_enter Tryd.func33, Tryd.ntmps33
        go_wp2_with fail
        refine (HN.out _).mono ?_
        rintro e w1 ⟨rfl, hb1⟩
        obtain ⟨hc1, hf1⟩ := bcell hb1
        have hz1 := hb1.size
        try simp at hz1
        have hl1w : w.heap.size < w1.heap.size := by omega
        have hm1w : w.heap.size ≤ w1.heap.size := by omega
        have g1x0 : w1.cell? ⟨w.heap.size, 0, none⟩ = some (.int .i64 b) := (hc1 _ _ (by first | omega | (simp; done) | (simp; omega))).trans (by first | assumption | simp [go_sem] | simp [go_sem, *])
        have g1x1 : w1.cell? ⟨w.heap.size, 1, none⟩ = some (.int .i64 k) := (hc1 _ _ (by first | omega | (simp; done) | (simp; omega))).trans (by first | assumption | simp [go_sem] | simp [go_sem, *])
        have g1x2 : w1.cell? ⟨w.heap.size, 2, none⟩ = some (.bool false) := (hc1 _ _ (by first | omega | (simp; done) | (simp; omega))).trans (by first | assumption | simp [go_sem] | simp [go_sem, *])
        go_wp2_with fail
        go_ret
        refine ⟨ret_b ?_, bt (ba _ _) hb1⟩
        simp
        intro _
        omega
      · generalize number b k true = N at *
        go_enter Tryd.func33, Tryd.ntmps33
        go_wp2_with fail
        refine (HN.out _).mono ?_
        rintro e w1 ⟨rfl, hb1⟩
        obtain ⟨hc1, hf1⟩ := bcell hb1
        have hz1 := hb1.size
        try simp at hz1
        have hl1w : w.heap.size < w1.heap.size := by omega
        have hm1w : w.heap.size ≤ w1.heap.size := by omega
        have g1x0 : w1.cell? ⟨w.heap.size, 0, none⟩ = some (.int .i64 b) := (hc1 _ _ (by first | omega | (simp; done) | (simp; omega))).trans (by first | assumption | simp [go_sem] | simp [go_sem, *])
        have g1x1 : w1.cell? ⟨w.heap.size, 1, none⟩ = some (.int .i64 k) := (hc1 _ _ (by first | omega | (simp; done) | (simp; omega))).trans (by first | assumption | simp [go_sem] | simp [go_sem, *])
        have g1x2 : w1.cell? ⟨w.heap.size, 2, none⟩ = some (.bool true) := (hc1 _ _ (by first | omega | (simp; done) | (simp; omega))).trans (by first | assumption | simp [go_sem] | simp [go_sem, *])
        go_wp2_with fail
        go_ret
        refine ⟨ret_b ?_, bt (ba _ _) hb1⟩
        simp
        intro _
        omega
set_option maxHeartbeats 1000000 in
theorem month_Days_at (b k : Int) (l : Bool) (j : Nat) (x : Int) (w : World) (hT : Tab w 1 kevCells) (hL : Tab w 0 lenCells) (hj : (j : Int) + 1 ≤ cnt b k l) (hx : (lens k l)[j]? = some x) :
    Calls Tryd.prog 53 #[.agg #[.int .i64 b, .int .i64 k, .bool l], .int .i64 ((j : Int) + 1)] w fun e w' => e = .returned (.int .i64 x) ∧ Below w.heap.size w w' := by
  have hl := cnt_le b k l
  have hb0 := cnt_bd b k l
  have HC := Lib.hid (fun w h => month_Count b k l w h)
  generalize cnt b k l = C at *
  rw [lens_len] at hl
  cases l
  · have h1 : (j : Int) < 12 := by simp at hl; omega
    have h2 : (0 : Int) ≤ (j : Int) := by omega
    have hn : (j : Int) ≤ 13 := by omega
    have HX := Lib.hid hx
    clear hl hx
    go_enter Tryd.func53, Tryd.ntmps53
    go_wp2_with fail
    refine (HC.out _ (Tab.below hT (ba _ _))).mono ?_
    rintro e w1 ⟨rfl, hb1⟩
    obtain ⟨hc1, hf1⟩ := bcell hb1
    have hz1 := hb1.size
    try simp at hz1
    have hl1w : w.heap.size < w1.heap.size := by omega
    have hm1w : w.heap.size ≤ w1.heap.size := by omega
    have g1x0 : w1.cell? ⟨w.heap.size, 0, none⟩ = some (.int .i64 b) := (hc1 _ _ (by first | omega | (simp; done) | (simp; omega))).trans (by first | assumption | simp [go_sem] | simp [go_sem, *])
    have g1x1 : w1.cell? ⟨w.heap.size, 1, none⟩ = some (.int .i64 k) := (hc1 _ _ (by first | omega | (simp; done) | (simp; omega))).trans (by first | assumption | simp [go_sem] | simp [go_sem, *])
    have g1x2 : w1.cell? ⟨w.heap.size, 2, none⟩ = some (.bool false) := (hc1 _ _ (by first | omega | (simp; done) | (simp; omega))).trans (by first | assumption | simp [go_sem] | simp [go_sem, *])
    go_wp2_with fail
    refine (month_days b k false _ (Tab.below hL (bt (ba _ _) hb1))).mono ?_
    rintro e w2 ⟨v, rfl, ⟨g, cap, rfl, hcap, hBg, hg, hcell⟩, hb2⟩
    have hcx := hcell j x HX.out
    clear hcell hcap
    rw [lens_len]
    go_wp2_with fail
    go_ret
    exact ⟨rfl, bt (bt (ba _ _) hb1) hb2⟩
  · have h1 : (j : Int) < 13 := by simp at hl; omega
    have h2 : (0 : Int) ≤ (j : Int) := by omega
    have hn : (j : Int) ≤ 13 := by omega
    have HX := Lib.hid hx
    clear hl hx
    go_enter Tryd.func53, Tryd.ntmps53
    go_wp2_with fail
    refine (HC.out _ (Tab.below hT (ba _ _))).mono ?_
    rintro e w1 ⟨rfl, hb1⟩
    obtain ⟨hc1, hf1⟩ := bcell hb1
    have hz1 := hb1.size
    try simp at hz1
    have hl1w : w.heap.size < w1.heap.size := by omega
    have hm1w : w.heap.size ≤ w1.heap.size := by omega
    have g1x0 : w1.cell? ⟨w.heap.size, 0, none⟩ = some (.int .i64 b) := (hc1 _ _ (by first | omega | (simp; done) | (simp; omega))).trans (by first | assumption | simp [go_sem] | simp [go_sem, *])
    have g1x1 : w1.cell? ⟨w.heap.size, 1, none⟩ = some (.int .i64 k) := (hc1 _ _ (by first | omega | (simp; done) | (simp; omega))).trans (by first | assumption | simp [go_sem] | simp [go_sem, *])
    have g1x2 : w1.cell? ⟨w.heap.size, 2, none⟩ = some (.bool true) := (hc1 _ _ (by first | omega | (simp; done) | (simp; omega))).trans (by first | assumption | simp [go_sem] | simp [go_sem, *])
    go_wp2_with fail
    refine (month_days b k true _ (Tab.below hL (bt (ba _ _) hb1))).mono ?_
    rintro e w2 ⟨v, rfl, ⟨g, cap, rfl, hcap, hBg, hg, hcell⟩, hb2⟩
    have hcx := hcell j x HX.out
    clear hcell hcap
    rw [lens_len]
    go_wp2_with fail
    go_ret
    exact ⟨rfl, bt (bt (ba _ _) hb1) hb2⟩
set_option maxHeartbeats 1000000 in
theorem month_Days_no (b k : Int) (l : Bool) (m : Int) (w : World) (hT : Tab w 1 kevCells) (hL : Tab w 0 lenCells) (h : has b k l m = false) :
    Calls Tryd.prog 53 #[.agg #[.int .i64 b, .int .i64 k, .bool l], .int .i64 m] w fun e w' => e = .returned (.int .i64 0) ∧ Below w.heap.size w w' := by
  have HC := Lib.hid (fun w h => month_Count b k l w h)
  rcases (show m < 1 ∨ (1 ≤ m ∧ cnt b k l < m) by
    by_cases c : m < 1
    · exact .inl c
    · refine .inr ⟨by omega, ?_⟩
      unfold has at h
      simp only [Bool.and_eq_false_iff, decide_eq_false_iff_not] at h
      omega) with c | ⟨c1, c2⟩
  · clear h HC
    go_enter Tryd.func53, Tryd.ntmps53
    go_wp2_with fail
    go_ret
    exact ⟨rfl, ba _ _⟩
  · clear h
    generalize cnt b k l = C at *
    go_enter Tryd.func53, Tryd.ntmps53
    go_wp2_with fail
    refine (HC.out _ (Tab.below hT (ba _ _))).mono ?_
    rintro e w1 ⟨rfl, hb1⟩
    obtain ⟨hc1, hf1⟩ := bcell hb1
    have hz1 := hb1.size
    try simp at hz1
    have hl1w : w.heap.size < w1.heap.size := by omega
    have hm1w : w.heap.size ≤ w1.heap.size := by omega
    have g1x0 : w1.cell? ⟨w.heap.size, 0, none⟩ = some (.int .i64 b) := (hc1 _ _ (by first | omega | (simp; done) | (simp; omega))).trans (by first | assumption | simp [go_sem] | simp [go_sem, *])
    have g1x1 : w1.cell? ⟨w.heap.size, 1, none⟩ = some (.int .i64 k) := (hc1 _ _ (by first | omega | (simp; done) | (simp; omega))).trans (by first | assumption | simp [go_sem] | simp [go_sem, *])
    have g1x2 : w1.cell? ⟨w.heap.size, 2, none⟩ = some (.bool l) := (hc1 _ _ (by first | omega | (simp; done) | (simp; omega))).trans (by first | assumption | simp [go_sem] | simp [go_sem, *])
    go_wp2_with fail
    go_ret
    exact ⟨rfl, bt (ba _ _) hb1⟩
set_option maxHeartbeats 1000000 in
theorem month_Days (b k : Int) (l : Bool) (m : Int) (w : World) (hT : Tab w 1 kevCells) (hL : Tab w 0 lenCells) :
    Calls Tryd.prog 53 #[.agg #[.int .i64 b, .int .i64 k, .bool l], .int .i64 m] w fun e w' => e = .returned (.int .i64 (daysV b k l m)) ∧ Below w.heap.size w w' := by
  cases h : has b k l m
  · rw [daysV, h, if_neg Bool.false_ne_true]
    exact month_Days_no b k l m w hT hL h
  · rw [daysV, h, if_pos rfl]
    unfold has at h
    simp only [Bool.and_eq_true, decide_eq_true_eq] at h
    have hl := cnt_le b k l
    obtain ⟨x, hx, hx2, _⟩ := lens_at k l (m - 1).toNat (by omega)
    rw [hx2]
    have := month_Days_at b k l (m - 1).toNat x w hT hL (by omega) hx
    rwa [show (((m - 1).toNat : Nat) : Int) + 1 = m by omega] at this
set_option maxHeartbeats 1000000 in
theorem ref8_Days_at (b k : Int) (l : Bool) (j : Nat) (x : Int) (w : World) (hj : (j : Int) + 1 ≤ cnt b k l) (hx : (lens k l)[j]? = some x) :
    Calls Tryd.prog 37 #[.agg #[.int .i64 b, .int .i64 k, .bool l], .int .i64 ((j : Int) + 1)] w fun e w' => e = .returned (.int .i64 x) ∧ Below w.heap.size w w' := by
  have hl := cnt_le b k l
  have hb0 := cnt_bd b k l
  have hI := fun w => ref8_is b k l ((j : Int) + 1) w
  have e : has b k l ((j : Int) + 1) = true := by unfold has; simp [hj]; omega
  rw [e] at hI
  have HI := Lib.hid hI
  clear hI e
  rw [lens_len] at hl
  cases l
  · have h1 : (j : Int) < 12 := by simp at hl; omega
    have h2 : (0 : Int) ≤ (j : Int) := by omega
    have hn : (j : Int) ≤ 13 := by omega
    have HX := Lib.hid hx
    clear hl hx hj
    go_enter Tryd.func37, Tryd.ntmps37
    go_wp2_with fail
    refine (HI.out _).mono ?_
    rintro e w1 ⟨rfl, hb1⟩
    obtain ⟨hc1, hf1⟩ := bcell hb1
    have hz1 := hb1.size
    try simp at hz1
    have hl1w : w.heap.size < w1.heap.size := by omega
    have hm1w : w.heap.size ≤ w1.heap.size := by omega
    have g1x0 : w1.cell? ⟨w.heap.size, 0, none⟩ = some (.int .i64 b) := (hc1 _ _ (by first | omega | (simp; done) | (simp; omega))).trans (by first | assumption | simp [go_sem] | simp [go_sem, *])
    have g1x1 : w1.cell? ⟨w.heap.size, 1, none⟩ = some (.int .i64 k) := (hc1 _ _ (by first | omega | (simp; done) | (simp; omega))).trans (by first | assumption | simp [go_sem] | simp [go_sem, *])
    have g1x2 : w1.cell? ⟨w.heap.size, 2, none⟩ = some (.bool false) := (hc1 _ _ (by first | omega | (simp; done) | (simp; omega))).trans (by first | assumption | simp [go_sem] | simp [go_sem, *])
    go_wp2_with fail
    refine (ref8_lengths b k false _).mono ?_
    rintro e w2 ⟨v, rfl, ⟨g, cap, rfl, hcap, hBg, hg, hcell⟩, hb2⟩
    have hcx := hcell j x HX.out
    clear hcell hcap
    rw [lens_len]
    go_wp2_with fail
    go_ret
    exact ⟨rfl, bt (bt (ba _ _) hb1) hb2⟩
  · have h1 : (j : Int) < 13 := by simp at hl; omega
    have h2 : (0 : Int) ≤ (j : Int) := by omega
    have hn : (j : Int) ≤ 13 := by omega
    have HX := Lib.hid hx
    clear hl hx hj
    go_enter Tryd.func37, Tryd.ntmps37
    go_wp2_with fail
    refine (HI.out _).mono ?_
    rintro e w1 ⟨rfl, hb1⟩
    obtain ⟨hc1, hf1⟩ := bcell hb1
    have hz1 := hb1.size
    try simp at hz1
    have hl1w : w.heap.size < w1.heap.size := by omega
    have hm1w : w.heap.size ≤ w1.heap.size := by omega
    have g1x0 : w1.cell? ⟨w.heap.size, 0, none⟩ = some (.int .i64 b) := (hc1 _ _ (by first | omega | (simp; done) | (simp; omega))).trans (by first | assumption | simp [go_sem] | simp [go_sem, *])
    have g1x1 : w1.cell? ⟨w.heap.size, 1, none⟩ = some (.int .i64 k) := (hc1 _ _ (by first | omega | (simp; done) | (simp; omega))).trans (by first | assumption | simp [go_sem] | simp [go_sem, *])
    have g1x2 : w1.cell? ⟨w.heap.size, 2, none⟩ = some (.bool true) := (hc1 _ _ (by first | omega | (simp; done) | (simp; omega))).trans (by first | assumption | simp [go_sem] | simp [go_sem, *])
    go_wp2_with fail
    refine (ref8_lengths b k true _).mono ?_
    rintro e w2 ⟨v, rfl, ⟨g, cap, rfl, hcap, hBg, hg, hcell⟩, hb2⟩
    have hcx := hcell j x HX.out
    clear hcell hcap
    rw [lens_len]
    go_wp2_with fail
    go_ret
    exact ⟨rfl, bt (bt (ba _ _) hb1) hb2⟩
set_option maxHeartbeats 1000000 in
theorem ref8_Days_no (b k : Int) (l : Bool) (m : Int) (w : World) (h : has b k l m = false) :
    Calls Tryd.prog 37 #[.agg #[.int .i64 b, .int .i64 k, .bool l], .int .i64 m] w fun e w' => e = .returned (.int .i64 0) ∧ Below w.heap.size w w' := by
  have hI := fun w => ref8_is b k l m w
  rw [h] at hI
  have HI := Lib.hid hI
  clear hI h
  go_enter Tryd.func37, Tryd.ntmps37
  go_wp2_with fail
  refine (HI.out _).mono ?_
  rintro e w1 ⟨rfl, hb1⟩
  obtain ⟨hc1, hf1⟩ := bcell hb1
  have hz1 := hb1.size
  try simp at hz1
  have hl1w : w.heap.size < w1.heap.size := by omega
  have hm1w : w.heap.size ≤ w1.heap.size := by omega
  have g1x0 : w1.cell? ⟨w.heap.size, 0, none⟩ = some (.int .i64 b) := (hc1 _ _ (by first | omega | (simp; done) | (simp; omega))).trans (by first | assumption | simp [go_sem] | simp [go_sem, *])
  have g1x1 : w1.cell? ⟨w.heap.size, 1, none⟩ = some (.int .i64 k) := (hc1 _ _ (by first | omega | (simp; done) | (simp; omega))).trans (by first | assumption | simp [go_sem] | simp [go_sem, *])
  have g1x2 : w1.cell? ⟨w.heap.size, 2, none⟩ = some (.bool l) := (hc1 _ _ (by first | omega | (simp; done) | (simp; omega))).trans (by first | assumption | simp [go_sem] | simp [go_sem, *])
  go_wp2_with fail
  go_ret
  exact ⟨rfl, bt (ba _ _) hb1⟩
set_option maxHeartbeats 1000000 in
theorem ref8_Days (b k : Int) (l : Bool) (m : Int) (w : World) :
    Calls Tryd.prog 37 #[.agg #[.int .i64 b, .int .i64 k, .bool l], .int .i64 m] w fun e w' => e = .returned (.int .i64 (daysV b k l m)) ∧ Below w.heap.size w w' := by
  cases h : has b k l m
  · rw [daysV, h, if_neg Bool.false_ne_true]
    exact ref8_Days_no b k l m w h
  · rw [daysV, h, if_pos rfl]
    unfold has at h
    simp only [Bool.and_eq_true, decide_eq_true_eq] at h
    have hl := cnt_le b k l
    obtain ⟨x, hx, hx2, _⟩ := lens_at k l (m - 1).toNat (by omega)
    rw [hx2]
    have := ref8_Days_at b k l (m - 1).toNat x w (by omega) hx
    rwa [show (((m - 1).toNat : Nat) : Int) + 1 = m by omega] at this
end Go.Proofs.YtgcpflbpiifdbaaDoor
