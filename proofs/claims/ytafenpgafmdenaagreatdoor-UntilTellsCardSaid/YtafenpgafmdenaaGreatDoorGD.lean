/- Merged: Ref17, Ref17d, W17t. -/
import Derived.Test.YtafenpgafmdenaaGreatDoorRef16
import Derived.Test.YtafenpgafmdenaaGreatDoorGC
import Derived.RegionTactic
import Derived.IntWalk
/- Layer 17: the document's answer, its parts. -/
namespace Go.Proofs.YtafenpgafmdenaaGreatDoor
open Go.ChangeShapes Go.WideShapes Go.ChangeAt Go.RowKit
set_option linter.unusedVariables false
set_option maxRecDepth 100000
theorem ret_bool {a b : Bool} (h : a = b) : Ending.returned (.bool a) = .returned (.bool b) := by rw [h]
theorem ref17_with_3 (a b c q n : Int) (w : World) : Calls Tryz.prog 128 #[.agg #[.int .i64 (a), .int .i64 (b), .int .i64 (c), .int .i64 (q)], .int .i64 3, .int .i64 n] w fun e w' => e = .returned (.agg #[.int .i64 (n), .int .i64 (b), .int .i64 (c), .int .i64 (q)]) ∧ Below w.heap.size w w' := by
  go_enter Tryz.func128, Tryz.ntmps128
  go_wp2_with fail
  refine bodyPost_ret (v := .agg #[.int .i64 (n), .int .i64 (b), .int .i64 (c), .int .i64 (q)]) (by simp [results, Tryz.results128, go_sem]) rfl ⟨rfl, ?_⟩
  repeat (first | (with_reducible exact Below.refl _ _) | (with_reducible assumption) | (with_reducible refine bdrew ?_) | (with_reducible refine baa ?_ _) | (with_reducible refine bs ?_ (by first | exact Nat.le_refl _ | omega | (simp; done) | (simp; omega)) _) | (with_reducible refine bt ?_ (by with_reducible assumption)))
theorem ref17_with_2 (a b c q n : Int) (w : World) : Calls Tryz.prog 128 #[.agg #[.int .i64 (a), .int .i64 (b), .int .i64 (c), .int .i64 (q)], .int .i64 2, .int .i64 n] w fun e w' => e = .returned (.agg #[.int .i64 (a), .int .i64 (n), .int .i64 (c), .int .i64 (q)]) ∧ Below w.heap.size w w' := by
  go_enter Tryz.func128, Tryz.ntmps128
  go_wp2_with fail
  refine bodyPost_ret (v := .agg #[.int .i64 (a), .int .i64 (n), .int .i64 (c), .int .i64 (q)]) (by simp [results, Tryz.results128, go_sem]) rfl ⟨rfl, ?_⟩
  repeat (first | (with_reducible exact Below.refl _ _) | (with_reducible assumption) | (with_reducible refine bdrew ?_) | (with_reducible refine baa ?_ _) | (with_reducible refine bs ?_ (by first | exact Nat.le_refl _ | omega | (simp; done) | (simp; omega)) _) | (with_reducible refine bt ?_ (by with_reducible assumption)))
set_option maxHeartbeats 2000000 in
theorem ref17_beyond_err (y n : Int) (l : Bool) (d i j B : Int) (s : Int) (ry rn : Int) (rl : Bool) (rd er : Int) (w : World) (HT : Hid (∀ w : World, Calls Tryz.prog 28 #[.agg #[.int .i64 (y), .int .i64 (n), .bool (l), .int .i64 (d)], .agg #[.int .i64 (i), .int .i64 (j), .int .i64 (0), .int .i64 (0)], .int .i64 0] w fun e w' => e = .returned (.tuple #[.agg #[.int .i64 (ry), .int .i64 (rn), .bool (rl), .int .i64 (rd)], .int .i64 (er)]) ∧ Below w.heap.size w w')) (hne : (er != 0) = true) :
    Calls Tryz.prog 127 #[.agg #[.int .i64 (y), .int .i64 (n), .bool (l), .int .i64 (d)], .agg #[.int .i64 (i), .int .i64 (j), .int .i64 (0), .int .i64 (0)], .int .i64 B, .int .i64 s] w fun e w' => e = .returned (.bool true) ∧ Below w.heap.size w w' := by
  go_enter Tryz.func127, Tryz.ntmps127
  go_wp2_with fail
  refine (HT.out _).mono ?_
  rintro e w1 ⟨rfl, hb1⟩
  obtain ⟨hc1, hf1⟩ := bcell hb1
  have hz1 := hb1.size
  try simp at hz1
  have hs1x0 : w.heap.size < w1.heap.size := by omega
  have hs1x1 : (w.heap.size + 1) < w1.heap.size := by omega
  have g1x0 : w1.cell? ⟨w.heap.size, 0, none⟩ = some (.int .i64 (y)) := (hc1 _ _ (by first | omega | (simp; done) | (simp; omega))).trans (by first | (with_reducible assumption) | (simp [go_sem]; done) | (simp [go_sem, *]; done) | assumption)
  have g1x1 : w1.cell? ⟨w.heap.size, 1, none⟩ = some (.int .i64 (n)) := (hc1 _ _ (by first | omega | (simp; done) | (simp; omega))).trans (by first | (with_reducible assumption) | (simp [go_sem]; done) | (simp [go_sem, *]; done) | assumption)
  have g1x2 : w1.cell? ⟨w.heap.size, 2, none⟩ = some (.bool (l)) := (hc1 _ _ (by first | omega | (simp; done) | (simp; omega))).trans (by first | (with_reducible assumption) | (simp [go_sem]; done) | (simp [go_sem, *]; done) | assumption)
  have g1x3 : w1.cell? ⟨w.heap.size, 3, none⟩ = some (.int .i64 (d)) := (hc1 _ _ (by first | omega | (simp; done) | (simp; omega))).trans (by first | (with_reducible assumption) | (simp [go_sem]; done) | (simp [go_sem, *]; done) | assumption)
  have g1x4 : w1.cell? ⟨(w.heap.size + 1), 0, none⟩ = some (.int .i64 (i)) := (hc1 _ _ (by first | omega | (simp; done) | (simp; omega))).trans (by first | (with_reducible assumption) | (simp [go_sem]; done) | (simp [go_sem, *]; done) | assumption)
  have g1x5 : w1.cell? ⟨(w.heap.size + 1), 1, none⟩ = some (.int .i64 (j)) := (hc1 _ _ (by first | omega | (simp; done) | (simp; omega))).trans (by first | (with_reducible assumption) | (simp [go_sem]; done) | (simp [go_sem, *]; done) | assumption)
  have g1x6 : w1.cell? ⟨(w.heap.size + 1), 2, none⟩ = some (.int .i64 (0)) := (hc1 _ _ (by first | omega | (simp; done) | (simp; omega))).trans (by first | (with_reducible assumption) | (simp [go_sem]; done) | (simp [go_sem, *]; done) | assumption)
  have g1x7 : w1.cell? ⟨(w.heap.size + 1), 3, none⟩ = some (.int .i64 (0)) := (hc1 _ _ (by first | omega | (simp; done) | (simp; omega))).trans (by first | (with_reducible assumption) | (simp [go_sem]; done) | (simp [go_sem, *]; done) | assumption)
  go_wp2_with fail
  go_ret
  refine ⟨rfl, ?_⟩
  repeat (first | (with_reducible exact Below.refl _ _) | (with_reducible assumption) | (with_reducible refine bdrew ?_) | (with_reducible refine baa ?_ _) | (with_reducible refine bs ?_ (by first | exact Nat.le_refl _ | omega | (simp; done) | (simp; omega)) _) | (with_reducible refine bt ?_ (by with_reducible assumption)))
set_option maxHeartbeats 2000000 in
theorem ref17_beyond_up (y n : Int) (l : Bool) (d i j B : Int) (ry rn : Int) (rl : Bool) (rd D1 : Int) (w : World) (HT : Hid (∀ w : World, Calls Tryz.prog 28 #[.agg #[.int .i64 (y), .int .i64 (n), .bool (l), .int .i64 (d)], .agg #[.int .i64 (i), .int .i64 (j), .int .i64 (0), .int .i64 (0)], .int .i64 0] w fun e w' => e = .returned (.tuple #[.agg #[.int .i64 (ry), .int .i64 (rn), .bool (rl), .int .i64 (rd)], .int .i64 (0)]) ∧ Below w.heap.size w w')) (HX : Hid (∀ w : World, Calls Tryz.prog 37 #[.agg #[.int .i64 (ry), .int .i64 (rn), .bool (rl), .int .i64 (rd)]] w fun e w' => e = .returned (.tuple #[.int .i64 D1, .int .i64 0]) ∧ Below w.heap.size w w')) (h1 : -3000000 ≤ D1) (h2 : D1 ≤ 3000000) (h3 : -3000000 ≤ B) (h4 : B ≤ 3000000) :
    Calls Tryz.prog 127 #[.agg #[.int .i64 (y), .int .i64 (n), .bool (l), .int .i64 (d)], .agg #[.int .i64 (i), .int .i64 (j), .int .i64 (0), .int .i64 (0)], .int .i64 B, .int .i64 (1)] w fun e w' => e = .returned (.bool (decide (B < D1))) ∧ Below w.heap.size w w' := by
  go_enter Tryz.func127, Tryz.ntmps127
  go_wp2_with fail
  refine (HT.out _).mono ?_
  rintro e w1 ⟨rfl, hb1⟩
  obtain ⟨hc1, hf1⟩ := bcell hb1
  have hz1 := hb1.size
  try simp at hz1
  have hs1x0 : w.heap.size < w1.heap.size := by omega
  have hs1x1 : (w.heap.size + 1) < w1.heap.size := by omega
  have g1x0 : w1.cell? ⟨w.heap.size, 0, none⟩ = some (.int .i64 (y)) := (hc1 _ _ (by first | omega | (simp; done) | (simp; omega))).trans (by first | (with_reducible assumption) | (simp [go_sem]; done) | (simp [go_sem, *]; done) | assumption)
  have g1x1 : w1.cell? ⟨w.heap.size, 1, none⟩ = some (.int .i64 (n)) := (hc1 _ _ (by first | omega | (simp; done) | (simp; omega))).trans (by first | (with_reducible assumption) | (simp [go_sem]; done) | (simp [go_sem, *]; done) | assumption)
  have g1x2 : w1.cell? ⟨w.heap.size, 2, none⟩ = some (.bool (l)) := (hc1 _ _ (by first | omega | (simp; done) | (simp; omega))).trans (by first | (with_reducible assumption) | (simp [go_sem]; done) | (simp [go_sem, *]; done) | assumption)
  have g1x3 : w1.cell? ⟨w.heap.size, 3, none⟩ = some (.int .i64 (d)) := (hc1 _ _ (by first | omega | (simp; done) | (simp; omega))).trans (by first | (with_reducible assumption) | (simp [go_sem]; done) | (simp [go_sem, *]; done) | assumption)
  have g1x4 : w1.cell? ⟨(w.heap.size + 1), 0, none⟩ = some (.int .i64 (i)) := (hc1 _ _ (by first | omega | (simp; done) | (simp; omega))).trans (by first | (with_reducible assumption) | (simp [go_sem]; done) | (simp [go_sem, *]; done) | assumption)
  have g1x5 : w1.cell? ⟨(w.heap.size + 1), 1, none⟩ = some (.int .i64 (j)) := (hc1 _ _ (by first | omega | (simp; done) | (simp; omega))).trans (by first | (with_reducible assumption) | (simp [go_sem]; done) | (simp [go_sem, *]; done) | assumption)
  have g1x6 : w1.cell? ⟨(w.heap.size + 1), 2, none⟩ = some (.int .i64 (0)) := (hc1 _ _ (by first | omega | (simp; done) | (simp; omega))).trans (by first | (with_reducible assumption) | (simp [go_sem]; done) | (simp [go_sem, *]; done) | assumption)
  have g1x7 : w1.cell? ⟨(w.heap.size + 1), 3, none⟩ = some (.int .i64 (0)) := (hc1 _ _ (by first | omega | (simp; done) | (simp; omega))).trans (by first | (with_reducible assumption) | (simp [go_sem]; done) | (simp [go_sem, *]; done) | assumption)
  go_wp2_with fail
  refine (HX.out _).mono ?_
  rintro e w2 ⟨rfl, hb2⟩
  obtain ⟨hc2, hf2⟩ := bcell hb2
  have hz2 := hb2.size
  try simp at hz2
  go_wp2_with fail
  go_ret
  refine ⟨ret_bool (by first | rfl | (rw [Bool.eq_iff_iff]; done) | (rw [Bool.eq_iff_iff]; simp; done) | (rw [Bool.eq_iff_iff]; simp; omega)), ?_⟩
  repeat (first | (with_reducible exact Below.refl _ _) | (with_reducible assumption) | (with_reducible refine bdrew ?_) | (with_reducible refine baa ?_ _) | (with_reducible refine bs ?_ (by first | exact Nat.le_refl _ | omega | (simp; done) | (simp; omega)) _) | (with_reducible refine bt ?_ (by with_reducible assumption)))
set_option maxHeartbeats 2000000 in
theorem ref17_beyond_down (y n : Int) (l : Bool) (d i j B : Int) (ry rn : Int) (rl : Bool) (rd D1 : Int) (w : World) (HT : Hid (∀ w : World, Calls Tryz.prog 28 #[.agg #[.int .i64 (y), .int .i64 (n), .bool (l), .int .i64 (d)], .agg #[.int .i64 (i), .int .i64 (j), .int .i64 (0), .int .i64 (0)], .int .i64 0] w fun e w' => e = .returned (.tuple #[.agg #[.int .i64 (ry), .int .i64 (rn), .bool (rl), .int .i64 (rd)], .int .i64 (0)]) ∧ Below w.heap.size w w')) (HX : Hid (∀ w : World, Calls Tryz.prog 37 #[.agg #[.int .i64 (ry), .int .i64 (rn), .bool (rl), .int .i64 (rd)]] w fun e w' => e = .returned (.tuple #[.int .i64 D1, .int .i64 0]) ∧ Below w.heap.size w w')) (h1 : -3000000 ≤ D1) (h2 : D1 ≤ 3000000) (h3 : -3000000 ≤ B) (h4 : B ≤ 3000000) :
    Calls Tryz.prog 127 #[.agg #[.int .i64 (y), .int .i64 (n), .bool (l), .int .i64 (d)], .agg #[.int .i64 (i), .int .i64 (j), .int .i64 (0), .int .i64 (0)], .int .i64 B, .int .i64 (-1)] w fun e w' => e = .returned (.bool (decide (D1 < B))) ∧ Below w.heap.size w w' := by
  go_enter Tryz.func127, Tryz.ntmps127
  go_wp2_with fail
  refine (HT.out _).mono ?_
  rintro e w1 ⟨rfl, hb1⟩
  obtain ⟨hc1, hf1⟩ := bcell hb1
  have hz1 := hb1.size
  try simp at hz1
  have hs1x0 : w.heap.size < w1.heap.size := by omega
  have hs1x1 : (w.heap.size + 1) < w1.heap.size := by omega
  have g1x0 : w1.cell? ⟨w.heap.size, 0, none⟩ = some (.int .i64 (y)) := (hc1 _ _ (by first | omega | (simp; done) | (simp; omega))).trans (by first | (with_reducible assumption) | (simp [go_sem]; done) | (simp [go_sem, *]; done) | assumption)
  have g1x1 : w1.cell? ⟨w.heap.size, 1, none⟩ = some (.int .i64 (n)) := (hc1 _ _ (by first | omega | (simp; done) | (simp; omega))).trans (by first | (with_reducible assumption) | (simp [go_sem]; done) | (simp [go_sem, *]; done) | assumption)
  have g1x2 : w1.cell? ⟨w.heap.size, 2, none⟩ = some (.bool (l)) := (hc1 _ _ (by first | omega | (simp; done) | (simp; omega))).trans (by first | (with_reducible assumption) | (simp [go_sem]; done) | (simp [go_sem, *]; done) | assumption)
  have g1x3 : w1.cell? ⟨w.heap.size, 3, none⟩ = some (.int .i64 (d)) := (hc1 _ _ (by first | omega | (simp; done) | (simp; omega))).trans (by first | (with_reducible assumption) | (simp [go_sem]; done) | (simp [go_sem, *]; done) | assumption)
  have g1x4 : w1.cell? ⟨(w.heap.size + 1), 0, none⟩ = some (.int .i64 (i)) := (hc1 _ _ (by first | omega | (simp; done) | (simp; omega))).trans (by first | (with_reducible assumption) | (simp [go_sem]; done) | (simp [go_sem, *]; done) | assumption)
  have g1x5 : w1.cell? ⟨(w.heap.size + 1), 1, none⟩ = some (.int .i64 (j)) := (hc1 _ _ (by first | omega | (simp; done) | (simp; omega))).trans (by first | (with_reducible assumption) | (simp [go_sem]; done) | (simp [go_sem, *]; done) | assumption)
  have g1x6 : w1.cell? ⟨(w.heap.size + 1), 2, none⟩ = some (.int .i64 (0)) := (hc1 _ _ (by first | omega | (simp; done) | (simp; omega))).trans (by first | (with_reducible assumption) | (simp [go_sem]; done) | (simp [go_sem, *]; done) | assumption)
  have g1x7 : w1.cell? ⟨(w.heap.size + 1), 3, none⟩ = some (.int .i64 (0)) := (hc1 _ _ (by first | omega | (simp; done) | (simp; omega))).trans (by first | (with_reducible assumption) | (simp [go_sem]; done) | (simp [go_sem, *]; done) | assumption)
  go_wp2_with fail
  refine (HX.out _).mono ?_
  rintro e w2 ⟨rfl, hb2⟩
  obtain ⟨hc2, hf2⟩ := bcell hb2
  have hz2 := hb2.size
  try simp at hz2
  go_wp2_with fail
  go_ret
  refine ⟨ret_bool (by first | rfl | (rw [Bool.eq_iff_iff]; done) | (rw [Bool.eq_iff_iff]; simp; done) | (rw [Bool.eq_iff_iff]; simp; omega)), ?_⟩
  repeat (first | (with_reducible exact Below.refl _ _) | (with_reducible assumption) | (with_reducible refine bdrew ?_) | (with_reducible refine baa ?_ _) | (with_reducible refine bs ?_ (by first | exact Nat.le_refl _ | omega | (simp; done) | (simp; omega)) _) | (with_reducible refine bt ?_ (by with_reducible assumption)))
theorem ref17_beyond (y n : Int) (l : Bool) (d i j B : Int) (s : Int) (w : World) (hy : I64 y) (hs : s = 1 ∨ s = -1) (h3 : -3000000 ≤ B) (h4 : B ≤ 3000000) :
    Calls Tryz.prog 127 #[.agg #[.int .i64 (y), .int .i64 (n), .bool (l), .int .i64 (d)], .agg #[.int .i64 (i), .int .i64 (j), .int .i64 (0), .int .i64 (0)], .int .i64 B, .int .i64 s] w fun e w' => e = .returned (.bool (!U17.fit y n l d i j s B)) ∧ Below w.heap.size w w' := by
  obtain ⟨ry, rn, rl, rd, er, hto⟩ := A16.to_some y n l d i j 0 0 0
  have HT := Lib.hid (fun w => ref16_To y n l d i j 0 0 0 w hy ry rn rl rd er (Lib.hid hto))
  by_cases c0 : A16.toE y n l d i j 0 0 0 = 0
  · obtain ⟨rfl, r1, r2, r3, r4⟩ := hto.date c0
    obtain ⟨_, b1, b2⟩ := D10.dayV_ok ry rn rl rd r1
    have HX := Lib.hid (fun w => ref10_ToDay ry rn rl rd w ⟨by omega, by omega⟩)
    rw [r1] at HX
    rcases hs with rfl | rfl
    · have hv : (!U17.fit y n l d i j 1 B) = decide (B < D10.dayV ry rn rl rd) := by
        unfold U17.fit U17.nb
        rw [decide_eq_true c0, if_neg (by omega), ← r2, Bool.true_and]
        rw [Bool.eq_iff_iff]; simp
      rw [hv]
      exact ref17_beyond_up y n l d i j B ry rn rl rd _ w HT HX (by omega) (by omega) h3 h4
    · have hv : (!U17.fit y n l d i j (-1) B) = decide (D10.dayV ry rn rl rd < B) := by
        unfold U17.fit U17.nb
        rw [decide_eq_true c0, if_pos (by omega), ← r2, Bool.true_and]
        rw [Bool.eq_iff_iff]; simp
      rw [hv]
      exact ref17_beyond_down y n l d i j B ry rn rl rd _ w HT HX (by omega) (by omega) h3 h4
  · rw [show (!U17.fit y n l d i j s B) = true by unfold U17.fit; rw [decide_eq_false c0]; rfl]
    exact ref17_beyond_err y n l d i j B s ry rn rl rd er w HT (by rw [hto.e]; simpa using c0)
set_option maxHeartbeats 4000000 in
theorem ref17_most_3 (y n : Int) (l : Bool) (d a B s : Int) (top K : Nat) (p : Nat → Bool) (w : World) (hs : s = 1 ∨ s = -1) (ht : top ≤ 1000000) (hK : K < top)
    (HB : Hid (∀ (m : Nat) (w : World), Calls Tryz.prog 127 #[.agg #[.int .i64 (y), .int .i64 (n), .bool (l), .int .i64 (d)], .agg #[.int .i64 (s * (m : Int)), .int .i64 (0), .int .i64 (0), .int .i64 (0)], .int .i64 B, .int .i64 s] w fun e w' => e = .returned (.bool (!p m)) ∧ Below w.heap.size w w'))
    (hd : Hid (∀ i, i ≤ K → p i = true)) (hu : Hid (∀ i, K < i → p i = false)) :
    Calls Tryz.prog 81 #[.agg #[.int .i64 (y), .int .i64 (n), .bool (l), .int .i64 (d)], .agg #[.int .i64 (0), .int .i64 (0), .int .i64 (0), .int .i64 (0)], .int .i64 3, .int .i64 B, .int .i64 s, .int .i64 top] w fun e w' => e = .returned (.agg #[.int .i64 (s * (K : Int)), .int .i64 (0), .int .i64 (0), .int .i64 (0)]) ∧ Below w.heap.size w w' := by
  go_enter Tryz.func81, Tryz.ntmps81
  go_wp2_with fail
  go_loopw [13, 14] (fun s13 s14 wr => ∃ lo hi : Nat, s13 = .int .i64 lo ∧ s14 = .int .i64 hi ∧ lo ≤ K ∧ K < hi ∧ hi ≤ top ∧ DatAt wr w.heap.size y n l d ∧ SpaAt wr (w.heap.size + 1) 0 0 0 0 ∧ SpaAt wr (w.heap.size + 1 + 1) 0 0 0 0 ∧ Below w.heap.size w wr) (fun s13 s14 _ => (intOf s14 - intOf s13).toNat)
  case atStart => exact ⟨0, top, rfl, rfl, by omega, hK, Nat.le_refl _, ⟨by simp [go_sem], by simp [go_sem], by simp [go_sem], by simp [go_sem], fun i => by simp [go_sem], by first | (simp; done) | (simp; omega)⟩, ⟨by simp [go_sem], by simp [go_sem], by simp [go_sem], by simp [go_sem], fun i => by simp [go_sem], by first | (simp; done) | (simp; omega)⟩, ⟨by simp [go_sem], by simp [go_sem], by simp [go_sem], by simp [go_sem], fun i => by simp [go_sem], by first | (simp; done) | (simp; omega)⟩, by repeat (first | (with_reducible exact Below.refl _ _) | (with_reducible assumption) | (with_reducible refine bdrew ?_) | (with_reducible refine baa ?_ _) | (with_reducible refine bs ?_ (by first | exact Nat.le_refl _ | omega | (simp; done) | (simp; omega)) _) | (with_reducible refine bt ?_ (by with_reducible assumption)))⟩
  case round =>
    obtain ⟨lo, hi, rfl, rfl, h1, h2, h3, hD, hS, hR, hW⟩ := hrel
    have hq := hD
    obtain ⟨d0, d1, d2, d3, df, ds⟩ := hq
    have hq := hS
    obtain ⟨s0, s1, s2, s3, sf, ss⟩ := hq
    by_cases hlt : lo + 1 < hi
    · obtain ⟨m, hm⟩ : ∃ m : Nat, ((lo : Int) + (hi : Int)) / 2 = (m : Int) := ⟨(lo + hi) / 2, by omega⟩
      have hlm : lo < m := by omega
      have hmh : m < hi := by omega
      have hb : -1000000 ≤ s * (m : Int) ∧ s * (m : Int) ≤ 1000000 := by rcases hs with rfl | rfl <;> omega
      have hm1 : IntKind.i64.wrap (s * (m : Int)) = s * (m : Int) := IntWalk.i64_in _ (by omega)
      have HBm := fun x => HB.out m x
      cases hp : p m <;> rw [hp] at HBm
      · have hk : K < m := by
          rcases Nat.lt_or_ge K m with c | c
          · exact c
          · have := hd.out m c
            rw [hp] at this; cases this
        simp only [Bool.not_false] at HBm
        have HBx := Lib.hid HBm
        clear HBm hp hs
        go_wp2_with fail
        refine wp_region_class (by kernel_rfl) (by kernel_rfl) (fun hall => ?_)
        repeat (first | go_big_quiet_skip | (go_big_quiet_want; first | (refine quiet_load1 _ _ _ rfl rfl ?_ ?_ ?_; (focus (intro _; simp; done)); (focus (first | assumption | omega | (simp; done) | (simp; omega))); apply Exists.intro; refine ⟨?_, ?_⟩; assumption; go_simp; go_big_quiet_on) | (refine quiet_load2 _ _ _ _ rfl rfl ?_ ?_ ?_ ?_; (focus (intro _; simp; done)); (focus (intro _; simp; done)); (focus (first | assumption | omega | (simp; done) | (simp; omega))); apply Exists.intro; apply Exists.intro; refine ⟨?_, ?_, ?_⟩; assumption; assumption; go_simp; go_big_quiet_on) | (refine quiet_load3 _ _ _ _ rfl rfl ?_ ?_ ?_ ?_; (focus (intro _; simp; done)); (focus (intro _; simp; done)); (focus (first | assumption | omega | (simp; done) | (simp; omega))); apply Exists.intro; apply Exists.intro; apply Exists.intro; refine ⟨?_, ?_, ?_, ?_⟩; assumption; assumption; assumption; go_simp; go_big_quiet_on) | (refine quiet_load4 _ _ _ _ rfl rfl ?_ ?_ ?_ ?_; (focus (intro _; simp; done)); (focus (intro _; simp; done)); (focus (first | assumption | omega | (simp; done) | (simp; omega))); apply Exists.intro; apply Exists.intro; apply Exists.intro; apply Exists.intro; refine ⟨?_, ?_, ?_, ?_, ?_⟩; assumption; assumption; assumption; assumption; go_simp; go_big_quiet_on) | (go_big_quiet_op; first | go_big_quiet_on | (apply Exists.intro; refine ⟨fun x hx => ?_, ?_⟩; (first | (with_reducible exact call_below hx (ref17_with_3 0 0 0 0 _ x)) | (with_reducible exact call_below hx (HBx.out x)) | exact call_below hx (ref17_with_3 0 0 0 0 _ x) | exact call_below hx (HBx.out x)); go_big_quiet_on))))
        refine wpQuiet_nil ?_
        clear hall
        intro x4 hx4
        go_wp2_with fail
        go_roundw
        case rel => exact ⟨lo, m, rfl, rfl, h1, hk, by omega, dat_below hD hx4, spa_below hS hx4, spa_below hR hx4, bt hW hx4⟩
        case measure => simp [intOf]; omega
      · have hk : m ≤ K := by
          rcases Nat.lt_or_ge K m with c | c
          · have := hu.out m c
            rw [hp] at this; cases this
          · exact c
        simp only [Bool.not_true] at HBm
        have HBx := Lib.hid HBm
        clear HBm hp hs
        go_wp2_with fail
        refine wp_region_class (by kernel_rfl) (by kernel_rfl) (fun hall => ?_)
        repeat (first | go_big_quiet_skip | (go_big_quiet_want; first | (refine quiet_load1 _ _ _ rfl rfl ?_ ?_ ?_; (focus (intro _; simp; done)); (focus (first | assumption | omega | (simp; done) | (simp; omega))); apply Exists.intro; refine ⟨?_, ?_⟩; assumption; go_simp; go_big_quiet_on) | (refine quiet_load2 _ _ _ _ rfl rfl ?_ ?_ ?_ ?_; (focus (intro _; simp; done)); (focus (intro _; simp; done)); (focus (first | assumption | omega | (simp; done) | (simp; omega))); apply Exists.intro; apply Exists.intro; refine ⟨?_, ?_, ?_⟩; assumption; assumption; go_simp; go_big_quiet_on) | (refine quiet_load3 _ _ _ _ rfl rfl ?_ ?_ ?_ ?_; (focus (intro _; simp; done)); (focus (intro _; simp; done)); (focus (first | assumption | omega | (simp; done) | (simp; omega))); apply Exists.intro; apply Exists.intro; apply Exists.intro; refine ⟨?_, ?_, ?_, ?_⟩; assumption; assumption; assumption; go_simp; go_big_quiet_on) | (refine quiet_load4 _ _ _ _ rfl rfl ?_ ?_ ?_ ?_; (focus (intro _; simp; done)); (focus (intro _; simp; done)); (focus (first | assumption | omega | (simp; done) | (simp; omega))); apply Exists.intro; apply Exists.intro; apply Exists.intro; apply Exists.intro; refine ⟨?_, ?_, ?_, ?_, ?_⟩; assumption; assumption; assumption; assumption; go_simp; go_big_quiet_on) | (go_big_quiet_op; first | go_big_quiet_on | (apply Exists.intro; refine ⟨fun x hx => ?_, ?_⟩; (first | (with_reducible exact call_below hx (ref17_with_3 0 0 0 0 _ x)) | (with_reducible exact call_below hx (HBx.out x)) | exact call_below hx (ref17_with_3 0 0 0 0 _ x) | exact call_below hx (HBx.out x)); go_big_quiet_on))))
        refine wpQuiet_nil ?_
        clear hall
        intro x4 hx4
        go_wp2_with fail
        go_roundw
        case rel => exact ⟨m, hi, rfl, rfl, hk, h2, h3, dat_below hD hx4, spa_below hS hx4, spa_below hR hx4, bt hW hx4⟩
        case measure => simp [intOf]; omega
    · obtain rfl : lo = K := by omega
      have hb : -1000000 ≤ s * (lo : Int) ∧ s * (lo : Int) ≤ 1000000 := by rcases hs with rfl | rfl <;> omega
      have hm1 : IntKind.i64.wrap (s * (lo : Int)) = s * (lo : Int) := IntWalk.i64_in _ (by omega)
      clear hs
      go_wp2_with fail
      refine (ref17_with_3 0 0 0 0 _ _).mono ?_
      rintro e w5 ⟨rfl, hb5⟩
      have hq := spa_below hR hb5
      obtain ⟨r0, r1, r2, r3, rf, rs⟩ := hq
      go_wp2_with fail
      refine bodyPost_ret (v := .agg #[.int .i64 (s * (lo : Int)), .int .i64 (0), .int .i64 (0), .int .i64 (0)]) (by simp [results, Tryz.results81, go_sem, *]) rfl ⟨rfl, ?_⟩
      iterate 4 refine Below.setCell ?_ (show w.heap.size ≤ w.heap.size + 1 + 1 by omega) _
      exact bt hW hb5
set_option maxHeartbeats 4000000 in
theorem ref17_most_2 (y n : Int) (l : Bool) (d a B s : Int) (top K : Nat) (p : Nat → Bool) (w : World) (hs : s = 1 ∨ s = -1) (ht : top ≤ 1000000) (hK : K < top)
    (HB : Hid (∀ (m : Nat) (w : World), Calls Tryz.prog 127 #[.agg #[.int .i64 (y), .int .i64 (n), .bool (l), .int .i64 (d)], .agg #[.int .i64 (a), .int .i64 (s * (m : Int)), .int .i64 (0), .int .i64 (0)], .int .i64 B, .int .i64 s] w fun e w' => e = .returned (.bool (!p m)) ∧ Below w.heap.size w w'))
    (hd : Hid (∀ i, i ≤ K → p i = true)) (hu : Hid (∀ i, K < i → p i = false)) :
    Calls Tryz.prog 81 #[.agg #[.int .i64 (y), .int .i64 (n), .bool (l), .int .i64 (d)], .agg #[.int .i64 (a), .int .i64 (0), .int .i64 (0), .int .i64 (0)], .int .i64 2, .int .i64 B, .int .i64 s, .int .i64 top] w fun e w' => e = .returned (.agg #[.int .i64 (a), .int .i64 (s * (K : Int)), .int .i64 (0), .int .i64 (0)]) ∧ Below w.heap.size w w' := by
  go_enter Tryz.func81, Tryz.ntmps81
  go_wp2_with fail
  go_loopw [13, 14] (fun s13 s14 wr => ∃ lo hi : Nat, s13 = .int .i64 lo ∧ s14 = .int .i64 hi ∧ lo ≤ K ∧ K < hi ∧ hi ≤ top ∧ DatAt wr w.heap.size y n l d ∧ SpaAt wr (w.heap.size + 1) a 0 0 0 ∧ SpaAt wr (w.heap.size + 1 + 1) 0 0 0 0 ∧ Below w.heap.size w wr) (fun s13 s14 _ => (intOf s14 - intOf s13).toNat)
  case atStart => exact ⟨0, top, rfl, rfl, by omega, hK, Nat.le_refl _, ⟨by simp [go_sem], by simp [go_sem], by simp [go_sem], by simp [go_sem], fun i => by simp [go_sem], by first | (simp; done) | (simp; omega)⟩, ⟨by simp [go_sem], by simp [go_sem], by simp [go_sem], by simp [go_sem], fun i => by simp [go_sem], by first | (simp; done) | (simp; omega)⟩, ⟨by simp [go_sem], by simp [go_sem], by simp [go_sem], by simp [go_sem], fun i => by simp [go_sem], by first | (simp; done) | (simp; omega)⟩, by repeat (first | (with_reducible exact Below.refl _ _) | (with_reducible assumption) | (with_reducible refine bdrew ?_) | (with_reducible refine baa ?_ _) | (with_reducible refine bs ?_ (by first | exact Nat.le_refl _ | omega | (simp; done) | (simp; omega)) _) | (with_reducible refine bt ?_ (by with_reducible assumption)))⟩
  case round =>
    obtain ⟨lo, hi, rfl, rfl, h1, h2, h3, hD, hS, hR, hW⟩ := hrel
    have hq := hD
    obtain ⟨d0, d1, d2, d3, df, ds⟩ := hq
    have hq := hS
    obtain ⟨s0, s1, s2, s3, sf, ss⟩ := hq
    by_cases hlt : lo + 1 < hi
    · obtain ⟨m, hm⟩ : ∃ m : Nat, ((lo : Int) + (hi : Int)) / 2 = (m : Int) := ⟨(lo + hi) / 2, by omega⟩
      have hlm : lo < m := by omega
      have hmh : m < hi := by omega
      have hb : -1000000 ≤ s * (m : Int) ∧ s * (m : Int) ≤ 1000000 := by rcases hs with rfl | rfl <;> omega
      have hm1 : IntKind.i64.wrap (s * (m : Int)) = s * (m : Int) := IntWalk.i64_in _ (by omega)
      have HBm := fun x => HB.out m x
      cases hp : p m <;> rw [hp] at HBm
      · have hk : K < m := by
          rcases Nat.lt_or_ge K m with c | c
          · exact c
          · have := hd.out m c
            rw [hp] at this; cases this
        simp only [Bool.not_false] at HBm
        have HBx := Lib.hid HBm
        clear HBm hp hs
        go_wp2_with fail
        refine wp_region_class (by kernel_rfl) (by kernel_rfl) (fun hall => ?_)
        repeat (first | go_big_quiet_skip | (go_big_quiet_want; first | (refine quiet_load1 _ _ _ rfl rfl ?_ ?_ ?_; (focus (intro _; simp; done)); (focus (first | assumption | omega | (simp; done) | (simp; omega))); apply Exists.intro; refine ⟨?_, ?_⟩; assumption; go_simp; go_big_quiet_on) | (refine quiet_load2 _ _ _ _ rfl rfl ?_ ?_ ?_ ?_; (focus (intro _; simp; done)); (focus (intro _; simp; done)); (focus (first | assumption | omega | (simp; done) | (simp; omega))); apply Exists.intro; apply Exists.intro; refine ⟨?_, ?_, ?_⟩; assumption; assumption; go_simp; go_big_quiet_on) | (refine quiet_load3 _ _ _ _ rfl rfl ?_ ?_ ?_ ?_; (focus (intro _; simp; done)); (focus (intro _; simp; done)); (focus (first | assumption | omega | (simp; done) | (simp; omega))); apply Exists.intro; apply Exists.intro; apply Exists.intro; refine ⟨?_, ?_, ?_, ?_⟩; assumption; assumption; assumption; go_simp; go_big_quiet_on) | (refine quiet_load4 _ _ _ _ rfl rfl ?_ ?_ ?_ ?_; (focus (intro _; simp; done)); (focus (intro _; simp; done)); (focus (first | assumption | omega | (simp; done) | (simp; omega))); apply Exists.intro; apply Exists.intro; apply Exists.intro; apply Exists.intro; refine ⟨?_, ?_, ?_, ?_, ?_⟩; assumption; assumption; assumption; assumption; go_simp; go_big_quiet_on) | (go_big_quiet_op; first | go_big_quiet_on | (apply Exists.intro; refine ⟨fun x hx => ?_, ?_⟩; (first | (with_reducible exact call_below hx (ref17_with_2 a 0 0 0 _ x)) | (with_reducible exact call_below hx (HBx.out x)) | exact call_below hx (ref17_with_2 a 0 0 0 _ x) | exact call_below hx (HBx.out x)); go_big_quiet_on))))
        refine wpQuiet_nil ?_
        clear hall
        intro x4 hx4
        go_wp2_with fail
        go_roundw
        case rel => exact ⟨lo, m, rfl, rfl, h1, hk, by omega, dat_below hD hx4, spa_below hS hx4, spa_below hR hx4, bt hW hx4⟩
        case measure => simp [intOf]; omega
      · have hk : m ≤ K := by
          rcases Nat.lt_or_ge K m with c | c
          · have := hu.out m c
            rw [hp] at this; cases this
          · exact c
        simp only [Bool.not_true] at HBm
        have HBx := Lib.hid HBm
        clear HBm hp hs
        go_wp2_with fail
        refine wp_region_class (by kernel_rfl) (by kernel_rfl) (fun hall => ?_)
        repeat (first | go_big_quiet_skip | (go_big_quiet_want; first | (refine quiet_load1 _ _ _ rfl rfl ?_ ?_ ?_; (focus (intro _; simp; done)); (focus (first | assumption | omega | (simp; done) | (simp; omega))); apply Exists.intro; refine ⟨?_, ?_⟩; assumption; go_simp; go_big_quiet_on) | (refine quiet_load2 _ _ _ _ rfl rfl ?_ ?_ ?_ ?_; (focus (intro _; simp; done)); (focus (intro _; simp; done)); (focus (first | assumption | omega | (simp; done) | (simp; omega))); apply Exists.intro; apply Exists.intro; refine ⟨?_, ?_, ?_⟩; assumption; assumption; go_simp; go_big_quiet_on) | (refine quiet_load3 _ _ _ _ rfl rfl ?_ ?_ ?_ ?_; (focus (intro _; simp; done)); (focus (intro _; simp; done)); (focus (first | assumption | omega | (simp; done) | (simp; omega))); apply Exists.intro; apply Exists.intro; apply Exists.intro; refine ⟨?_, ?_, ?_, ?_⟩; assumption; assumption; assumption; go_simp; go_big_quiet_on) | (refine quiet_load4 _ _ _ _ rfl rfl ?_ ?_ ?_ ?_; (focus (intro _; simp; done)); (focus (intro _; simp; done)); (focus (first | assumption | omega | (simp; done) | (simp; omega))); apply Exists.intro; apply Exists.intro; apply Exists.intro; apply Exists.intro; refine ⟨?_, ?_, ?_, ?_, ?_⟩; assumption; assumption; assumption; assumption; go_simp; go_big_quiet_on) | (go_big_quiet_op; first | go_big_quiet_on | (apply Exists.intro; refine ⟨fun x hx => ?_, ?_⟩; (first | (with_reducible exact call_below hx (ref17_with_2 a 0 0 0 _ x)) | (with_reducible exact call_below hx (HBx.out x)) | exact call_below hx (ref17_with_2 a 0 0 0 _ x) | exact call_below hx (HBx.out x)); go_big_quiet_on))))
        refine wpQuiet_nil ?_
        clear hall
        intro x4 hx4
        go_wp2_with fail
        go_roundw
        case rel => exact ⟨m, hi, rfl, rfl, hk, h2, h3, dat_below hD hx4, spa_below hS hx4, spa_below hR hx4, bt hW hx4⟩
        case measure => simp [intOf]; omega
    · obtain rfl : lo = K := by omega
      have hb : -1000000 ≤ s * (lo : Int) ∧ s * (lo : Int) ≤ 1000000 := by rcases hs with rfl | rfl <;> omega
      have hm1 : IntKind.i64.wrap (s * (lo : Int)) = s * (lo : Int) := IntWalk.i64_in _ (by omega)
      clear hs
      go_wp2_with fail
      refine (ref17_with_2 a 0 0 0 _ _).mono ?_
      rintro e w5 ⟨rfl, hb5⟩
      have hq := spa_below hR hb5
      obtain ⟨r0, r1, r2, r3, rf, rs⟩ := hq
      go_wp2_with fail
      refine bodyPost_ret (v := .agg #[.int .i64 (a), .int .i64 (s * (lo : Int)), .int .i64 (0), .int .i64 (0)]) (by simp [results, Tryz.results81, go_sem, *]) rfl ⟨rfl, ?_⟩
      iterate 4 refine Below.setCell ?_ (show w.heap.size ≤ w.heap.size + 1 + 1 by omega) _
      exact bt hW hb5
end Go.Proofs.YtafenpgafmdenaaGreatDoor
/- Layer 17: the document's duration. -/
namespace Go.Proofs.YtafenpgafmdenaaGreatDoor
open Go.ChangeShapes Go.WideShapes Go.ChangeAt Go.RowKit
set_option linter.unusedVariables false
set_option maxRecDepth 100000
set_option maxHeartbeats 4000000 in
theorem ref17_Date_low (y n : Int) (l : Bool) (d z k : Int) (h : Bool) (f : Int) (unit : Int) (w : World) (hu : unit < 0) :
    Calls Tryz.prog 35 #[.agg #[.int .i64 (y), .int .i64 (n), .bool (l), .int .i64 (d)], .agg #[.int .i64 (z), .int .i64 (k), .bool (h), .int .i64 (f)], .int .i64 unit] w fun e w' => e = .returned (.tuple #[.agg #[.int .i64 (0), .int .i64 (0), .int .i64 (0), .int .i64 (0)], .int .i64 (1)]) ∧ Below w.heap.size w w' := by
  go_enter Tryz.func35, Tryz.ntmps35
  go_wp2_with fail
  refine bodyPost_ret (v := .tuple #[.agg #[.int .i64 (0), .int .i64 (0), .int .i64 (0), .int .i64 (0)], .int .i64 (1)]) (by simp [results, Tryz.results35, go_sem, *]) rfl ⟨rfl, ?_⟩
  repeat (first | (with_reducible exact Below.refl _ _) | (with_reducible assumption) | (with_reducible refine bdrew ?_) | (with_reducible refine baa ?_ _) | (with_reducible refine bs ?_ (by first | exact Nat.le_refl _ | omega | (simp; done) | (simp; omega)) _) | (with_reducible refine bt ?_ (by with_reducible assumption)))
set_option maxHeartbeats 4000000 in
theorem ref17_Date_high (y n : Int) (l : Bool) (d z k : Int) (h : Bool) (f : Int) (unit : Int) (w : World) (hu0 : 0 ≤ unit) (hu : 3 < unit) :
    Calls Tryz.prog 35 #[.agg #[.int .i64 (y), .int .i64 (n), .bool (l), .int .i64 (d)], .agg #[.int .i64 (z), .int .i64 (k), .bool (h), .int .i64 (f)], .int .i64 unit] w fun e w' => e = .returned (.tuple #[.agg #[.int .i64 (0), .int .i64 (0), .int .i64 (0), .int .i64 (0)], .int .i64 (1)]) ∧ Below w.heap.size w w' := by
  go_enter Tryz.func35, Tryz.ntmps35
  go_wp2_with fail
  refine bodyPost_ret (v := .tuple #[.agg #[.int .i64 (0), .int .i64 (0), .int .i64 (0), .int .i64 (0)], .int .i64 (1)]) (by simp [results, Tryz.results35, go_sem, *]) rfl ⟨rfl, ?_⟩
  repeat (first | (with_reducible exact Below.refl _ _) | (with_reducible assumption) | (with_reducible refine bdrew ?_) | (with_reducible refine baa ?_ _) | (with_reducible refine bs ?_ (by first | exact Nat.le_refl _ | omega | (simp; done) | (simp; omega)) _) | (with_reducible refine bt ?_ (by with_reducible assumption)))
set_option maxHeartbeats 4000000 in
theorem ref17_Date_ea (y n : Int) (l : Bool) (d z k : Int) (h : Bool) (f : Int) (unit D1 er : Int) (w : World) (u0 : 0 ≤ unit) (u3 : unit ≤ 3) (HTa : Hid (∀ w : World, Calls Tryz.prog 37 #[.agg #[.int .i64 (y), .int .i64 (n), .bool (l), .int .i64 (d)]] w fun e w' => e = .returned (.tuple #[.int .i64 (D1), .int .i64 (er)]) ∧ Below w.heap.size w w')) (hne : (er != 0) = true) :
    Calls Tryz.prog 35 #[.agg #[.int .i64 (y), .int .i64 (n), .bool (l), .int .i64 (d)], .agg #[.int .i64 (z), .int .i64 (k), .bool (h), .int .i64 (f)], .int .i64 unit] w fun e w' => e = .returned (.tuple #[.agg #[.int .i64 (0), .int .i64 (0), .int .i64 (0), .int .i64 (0)], .int .i64 (er)]) ∧ Below w.heap.size w w' := by
  go_enter Tryz.func35, Tryz.ntmps35
  go_wp2_with fail
  refine (HTa.out _).mono ?_
  rintro e w1 ⟨rfl, hb1⟩
  obtain ⟨hc1, hf1⟩ := bcell hb1
  have hz1 := hb1.size
  try simp at hz1
  have hs1x0 : w.heap.size < w1.heap.size := by omega
  have hs1x1 : (w.heap.size + 1) < w1.heap.size := by omega
  have hs1x2 : (w.heap.size + 1 + 1) < w1.heap.size := by omega
  have g1x0 : w1.cell? ⟨w.heap.size, 0, none⟩ = some (.int .i64 (y)) := (hc1 _ _ (by first | omega | (simp; done) | (simp; omega))).trans (by first | (with_reducible assumption) | (simp [go_sem]; done) | (simp [go_sem, *]; done) | assumption)
  have g1x1 : w1.cell? ⟨w.heap.size, 1, none⟩ = some (.int .i64 (n)) := (hc1 _ _ (by first | omega | (simp; done) | (simp; omega))).trans (by first | (with_reducible assumption) | (simp [go_sem]; done) | (simp [go_sem, *]; done) | assumption)
  have g1x2 : w1.cell? ⟨w.heap.size, 2, none⟩ = some (.bool (l)) := (hc1 _ _ (by first | omega | (simp; done) | (simp; omega))).trans (by first | (with_reducible assumption) | (simp [go_sem]; done) | (simp [go_sem, *]; done) | assumption)
  have g1x3 : w1.cell? ⟨w.heap.size, 3, none⟩ = some (.int .i64 (d)) := (hc1 _ _ (by first | omega | (simp; done) | (simp; omega))).trans (by first | (with_reducible assumption) | (simp [go_sem]; done) | (simp [go_sem, *]; done) | assumption)
  have g1x4 : w1.cell? ⟨(w.heap.size + 1), 0, none⟩ = some (.int .i64 (z)) := (hc1 _ _ (by first | omega | (simp; done) | (simp; omega))).trans (by first | (with_reducible assumption) | (simp [go_sem]; done) | (simp [go_sem, *]; done) | assumption)
  have g1x5 : w1.cell? ⟨(w.heap.size + 1), 1, none⟩ = some (.int .i64 (k)) := (hc1 _ _ (by first | omega | (simp; done) | (simp; omega))).trans (by first | (with_reducible assumption) | (simp [go_sem]; done) | (simp [go_sem, *]; done) | assumption)
  have g1x6 : w1.cell? ⟨(w.heap.size + 1), 2, none⟩ = some (.bool (h)) := (hc1 _ _ (by first | omega | (simp; done) | (simp; omega))).trans (by first | (with_reducible assumption) | (simp [go_sem]; done) | (simp [go_sem, *]; done) | assumption)
  have g1x7 : w1.cell? ⟨(w.heap.size + 1), 3, none⟩ = some (.int .i64 (f)) := (hc1 _ _ (by first | omega | (simp; done) | (simp; omega))).trans (by first | (with_reducible assumption) | (simp [go_sem]; done) | (simp [go_sem, *]; done) | assumption)
  have g1x8 : w1.cell? ⟨(w.heap.size + 1 + 1), 0, none⟩ = some (.int .i64 (0)) := (hc1 _ _ (by first | omega | (simp; done) | (simp; omega))).trans (by first | (with_reducible assumption) | (simp [go_sem]; done) | (simp [go_sem, *]; done) | assumption)
  have g1x9 : w1.cell? ⟨(w.heap.size + 1 + 1), 1, none⟩ = some (.int .i64 (0)) := (hc1 _ _ (by first | omega | (simp; done) | (simp; omega))).trans (by first | (with_reducible assumption) | (simp [go_sem]; done) | (simp [go_sem, *]; done) | assumption)
  have g1x10 : w1.cell? ⟨(w.heap.size + 1 + 1), 2, none⟩ = some (.int .i64 (0)) := (hc1 _ _ (by first | omega | (simp; done) | (simp; omega))).trans (by first | (with_reducible assumption) | (simp [go_sem]; done) | (simp [go_sem, *]; done) | assumption)
  have g1x11 : w1.cell? ⟨(w.heap.size + 1 + 1), 3, none⟩ = some (.int .i64 (0)) := (hc1 _ _ (by first | omega | (simp; done) | (simp; omega))).trans (by first | (with_reducible assumption) | (simp [go_sem]; done) | (simp [go_sem, *]; done) | assumption)
  go_wp2_with fail
  refine bodyPost_ret (v := .tuple #[.agg #[.int .i64 (0), .int .i64 (0), .int .i64 (0), .int .i64 (0)], .int .i64 (er)]) (by simp [results, Tryz.results35, go_sem, *]) rfl ⟨rfl, ?_⟩
  repeat (first | (with_reducible exact Below.refl _ _) | (with_reducible assumption) | (with_reducible refine bdrew ?_) | (with_reducible refine baa ?_ _) | (with_reducible refine bs ?_ (by first | exact Nat.le_refl _ | omega | (simp; done) | (simp; omega)) _) | (with_reducible refine bt ?_ (by with_reducible assumption)))
set_option maxHeartbeats 4000000 in
theorem ref17_Date_eb (y n : Int) (l : Bool) (d z k : Int) (h : Bool) (f : Int) (unit D1 D2 er : Int) (w : World) (u0 : 0 ≤ unit) (u3 : unit ≤ 3) (HTa : Hid (∀ w : World, Calls Tryz.prog 37 #[.agg #[.int .i64 (y), .int .i64 (n), .bool (l), .int .i64 (d)]] w fun e w' => e = .returned (.tuple #[.int .i64 (D1), .int .i64 (0)]) ∧ Below w.heap.size w w')) (HTb : Hid (∀ w : World, Calls Tryz.prog 37 #[.agg #[.int .i64 (z), .int .i64 (k), .bool (h), .int .i64 (f)]] w fun e w' => e = .returned (.tuple #[.int .i64 (D2), .int .i64 (er)]) ∧ Below w.heap.size w w')) (hne : (er != 0) = true) :
    Calls Tryz.prog 35 #[.agg #[.int .i64 (y), .int .i64 (n), .bool (l), .int .i64 (d)], .agg #[.int .i64 (z), .int .i64 (k), .bool (h), .int .i64 (f)], .int .i64 unit] w fun e w' => e = .returned (.tuple #[.agg #[.int .i64 (0), .int .i64 (0), .int .i64 (0), .int .i64 (0)], .int .i64 (er)]) ∧ Below w.heap.size w w' := by
  go_enter Tryz.func35, Tryz.ntmps35
  go_wp2_with fail
  refine (HTa.out _).mono ?_
  rintro e w1 ⟨rfl, hb1⟩
  obtain ⟨hc1, hf1⟩ := bcell hb1
  have hz1 := hb1.size
  try simp at hz1
  have hs1x0 : w.heap.size < w1.heap.size := by omega
  have hs1x1 : (w.heap.size + 1) < w1.heap.size := by omega
  have hs1x2 : (w.heap.size + 1 + 1) < w1.heap.size := by omega
  have g1x0 : w1.cell? ⟨w.heap.size, 0, none⟩ = some (.int .i64 (y)) := (hc1 _ _ (by first | omega | (simp; done) | (simp; omega))).trans (by first | (with_reducible assumption) | (simp [go_sem]; done) | (simp [go_sem, *]; done) | assumption)
  have g1x1 : w1.cell? ⟨w.heap.size, 1, none⟩ = some (.int .i64 (n)) := (hc1 _ _ (by first | omega | (simp; done) | (simp; omega))).trans (by first | (with_reducible assumption) | (simp [go_sem]; done) | (simp [go_sem, *]; done) | assumption)
  have g1x2 : w1.cell? ⟨w.heap.size, 2, none⟩ = some (.bool (l)) := (hc1 _ _ (by first | omega | (simp; done) | (simp; omega))).trans (by first | (with_reducible assumption) | (simp [go_sem]; done) | (simp [go_sem, *]; done) | assumption)
  have g1x3 : w1.cell? ⟨w.heap.size, 3, none⟩ = some (.int .i64 (d)) := (hc1 _ _ (by first | omega | (simp; done) | (simp; omega))).trans (by first | (with_reducible assumption) | (simp [go_sem]; done) | (simp [go_sem, *]; done) | assumption)
  have g1x4 : w1.cell? ⟨(w.heap.size + 1), 0, none⟩ = some (.int .i64 (z)) := (hc1 _ _ (by first | omega | (simp; done) | (simp; omega))).trans (by first | (with_reducible assumption) | (simp [go_sem]; done) | (simp [go_sem, *]; done) | assumption)
  have g1x5 : w1.cell? ⟨(w.heap.size + 1), 1, none⟩ = some (.int .i64 (k)) := (hc1 _ _ (by first | omega | (simp; done) | (simp; omega))).trans (by first | (with_reducible assumption) | (simp [go_sem]; done) | (simp [go_sem, *]; done) | assumption)
  have g1x6 : w1.cell? ⟨(w.heap.size + 1), 2, none⟩ = some (.bool (h)) := (hc1 _ _ (by first | omega | (simp; done) | (simp; omega))).trans (by first | (with_reducible assumption) | (simp [go_sem]; done) | (simp [go_sem, *]; done) | assumption)
  have g1x7 : w1.cell? ⟨(w.heap.size + 1), 3, none⟩ = some (.int .i64 (f)) := (hc1 _ _ (by first | omega | (simp; done) | (simp; omega))).trans (by first | (with_reducible assumption) | (simp [go_sem]; done) | (simp [go_sem, *]; done) | assumption)
  have g1x8 : w1.cell? ⟨(w.heap.size + 1 + 1), 0, none⟩ = some (.int .i64 (0)) := (hc1 _ _ (by first | omega | (simp; done) | (simp; omega))).trans (by first | (with_reducible assumption) | (simp [go_sem]; done) | (simp [go_sem, *]; done) | assumption)
  have g1x9 : w1.cell? ⟨(w.heap.size + 1 + 1), 1, none⟩ = some (.int .i64 (0)) := (hc1 _ _ (by first | omega | (simp; done) | (simp; omega))).trans (by first | (with_reducible assumption) | (simp [go_sem]; done) | (simp [go_sem, *]; done) | assumption)
  have g1x10 : w1.cell? ⟨(w.heap.size + 1 + 1), 2, none⟩ = some (.int .i64 (0)) := (hc1 _ _ (by first | omega | (simp; done) | (simp; omega))).trans (by first | (with_reducible assumption) | (simp [go_sem]; done) | (simp [go_sem, *]; done) | assumption)
  have g1x11 : w1.cell? ⟨(w.heap.size + 1 + 1), 3, none⟩ = some (.int .i64 (0)) := (hc1 _ _ (by first | omega | (simp; done) | (simp; omega))).trans (by first | (with_reducible assumption) | (simp [go_sem]; done) | (simp [go_sem, *]; done) | assumption)
  go_wp2_with fail
  refine (HTb.out _).mono ?_
  rintro e w2 ⟨rfl, hb2⟩
  obtain ⟨hc2, hf2⟩ := bcell hb2
  have hz2 := hb2.size
  try simp at hz2
  have hs2x0 : w.heap.size < w2.heap.size := by omega
  have hs2x1 : (w.heap.size + 1) < w2.heap.size := by omega
  have hs2x2 : (w.heap.size + 1 + 1) < w2.heap.size := by omega
  have g2x0 : w2.cell? ⟨w.heap.size, 0, none⟩ = some (.int .i64 (y)) := (hc2 _ _ (by first | omega | (simp; done) | (simp; omega))).trans (by first | (with_reducible assumption) | (simp [go_sem]; done) | (simp [go_sem, *]; done) | assumption)
  have g2x1 : w2.cell? ⟨w.heap.size, 1, none⟩ = some (.int .i64 (n)) := (hc2 _ _ (by first | omega | (simp; done) | (simp; omega))).trans (by first | (with_reducible assumption) | (simp [go_sem]; done) | (simp [go_sem, *]; done) | assumption)
  have g2x2 : w2.cell? ⟨w.heap.size, 2, none⟩ = some (.bool (l)) := (hc2 _ _ (by first | omega | (simp; done) | (simp; omega))).trans (by first | (with_reducible assumption) | (simp [go_sem]; done) | (simp [go_sem, *]; done) | assumption)
  have g2x3 : w2.cell? ⟨w.heap.size, 3, none⟩ = some (.int .i64 (d)) := (hc2 _ _ (by first | omega | (simp; done) | (simp; omega))).trans (by first | (with_reducible assumption) | (simp [go_sem]; done) | (simp [go_sem, *]; done) | assumption)
  have g2x4 : w2.cell? ⟨(w.heap.size + 1), 0, none⟩ = some (.int .i64 (z)) := (hc2 _ _ (by first | omega | (simp; done) | (simp; omega))).trans (by first | (with_reducible assumption) | (simp [go_sem]; done) | (simp [go_sem, *]; done) | assumption)
  have g2x5 : w2.cell? ⟨(w.heap.size + 1), 1, none⟩ = some (.int .i64 (k)) := (hc2 _ _ (by first | omega | (simp; done) | (simp; omega))).trans (by first | (with_reducible assumption) | (simp [go_sem]; done) | (simp [go_sem, *]; done) | assumption)
  have g2x6 : w2.cell? ⟨(w.heap.size + 1), 2, none⟩ = some (.bool (h)) := (hc2 _ _ (by first | omega | (simp; done) | (simp; omega))).trans (by first | (with_reducible assumption) | (simp [go_sem]; done) | (simp [go_sem, *]; done) | assumption)
  have g2x7 : w2.cell? ⟨(w.heap.size + 1), 3, none⟩ = some (.int .i64 (f)) := (hc2 _ _ (by first | omega | (simp; done) | (simp; omega))).trans (by first | (with_reducible assumption) | (simp [go_sem]; done) | (simp [go_sem, *]; done) | assumption)
  have g2x8 : w2.cell? ⟨(w.heap.size + 1 + 1), 0, none⟩ = some (.int .i64 (0)) := (hc2 _ _ (by first | omega | (simp; done) | (simp; omega))).trans (by first | (with_reducible assumption) | (simp [go_sem]; done) | (simp [go_sem, *]; done) | assumption)
  have g2x9 : w2.cell? ⟨(w.heap.size + 1 + 1), 1, none⟩ = some (.int .i64 (0)) := (hc2 _ _ (by first | omega | (simp; done) | (simp; omega))).trans (by first | (with_reducible assumption) | (simp [go_sem]; done) | (simp [go_sem, *]; done) | assumption)
  have g2x10 : w2.cell? ⟨(w.heap.size + 1 + 1), 2, none⟩ = some (.int .i64 (0)) := (hc2 _ _ (by first | omega | (simp; done) | (simp; omega))).trans (by first | (with_reducible assumption) | (simp [go_sem]; done) | (simp [go_sem, *]; done) | assumption)
  have g2x11 : w2.cell? ⟨(w.heap.size + 1 + 1), 3, none⟩ = some (.int .i64 (0)) := (hc2 _ _ (by first | omega | (simp; done) | (simp; omega))).trans (by first | (with_reducible assumption) | (simp [go_sem]; done) | (simp [go_sem, *]; done) | assumption)
  go_wp2_with fail
  refine bodyPost_ret (v := .tuple #[.agg #[.int .i64 (0), .int .i64 (0), .int .i64 (0), .int .i64 (0)], .int .i64 (er)]) (by simp [results, Tryz.results35, go_sem, *]) rfl ⟨rfl, ?_⟩
  repeat (first | (with_reducible exact Below.refl _ _) | (with_reducible assumption) | (with_reducible refine bdrew ?_) | (with_reducible refine baa ?_ _) | (with_reducible refine bs ?_ (by first | exact Nat.le_refl _ | omega | (simp; done) | (simp; omega)) _) | (with_reducible refine bt ?_ (by with_reducible assumption)))
set_option maxHeartbeats 4000000 in
theorem ref17_Date_u1_up (y n : Int) (l : Bool) (d z k : Int) (h : Bool) (f : Int) (D1 D2 : Int) (w : World) (HTa : Hid (∀ w : World, Calls Tryz.prog 37 #[.agg #[.int .i64 (y), .int .i64 (n), .bool (l), .int .i64 (d)]] w fun e w' => e = .returned (.tuple #[.int .i64 (D1), .int .i64 (0)]) ∧ Below w.heap.size w w')) (HTb : Hid (∀ w : World, Calls Tryz.prog 37 #[.agg #[.int .i64 (z), .int .i64 (k), .bool (h), .int .i64 (f)]] w fun e w' => e = .returned (.tuple #[.int .i64 (D2), .int .i64 (0)]) ∧ Below w.heap.size w w')) (h11 : -3000000 ≤ D1) (h12 : D1 ≤ 3000000) (h21 : -3000000 ≤ D2) (h22 : D2 ≤ 3000000) (hs : D1 ≤ D2) :
    Calls Tryz.prog 35 #[.agg #[.int .i64 (y), .int .i64 (n), .bool (l), .int .i64 (d)], .agg #[.int .i64 (z), .int .i64 (k), .bool (h), .int .i64 (f)], .int .i64 1] w fun e w' => e = .returned (.tuple #[.agg #[.int .i64 (0), .int .i64 (0), .int .i64 ((D2 - D1).tdiv 7), .int .i64 ((D2 - D1) % 7)], .int .i64 (0)]) ∧ Below w.heap.size w w' := by
  have b1 : -10000000 ≤ (D2 - D1).tdiv 7 ∧ (D2 - D1).tdiv 7 ≤ 10000000 := by
    by_cases c : 0 ≤ D2 - D1
    · rw [Int.tdiv_eq_ediv_of_nonneg c]; omega
    · have : (D2 - D1).tdiv 7 = -((-(D2 - D1)) / 7) := by rw [← Int.tdiv_eq_ediv_of_nonneg (by omega), Int.neg_tdiv, Int.neg_neg]
      omega
  have hwr : IntKind.i64.wrap ((D2 - D1).tdiv 7) = (D2 - D1).tdiv 7 := IntWalk.i64_in _ (by omega)
  have q0 : 0 ≤ D2 - D1 := by omega
  obtain ⟨b2, b3⟩ := b1
  go_enter Tryz.func35, Tryz.ntmps35
  go_wp2_with fail
  refine (HTa.out _).mono ?_
  rintro e w1 ⟨rfl, hb1⟩
  obtain ⟨hc1, hf1⟩ := bcell hb1
  have hz1 := hb1.size
  try simp at hz1
  have hs1x0 : w.heap.size < w1.heap.size := by omega
  have hs1x1 : (w.heap.size + 1) < w1.heap.size := by omega
  have hs1x2 : (w.heap.size + 1 + 1) < w1.heap.size := by omega
  have g1x0 : w1.cell? ⟨w.heap.size, 0, none⟩ = some (.int .i64 (y)) := (hc1 _ _ (by first | omega | (simp; done) | (simp; omega))).trans (by first | (with_reducible assumption) | (simp [go_sem]; done) | (simp [go_sem, *]; done) | assumption)
  have g1x1 : w1.cell? ⟨w.heap.size, 1, none⟩ = some (.int .i64 (n)) := (hc1 _ _ (by first | omega | (simp; done) | (simp; omega))).trans (by first | (with_reducible assumption) | (simp [go_sem]; done) | (simp [go_sem, *]; done) | assumption)
  have g1x2 : w1.cell? ⟨w.heap.size, 2, none⟩ = some (.bool (l)) := (hc1 _ _ (by first | omega | (simp; done) | (simp; omega))).trans (by first | (with_reducible assumption) | (simp [go_sem]; done) | (simp [go_sem, *]; done) | assumption)
  have g1x3 : w1.cell? ⟨w.heap.size, 3, none⟩ = some (.int .i64 (d)) := (hc1 _ _ (by first | omega | (simp; done) | (simp; omega))).trans (by first | (with_reducible assumption) | (simp [go_sem]; done) | (simp [go_sem, *]; done) | assumption)
  have g1x4 : w1.cell? ⟨(w.heap.size + 1), 0, none⟩ = some (.int .i64 (z)) := (hc1 _ _ (by first | omega | (simp; done) | (simp; omega))).trans (by first | (with_reducible assumption) | (simp [go_sem]; done) | (simp [go_sem, *]; done) | assumption)
  have g1x5 : w1.cell? ⟨(w.heap.size + 1), 1, none⟩ = some (.int .i64 (k)) := (hc1 _ _ (by first | omega | (simp; done) | (simp; omega))).trans (by first | (with_reducible assumption) | (simp [go_sem]; done) | (simp [go_sem, *]; done) | assumption)
  have g1x6 : w1.cell? ⟨(w.heap.size + 1), 2, none⟩ = some (.bool (h)) := (hc1 _ _ (by first | omega | (simp; done) | (simp; omega))).trans (by first | (with_reducible assumption) | (simp [go_sem]; done) | (simp [go_sem, *]; done) | assumption)
  have g1x7 : w1.cell? ⟨(w.heap.size + 1), 3, none⟩ = some (.int .i64 (f)) := (hc1 _ _ (by first | omega | (simp; done) | (simp; omega))).trans (by first | (with_reducible assumption) | (simp [go_sem]; done) | (simp [go_sem, *]; done) | assumption)
  have g1x8 : w1.cell? ⟨(w.heap.size + 1 + 1), 0, none⟩ = some (.int .i64 (0)) := (hc1 _ _ (by first | omega | (simp; done) | (simp; omega))).trans (by first | (with_reducible assumption) | (simp [go_sem]; done) | (simp [go_sem, *]; done) | assumption)
  have g1x9 : w1.cell? ⟨(w.heap.size + 1 + 1), 1, none⟩ = some (.int .i64 (0)) := (hc1 _ _ (by first | omega | (simp; done) | (simp; omega))).trans (by first | (with_reducible assumption) | (simp [go_sem]; done) | (simp [go_sem, *]; done) | assumption)
  have g1x10 : w1.cell? ⟨(w.heap.size + 1 + 1), 2, none⟩ = some (.int .i64 (0)) := (hc1 _ _ (by first | omega | (simp; done) | (simp; omega))).trans (by first | (with_reducible assumption) | (simp [go_sem]; done) | (simp [go_sem, *]; done) | assumption)
  have g1x11 : w1.cell? ⟨(w.heap.size + 1 + 1), 3, none⟩ = some (.int .i64 (0)) := (hc1 _ _ (by first | omega | (simp; done) | (simp; omega))).trans (by first | (with_reducible assumption) | (simp [go_sem]; done) | (simp [go_sem, *]; done) | assumption)
  go_wp2_with fail
  refine (HTb.out _).mono ?_
  rintro e w2 ⟨rfl, hb2⟩
  obtain ⟨hc2, hf2⟩ := bcell hb2
  have hz2 := hb2.size
  try simp at hz2
  have hs2x0 : w.heap.size < w2.heap.size := by omega
  have hs2x1 : (w.heap.size + 1) < w2.heap.size := by omega
  have hs2x2 : (w.heap.size + 1 + 1) < w2.heap.size := by omega
  have g2x0 : w2.cell? ⟨w.heap.size, 0, none⟩ = some (.int .i64 (y)) := (hc2 _ _ (by first | omega | (simp; done) | (simp; omega))).trans (by first | (with_reducible assumption) | (simp [go_sem]; done) | (simp [go_sem, *]; done) | assumption)
  have g2x1 : w2.cell? ⟨w.heap.size, 1, none⟩ = some (.int .i64 (n)) := (hc2 _ _ (by first | omega | (simp; done) | (simp; omega))).trans (by first | (with_reducible assumption) | (simp [go_sem]; done) | (simp [go_sem, *]; done) | assumption)
  have g2x2 : w2.cell? ⟨w.heap.size, 2, none⟩ = some (.bool (l)) := (hc2 _ _ (by first | omega | (simp; done) | (simp; omega))).trans (by first | (with_reducible assumption) | (simp [go_sem]; done) | (simp [go_sem, *]; done) | assumption)
  have g2x3 : w2.cell? ⟨w.heap.size, 3, none⟩ = some (.int .i64 (d)) := (hc2 _ _ (by first | omega | (simp; done) | (simp; omega))).trans (by first | (with_reducible assumption) | (simp [go_sem]; done) | (simp [go_sem, *]; done) | assumption)
  have g2x4 : w2.cell? ⟨(w.heap.size + 1), 0, none⟩ = some (.int .i64 (z)) := (hc2 _ _ (by first | omega | (simp; done) | (simp; omega))).trans (by first | (with_reducible assumption) | (simp [go_sem]; done) | (simp [go_sem, *]; done) | assumption)
  have g2x5 : w2.cell? ⟨(w.heap.size + 1), 1, none⟩ = some (.int .i64 (k)) := (hc2 _ _ (by first | omega | (simp; done) | (simp; omega))).trans (by first | (with_reducible assumption) | (simp [go_sem]; done) | (simp [go_sem, *]; done) | assumption)
  have g2x6 : w2.cell? ⟨(w.heap.size + 1), 2, none⟩ = some (.bool (h)) := (hc2 _ _ (by first | omega | (simp; done) | (simp; omega))).trans (by first | (with_reducible assumption) | (simp [go_sem]; done) | (simp [go_sem, *]; done) | assumption)
  have g2x7 : w2.cell? ⟨(w.heap.size + 1), 3, none⟩ = some (.int .i64 (f)) := (hc2 _ _ (by first | omega | (simp; done) | (simp; omega))).trans (by first | (with_reducible assumption) | (simp [go_sem]; done) | (simp [go_sem, *]; done) | assumption)
  have g2x8 : w2.cell? ⟨(w.heap.size + 1 + 1), 0, none⟩ = some (.int .i64 (0)) := (hc2 _ _ (by first | omega | (simp; done) | (simp; omega))).trans (by first | (with_reducible assumption) | (simp [go_sem]; done) | (simp [go_sem, *]; done) | assumption)
  have g2x9 : w2.cell? ⟨(w.heap.size + 1 + 1), 1, none⟩ = some (.int .i64 (0)) := (hc2 _ _ (by first | omega | (simp; done) | (simp; omega))).trans (by first | (with_reducible assumption) | (simp [go_sem]; done) | (simp [go_sem, *]; done) | assumption)
  have g2x10 : w2.cell? ⟨(w.heap.size + 1 + 1), 2, none⟩ = some (.int .i64 (0)) := (hc2 _ _ (by first | omega | (simp; done) | (simp; omega))).trans (by first | (with_reducible assumption) | (simp [go_sem]; done) | (simp [go_sem, *]; done) | assumption)
  have g2x11 : w2.cell? ⟨(w.heap.size + 1 + 1), 3, none⟩ = some (.int .i64 (0)) := (hc2 _ _ (by first | omega | (simp; done) | (simp; omega))).trans (by first | (with_reducible assumption) | (simp [go_sem]; done) | (simp [go_sem, *]; done) | assumption)
  go_wp2_with fail
  refine bodyPost_ret (v := .tuple #[.agg #[.int .i64 (0), .int .i64 (0), .int .i64 ((D2 - D1).tdiv 7), .int .i64 ((D2 - D1) % 7)], .int .i64 (0)]) (by simp [results, Tryz.results35, go_sem, *]) rfl ⟨rfl, ?_⟩
  repeat (first | (with_reducible exact Below.refl _ _) | (with_reducible assumption) | (with_reducible refine bdrew ?_) | (with_reducible refine baa ?_ _) | (with_reducible refine bs ?_ (by first | exact Nat.le_refl _ | omega | (simp; done) | (simp; omega)) _) | (with_reducible refine bt ?_ (by with_reducible assumption)))
set_option maxHeartbeats 4000000 in
theorem ref17_Date_u0_up (y n : Int) (l : Bool) (d z k : Int) (h : Bool) (f : Int) (ry rn : Int) (rl : Bool) (rd D1 D2 D3 : Int) (w : World) (HTa : Hid (∀ w : World, Calls Tryz.prog 37 #[.agg #[.int .i64 (y), .int .i64 (n), .bool (l), .int .i64 (d)]] w fun e w' => e = .returned (.tuple #[.int .i64 (D1), .int .i64 (0)]) ∧ Below w.heap.size w w')) (HTb : Hid (∀ w : World, Calls Tryz.prog 37 #[.agg #[.int .i64 (z), .int .i64 (k), .bool (h), .int .i64 (f)]] w fun e w' => e = .returned (.tuple #[.int .i64 (D2), .int .i64 (0)]) ∧ Below w.heap.size w w')) (HTo : Hid (∀ w : World, Calls Tryz.prog 28 #[.agg #[.int .i64 (y), .int .i64 (n), .bool (l), .int .i64 (d)], .agg #[.int .i64 (0), .int .i64 (0), .int .i64 (0), .int .i64 (0)], .int .i64 0] w fun e w' => e = .returned (.tuple #[.agg #[.int .i64 (ry), .int .i64 (rn), .bool (rl), .int .i64 (rd)], .int .i64 (0)]) ∧ Below w.heap.size w w')) (HX : Hid (∀ w : World, Calls Tryz.prog 37 #[.agg #[.int .i64 (ry), .int .i64 (rn), .bool (rl), .int .i64 (rd)]] w fun e w' => e = .returned (.tuple #[.int .i64 D3, .int .i64 0]) ∧ Below w.heap.size w w')) (h11 : -3000000 ≤ D1) (h12 : D1 ≤ 3000000) (h21 : -3000000 ≤ D2) (h22 : D2 ≤ 3000000) (h31 : -3000000 ≤ D3) (h32 : D3 ≤ 3000000) (hs : D1 ≤ D2) :
    Calls Tryz.prog 35 #[.agg #[.int .i64 (y), .int .i64 (n), .bool (l), .int .i64 (d)], .agg #[.int .i64 (z), .int .i64 (k), .bool (h), .int .i64 (f)], .int .i64 0] w fun e w' => e = .returned (.tuple #[.agg #[.int .i64 (0), .int .i64 (0), .int .i64 (0), .int .i64 (D2 - D3)], .int .i64 (0)]) ∧ Below w.heap.size w w' := by
  go_enter Tryz.func35, Tryz.ntmps35
  go_wp2_with fail
  refine (HTa.out _).mono ?_
  rintro e w1 ⟨rfl, hb1⟩
  obtain ⟨hc1, hf1⟩ := bcell hb1
  have hz1 := hb1.size
  try simp at hz1
  have hs1x0 : w.heap.size < w1.heap.size := by omega
  have hs1x1 : (w.heap.size + 1) < w1.heap.size := by omega
  have hs1x2 : (w.heap.size + 1 + 1) < w1.heap.size := by omega
  have g1x0 : w1.cell? ⟨w.heap.size, 0, none⟩ = some (.int .i64 (y)) := (hc1 _ _ (by first | omega | (simp; done) | (simp; omega))).trans (by first | (with_reducible assumption) | (simp [go_sem]; done) | (simp [go_sem, *]; done) | assumption)
  have g1x1 : w1.cell? ⟨w.heap.size, 1, none⟩ = some (.int .i64 (n)) := (hc1 _ _ (by first | omega | (simp; done) | (simp; omega))).trans (by first | (with_reducible assumption) | (simp [go_sem]; done) | (simp [go_sem, *]; done) | assumption)
  have g1x2 : w1.cell? ⟨w.heap.size, 2, none⟩ = some (.bool (l)) := (hc1 _ _ (by first | omega | (simp; done) | (simp; omega))).trans (by first | (with_reducible assumption) | (simp [go_sem]; done) | (simp [go_sem, *]; done) | assumption)
  have g1x3 : w1.cell? ⟨w.heap.size, 3, none⟩ = some (.int .i64 (d)) := (hc1 _ _ (by first | omega | (simp; done) | (simp; omega))).trans (by first | (with_reducible assumption) | (simp [go_sem]; done) | (simp [go_sem, *]; done) | assumption)
  have g1x4 : w1.cell? ⟨(w.heap.size + 1), 0, none⟩ = some (.int .i64 (z)) := (hc1 _ _ (by first | omega | (simp; done) | (simp; omega))).trans (by first | (with_reducible assumption) | (simp [go_sem]; done) | (simp [go_sem, *]; done) | assumption)
  have g1x5 : w1.cell? ⟨(w.heap.size + 1), 1, none⟩ = some (.int .i64 (k)) := (hc1 _ _ (by first | omega | (simp; done) | (simp; omega))).trans (by first | (with_reducible assumption) | (simp [go_sem]; done) | (simp [go_sem, *]; done) | assumption)
  have g1x6 : w1.cell? ⟨(w.heap.size + 1), 2, none⟩ = some (.bool (h)) := (hc1 _ _ (by first | omega | (simp; done) | (simp; omega))).trans (by first | (with_reducible assumption) | (simp [go_sem]; done) | (simp [go_sem, *]; done) | assumption)
  have g1x7 : w1.cell? ⟨(w.heap.size + 1), 3, none⟩ = some (.int .i64 (f)) := (hc1 _ _ (by first | omega | (simp; done) | (simp; omega))).trans (by first | (with_reducible assumption) | (simp [go_sem]; done) | (simp [go_sem, *]; done) | assumption)
  have g1x8 : w1.cell? ⟨(w.heap.size + 1 + 1), 0, none⟩ = some (.int .i64 (0)) := (hc1 _ _ (by first | omega | (simp; done) | (simp; omega))).trans (by first | (with_reducible assumption) | (simp [go_sem]; done) | (simp [go_sem, *]; done) | assumption)
  have g1x9 : w1.cell? ⟨(w.heap.size + 1 + 1), 1, none⟩ = some (.int .i64 (0)) := (hc1 _ _ (by first | omega | (simp; done) | (simp; omega))).trans (by first | (with_reducible assumption) | (simp [go_sem]; done) | (simp [go_sem, *]; done) | assumption)
  have g1x10 : w1.cell? ⟨(w.heap.size + 1 + 1), 2, none⟩ = some (.int .i64 (0)) := (hc1 _ _ (by first | omega | (simp; done) | (simp; omega))).trans (by first | (with_reducible assumption) | (simp [go_sem]; done) | (simp [go_sem, *]; done) | assumption)
  have g1x11 : w1.cell? ⟨(w.heap.size + 1 + 1), 3, none⟩ = some (.int .i64 (0)) := (hc1 _ _ (by first | omega | (simp; done) | (simp; omega))).trans (by first | (with_reducible assumption) | (simp [go_sem]; done) | (simp [go_sem, *]; done) | assumption)
  go_wp2_with fail
  refine (HTb.out _).mono ?_
  rintro e w2 ⟨rfl, hb2⟩
  obtain ⟨hc2, hf2⟩ := bcell hb2
  have hz2 := hb2.size
  try simp at hz2
  have hs2x0 : w.heap.size < w2.heap.size := by omega
  have hs2x1 : (w.heap.size + 1) < w2.heap.size := by omega
  have hs2x2 : (w.heap.size + 1 + 1) < w2.heap.size := by omega
  have g2x0 : w2.cell? ⟨w.heap.size, 0, none⟩ = some (.int .i64 (y)) := (hc2 _ _ (by first | omega | (simp; done) | (simp; omega))).trans (by first | (with_reducible assumption) | (simp [go_sem]; done) | (simp [go_sem, *]; done) | assumption)
  have g2x1 : w2.cell? ⟨w.heap.size, 1, none⟩ = some (.int .i64 (n)) := (hc2 _ _ (by first | omega | (simp; done) | (simp; omega))).trans (by first | (with_reducible assumption) | (simp [go_sem]; done) | (simp [go_sem, *]; done) | assumption)
  have g2x2 : w2.cell? ⟨w.heap.size, 2, none⟩ = some (.bool (l)) := (hc2 _ _ (by first | omega | (simp; done) | (simp; omega))).trans (by first | (with_reducible assumption) | (simp [go_sem]; done) | (simp [go_sem, *]; done) | assumption)
  have g2x3 : w2.cell? ⟨w.heap.size, 3, none⟩ = some (.int .i64 (d)) := (hc2 _ _ (by first | omega | (simp; done) | (simp; omega))).trans (by first | (with_reducible assumption) | (simp [go_sem]; done) | (simp [go_sem, *]; done) | assumption)
  have g2x4 : w2.cell? ⟨(w.heap.size + 1), 0, none⟩ = some (.int .i64 (z)) := (hc2 _ _ (by first | omega | (simp; done) | (simp; omega))).trans (by first | (with_reducible assumption) | (simp [go_sem]; done) | (simp [go_sem, *]; done) | assumption)
  have g2x5 : w2.cell? ⟨(w.heap.size + 1), 1, none⟩ = some (.int .i64 (k)) := (hc2 _ _ (by first | omega | (simp; done) | (simp; omega))).trans (by first | (with_reducible assumption) | (simp [go_sem]; done) | (simp [go_sem, *]; done) | assumption)
  have g2x6 : w2.cell? ⟨(w.heap.size + 1), 2, none⟩ = some (.bool (h)) := (hc2 _ _ (by first | omega | (simp; done) | (simp; omega))).trans (by first | (with_reducible assumption) | (simp [go_sem]; done) | (simp [go_sem, *]; done) | assumption)
  have g2x7 : w2.cell? ⟨(w.heap.size + 1), 3, none⟩ = some (.int .i64 (f)) := (hc2 _ _ (by first | omega | (simp; done) | (simp; omega))).trans (by first | (with_reducible assumption) | (simp [go_sem]; done) | (simp [go_sem, *]; done) | assumption)
  have g2x8 : w2.cell? ⟨(w.heap.size + 1 + 1), 0, none⟩ = some (.int .i64 (0)) := (hc2 _ _ (by first | omega | (simp; done) | (simp; omega))).trans (by first | (with_reducible assumption) | (simp [go_sem]; done) | (simp [go_sem, *]; done) | assumption)
  have g2x9 : w2.cell? ⟨(w.heap.size + 1 + 1), 1, none⟩ = some (.int .i64 (0)) := (hc2 _ _ (by first | omega | (simp; done) | (simp; omega))).trans (by first | (with_reducible assumption) | (simp [go_sem]; done) | (simp [go_sem, *]; done) | assumption)
  have g2x10 : w2.cell? ⟨(w.heap.size + 1 + 1), 2, none⟩ = some (.int .i64 (0)) := (hc2 _ _ (by first | omega | (simp; done) | (simp; omega))).trans (by first | (with_reducible assumption) | (simp [go_sem]; done) | (simp [go_sem, *]; done) | assumption)
  have g2x11 : w2.cell? ⟨(w.heap.size + 1 + 1), 3, none⟩ = some (.int .i64 (0)) := (hc2 _ _ (by first | omega | (simp; done) | (simp; omega))).trans (by first | (with_reducible assumption) | (simp [go_sem]; done) | (simp [go_sem, *]; done) | assumption)
  go_wp2_with fail
  refine (HTo.out _).mono ?_
  rintro e w3 ⟨rfl, hb3⟩
  obtain ⟨hc3, hf3⟩ := bcell hb3
  have hz3 := hb3.size
  try simp at hz3
  have hl3w2 : w2.heap.size < w3.heap.size := by omega
  have hm3w2 : w2.heap.size ≤ w3.heap.size := by omega
  have hs3x0 : w.heap.size < w3.heap.size := by omega
  have hs3x1 : (w.heap.size + 1) < w3.heap.size := by omega
  have hs3x2 : (w.heap.size + 1 + 1) < w3.heap.size := by omega
  have g3x0 : w3.cell? ⟨w.heap.size, 0, none⟩ = some (.int .i64 (y)) := (hc3 _ _ (by first | omega | (simp; done) | (simp; omega))).trans (by first | (with_reducible assumption) | (simp [go_sem]; done) | (simp [go_sem, *]; done) | assumption)
  have g3x1 : w3.cell? ⟨w.heap.size, 1, none⟩ = some (.int .i64 (n)) := (hc3 _ _ (by first | omega | (simp; done) | (simp; omega))).trans (by first | (with_reducible assumption) | (simp [go_sem]; done) | (simp [go_sem, *]; done) | assumption)
  have g3x2 : w3.cell? ⟨w.heap.size, 2, none⟩ = some (.bool (l)) := (hc3 _ _ (by first | omega | (simp; done) | (simp; omega))).trans (by first | (with_reducible assumption) | (simp [go_sem]; done) | (simp [go_sem, *]; done) | assumption)
  have g3x3 : w3.cell? ⟨w.heap.size, 3, none⟩ = some (.int .i64 (d)) := (hc3 _ _ (by first | omega | (simp; done) | (simp; omega))).trans (by first | (with_reducible assumption) | (simp [go_sem]; done) | (simp [go_sem, *]; done) | assumption)
  have g3x4 : w3.cell? ⟨(w.heap.size + 1), 0, none⟩ = some (.int .i64 (z)) := (hc3 _ _ (by first | omega | (simp; done) | (simp; omega))).trans (by first | (with_reducible assumption) | (simp [go_sem]; done) | (simp [go_sem, *]; done) | assumption)
  have g3x5 : w3.cell? ⟨(w.heap.size + 1), 1, none⟩ = some (.int .i64 (k)) := (hc3 _ _ (by first | omega | (simp; done) | (simp; omega))).trans (by first | (with_reducible assumption) | (simp [go_sem]; done) | (simp [go_sem, *]; done) | assumption)
  have g3x6 : w3.cell? ⟨(w.heap.size + 1), 2, none⟩ = some (.bool (h)) := (hc3 _ _ (by first | omega | (simp; done) | (simp; omega))).trans (by first | (with_reducible assumption) | (simp [go_sem]; done) | (simp [go_sem, *]; done) | assumption)
  have g3x7 : w3.cell? ⟨(w.heap.size + 1), 3, none⟩ = some (.int .i64 (f)) := (hc3 _ _ (by first | omega | (simp; done) | (simp; omega))).trans (by first | (with_reducible assumption) | (simp [go_sem]; done) | (simp [go_sem, *]; done) | assumption)
  have g3x8 : w3.cell? ⟨(w.heap.size + 1 + 1), 0, none⟩ = some (.int .i64 (0)) := (hc3 _ _ (by first | omega | (simp; done) | (simp; omega))).trans (by first | (with_reducible assumption) | (simp [go_sem]; done) | (simp [go_sem, *]; done) | assumption)
  have g3x9 : w3.cell? ⟨(w.heap.size + 1 + 1), 1, none⟩ = some (.int .i64 (0)) := (hc3 _ _ (by first | omega | (simp; done) | (simp; omega))).trans (by first | (with_reducible assumption) | (simp [go_sem]; done) | (simp [go_sem, *]; done) | assumption)
  have g3x10 : w3.cell? ⟨(w.heap.size + 1 + 1), 2, none⟩ = some (.int .i64 (0)) := (hc3 _ _ (by first | omega | (simp; done) | (simp; omega))).trans (by first | (with_reducible assumption) | (simp [go_sem]; done) | (simp [go_sem, *]; done) | assumption)
  have g3x11 : w3.cell? ⟨(w.heap.size + 1 + 1), 3, none⟩ = some (.int .i64 (0)) := (hc3 _ _ (by first | omega | (simp; done) | (simp; omega))).trans (by first | (with_reducible assumption) | (simp [go_sem]; done) | (simp [go_sem, *]; done) | assumption)
  have g3x12 : w3.cell? ⟨w2.heap.size, 0, none⟩ = some (.int .i64 (0)) := (hc3 _ _ (by first | omega | (simp; done) | (simp; omega))).trans (by first | (with_reducible assumption) | (simp [go_sem]; done) | (simp [go_sem, *]; done) | assumption)
  have g3x13 : w3.cell? ⟨w2.heap.size, 1, none⟩ = some (.int .i64 (0)) := (hc3 _ _ (by first | omega | (simp; done) | (simp; omega))).trans (by first | (with_reducible assumption) | (simp [go_sem]; done) | (simp [go_sem, *]; done) | assumption)
  have g3x14 : w3.cell? ⟨w2.heap.size, 2, none⟩ = some (.int .i64 (0)) := (hc3 _ _ (by first | omega | (simp; done) | (simp; omega))).trans (by first | (with_reducible assumption) | (simp [go_sem]; done) | (simp [go_sem, *]; done) | assumption)
  have g3x15 : w3.cell? ⟨w2.heap.size, 3, none⟩ = some (.int .i64 (0)) := (hc3 _ _ (by first | omega | (simp; done) | (simp; omega))).trans (by first | (with_reducible assumption) | (simp [go_sem]; done) | (simp [go_sem, *]; done) | assumption)
  clear hc3
  go_wp2_with fail
  refine (HX.out _).mono ?_
  rintro e w4 ⟨rfl, hb4⟩
  obtain ⟨hc4, hf4⟩ := bcell hb4
  have hz4 := hb4.size
  try simp at hz4
  have hl4w2 : w2.heap.size < w4.heap.size := by omega
  have hm4w2 : w2.heap.size ≤ w4.heap.size := by omega
  have hs4x0 : w.heap.size < w4.heap.size := by omega
  have hs4x1 : (w.heap.size + 1) < w4.heap.size := by omega
  have hs4x2 : (w.heap.size + 1 + 1) < w4.heap.size := by omega
  have g4x0 : w4.cell? ⟨w.heap.size, 0, none⟩ = some (.int .i64 (y)) := (hc4 _ _ (by first | omega | (simp; done) | (simp; omega))).trans (by first | (with_reducible assumption) | (simp [go_sem]; done) | (simp [go_sem, *]; done) | assumption)
  have g4x1 : w4.cell? ⟨w.heap.size, 1, none⟩ = some (.int .i64 (n)) := (hc4 _ _ (by first | omega | (simp; done) | (simp; omega))).trans (by first | (with_reducible assumption) | (simp [go_sem]; done) | (simp [go_sem, *]; done) | assumption)
  have g4x2 : w4.cell? ⟨w.heap.size, 2, none⟩ = some (.bool (l)) := (hc4 _ _ (by first | omega | (simp; done) | (simp; omega))).trans (by first | (with_reducible assumption) | (simp [go_sem]; done) | (simp [go_sem, *]; done) | assumption)
  have g4x3 : w4.cell? ⟨w.heap.size, 3, none⟩ = some (.int .i64 (d)) := (hc4 _ _ (by first | omega | (simp; done) | (simp; omega))).trans (by first | (with_reducible assumption) | (simp [go_sem]; done) | (simp [go_sem, *]; done) | assumption)
  have g4x4 : w4.cell? ⟨(w.heap.size + 1), 0, none⟩ = some (.int .i64 (z)) := (hc4 _ _ (by first | omega | (simp; done) | (simp; omega))).trans (by first | (with_reducible assumption) | (simp [go_sem]; done) | (simp [go_sem, *]; done) | assumption)
  have g4x5 : w4.cell? ⟨(w.heap.size + 1), 1, none⟩ = some (.int .i64 (k)) := (hc4 _ _ (by first | omega | (simp; done) | (simp; omega))).trans (by first | (with_reducible assumption) | (simp [go_sem]; done) | (simp [go_sem, *]; done) | assumption)
  have g4x6 : w4.cell? ⟨(w.heap.size + 1), 2, none⟩ = some (.bool (h)) := (hc4 _ _ (by first | omega | (simp; done) | (simp; omega))).trans (by first | (with_reducible assumption) | (simp [go_sem]; done) | (simp [go_sem, *]; done) | assumption)
  have g4x7 : w4.cell? ⟨(w.heap.size + 1), 3, none⟩ = some (.int .i64 (f)) := (hc4 _ _ (by first | omega | (simp; done) | (simp; omega))).trans (by first | (with_reducible assumption) | (simp [go_sem]; done) | (simp [go_sem, *]; done) | assumption)
  have g4x8 : w4.cell? ⟨(w.heap.size + 1 + 1), 0, none⟩ = some (.int .i64 (0)) := (hc4 _ _ (by first | omega | (simp; done) | (simp; omega))).trans (by first | (with_reducible assumption) | (simp [go_sem]; done) | (simp [go_sem, *]; done) | assumption)
  have g4x9 : w4.cell? ⟨(w.heap.size + 1 + 1), 1, none⟩ = some (.int .i64 (0)) := (hc4 _ _ (by first | omega | (simp; done) | (simp; omega))).trans (by first | (with_reducible assumption) | (simp [go_sem]; done) | (simp [go_sem, *]; done) | assumption)
  have g4x10 : w4.cell? ⟨(w.heap.size + 1 + 1), 2, none⟩ = some (.int .i64 (0)) := (hc4 _ _ (by first | omega | (simp; done) | (simp; omega))).trans (by first | (with_reducible assumption) | (simp [go_sem]; done) | (simp [go_sem, *]; done) | assumption)
  have g4x11 : w4.cell? ⟨(w.heap.size + 1 + 1), 3, none⟩ = some (.int .i64 (0)) := (hc4 _ _ (by first | omega | (simp; done) | (simp; omega))).trans (by first | (with_reducible assumption) | (simp [go_sem]; done) | (simp [go_sem, *]; done) | assumption)
  have g4x12 : w4.cell? ⟨w2.heap.size, 0, none⟩ = some (.int .i64 (0)) := (hc4 _ _ (by first | omega | (simp; done) | (simp; omega))).trans (by first | (with_reducible assumption) | (simp [go_sem]; done) | (simp [go_sem, *]; done) | assumption)
  have g4x13 : w4.cell? ⟨w2.heap.size, 1, none⟩ = some (.int .i64 (0)) := (hc4 _ _ (by first | omega | (simp; done) | (simp; omega))).trans (by first | (with_reducible assumption) | (simp [go_sem]; done) | (simp [go_sem, *]; done) | assumption)
  have g4x14 : w4.cell? ⟨w2.heap.size, 2, none⟩ = some (.int .i64 (0)) := (hc4 _ _ (by first | omega | (simp; done) | (simp; omega))).trans (by first | (with_reducible assumption) | (simp [go_sem]; done) | (simp [go_sem, *]; done) | assumption)
  have g4x15 : w4.cell? ⟨w2.heap.size, 3, none⟩ = some (.int .i64 (0)) := (hc4 _ _ (by first | omega | (simp; done) | (simp; omega))).trans (by first | (with_reducible assumption) | (simp [go_sem]; done) | (simp [go_sem, *]; done) | assumption)
  clear hc4
  go_wp2_with fail
  refine bodyPost_ret (v := .tuple #[.agg #[.int .i64 (0), .int .i64 (0), .int .i64 (0), .int .i64 (D2 - D3)], .int .i64 (0)]) (by simp [results, Tryz.results35, go_sem, *]) rfl ⟨rfl, ?_⟩
  repeat (first | (with_reducible exact Below.refl _ _) | (with_reducible assumption) | (with_reducible refine bdrew ?_) | (with_reducible refine baa ?_ _) | (with_reducible refine bs ?_ (by first | exact Nat.le_refl _ | omega | (simp; done) | (simp; omega)) _) | (with_reducible refine bt ?_ (by with_reducible assumption)))
set_option maxHeartbeats 4000000 in
theorem ref17_Date_u2_up (y n : Int) (l : Bool) (d z k : Int) (h : Bool) (f : Int) (ry rn : Int) (rl : Bool) (rd D1 D2 D3 : Int) (vb : Int) (w : World) (HTa : Hid (∀ w : World, Calls Tryz.prog 37 #[.agg #[.int .i64 (y), .int .i64 (n), .bool (l), .int .i64 (d)]] w fun e w' => e = .returned (.tuple #[.int .i64 (D1), .int .i64 (0)]) ∧ Below w.heap.size w w')) (HTb : Hid (∀ w : World, Calls Tryz.prog 37 #[.agg #[.int .i64 (z), .int .i64 (k), .bool (h), .int .i64 (f)]] w fun e w' => e = .returned (.tuple #[.int .i64 (D2), .int .i64 (0)]) ∧ Below w.heap.size w w')) (HM : Hid (∀ w : World, Calls Tryz.prog 81 #[.agg #[.int .i64 (y), .int .i64 (n), .bool (l), .int .i64 (d)], .agg #[.int .i64 (0), .int .i64 (0), .int .i64 (0), .int .i64 (0)], .int .i64 2, .int .i64 D2, .int .i64 (1), .int .i64 130000] w fun e w' => e = .returned (.agg #[.int .i64 (0), .int .i64 (vb), .int .i64 (0), .int .i64 (0)]) ∧ Below w.heap.size w w')) (HTo : Hid (∀ w : World, Calls Tryz.prog 28 #[.agg #[.int .i64 (y), .int .i64 (n), .bool (l), .int .i64 (d)], .agg #[.int .i64 (0), .int .i64 (vb), .int .i64 (0), .int .i64 (0)], .int .i64 0] w fun e w' => e = .returned (.tuple #[.agg #[.int .i64 (ry), .int .i64 (rn), .bool (rl), .int .i64 (rd)], .int .i64 (0)]) ∧ Below w.heap.size w w')) (HX : Hid (∀ w : World, Calls Tryz.prog 37 #[.agg #[.int .i64 (ry), .int .i64 (rn), .bool (rl), .int .i64 (rd)]] w fun e w' => e = .returned (.tuple #[.int .i64 D3, .int .i64 0]) ∧ Below w.heap.size w w')) (h11 : -3000000 ≤ D1) (h12 : D1 ≤ 3000000) (h21 : -3000000 ≤ D2) (h22 : D2 ≤ 3000000) (h31 : -3000000 ≤ D3) (h32 : D3 ≤ 3000000) (hs : D1 ≤ D2) :
    Calls Tryz.prog 35 #[.agg #[.int .i64 (y), .int .i64 (n), .bool (l), .int .i64 (d)], .agg #[.int .i64 (z), .int .i64 (k), .bool (h), .int .i64 (f)], .int .i64 2] w fun e w' => e = .returned (.tuple #[.agg #[.int .i64 (0), .int .i64 (vb), .int .i64 (0), .int .i64 (D2 - D3)], .int .i64 (0)]) ∧ Below w.heap.size w w' := by
  go_enter Tryz.func35, Tryz.ntmps35
  go_wp2_with fail
  refine (HTa.out _).mono ?_
  rintro e w1 ⟨rfl, hb1⟩
  obtain ⟨hc1, hf1⟩ := bcell hb1
  have hz1 := hb1.size
  try simp at hz1
  have hs1x0 : w.heap.size < w1.heap.size := by omega
  have hs1x1 : (w.heap.size + 1) < w1.heap.size := by omega
  have hs1x2 : (w.heap.size + 1 + 1) < w1.heap.size := by omega
  have g1x0 : w1.cell? ⟨w.heap.size, 0, none⟩ = some (.int .i64 (y)) := (hc1 _ _ (by first | omega | (simp; done) | (simp; omega))).trans (by first | (with_reducible assumption) | (simp [go_sem]; done) | (simp [go_sem, *]; done) | assumption)
  have g1x1 : w1.cell? ⟨w.heap.size, 1, none⟩ = some (.int .i64 (n)) := (hc1 _ _ (by first | omega | (simp; done) | (simp; omega))).trans (by first | (with_reducible assumption) | (simp [go_sem]; done) | (simp [go_sem, *]; done) | assumption)
  have g1x2 : w1.cell? ⟨w.heap.size, 2, none⟩ = some (.bool (l)) := (hc1 _ _ (by first | omega | (simp; done) | (simp; omega))).trans (by first | (with_reducible assumption) | (simp [go_sem]; done) | (simp [go_sem, *]; done) | assumption)
  have g1x3 : w1.cell? ⟨w.heap.size, 3, none⟩ = some (.int .i64 (d)) := (hc1 _ _ (by first | omega | (simp; done) | (simp; omega))).trans (by first | (with_reducible assumption) | (simp [go_sem]; done) | (simp [go_sem, *]; done) | assumption)
  have g1x4 : w1.cell? ⟨(w.heap.size + 1), 0, none⟩ = some (.int .i64 (z)) := (hc1 _ _ (by first | omega | (simp; done) | (simp; omega))).trans (by first | (with_reducible assumption) | (simp [go_sem]; done) | (simp [go_sem, *]; done) | assumption)
  have g1x5 : w1.cell? ⟨(w.heap.size + 1), 1, none⟩ = some (.int .i64 (k)) := (hc1 _ _ (by first | omega | (simp; done) | (simp; omega))).trans (by first | (with_reducible assumption) | (simp [go_sem]; done) | (simp [go_sem, *]; done) | assumption)
  have g1x6 : w1.cell? ⟨(w.heap.size + 1), 2, none⟩ = some (.bool (h)) := (hc1 _ _ (by first | omega | (simp; done) | (simp; omega))).trans (by first | (with_reducible assumption) | (simp [go_sem]; done) | (simp [go_sem, *]; done) | assumption)
  have g1x7 : w1.cell? ⟨(w.heap.size + 1), 3, none⟩ = some (.int .i64 (f)) := (hc1 _ _ (by first | omega | (simp; done) | (simp; omega))).trans (by first | (with_reducible assumption) | (simp [go_sem]; done) | (simp [go_sem, *]; done) | assumption)
  have g1x8 : w1.cell? ⟨(w.heap.size + 1 + 1), 0, none⟩ = some (.int .i64 (0)) := (hc1 _ _ (by first | omega | (simp; done) | (simp; omega))).trans (by first | (with_reducible assumption) | (simp [go_sem]; done) | (simp [go_sem, *]; done) | assumption)
  have g1x9 : w1.cell? ⟨(w.heap.size + 1 + 1), 1, none⟩ = some (.int .i64 (0)) := (hc1 _ _ (by first | omega | (simp; done) | (simp; omega))).trans (by first | (with_reducible assumption) | (simp [go_sem]; done) | (simp [go_sem, *]; done) | assumption)
  have g1x10 : w1.cell? ⟨(w.heap.size + 1 + 1), 2, none⟩ = some (.int .i64 (0)) := (hc1 _ _ (by first | omega | (simp; done) | (simp; omega))).trans (by first | (with_reducible assumption) | (simp [go_sem]; done) | (simp [go_sem, *]; done) | assumption)
  have g1x11 : w1.cell? ⟨(w.heap.size + 1 + 1), 3, none⟩ = some (.int .i64 (0)) := (hc1 _ _ (by first | omega | (simp; done) | (simp; omega))).trans (by first | (with_reducible assumption) | (simp [go_sem]; done) | (simp [go_sem, *]; done) | assumption)
  go_wp2_with fail
  refine (HTb.out _).mono ?_
  rintro e w2 ⟨rfl, hb2⟩
  obtain ⟨hc2, hf2⟩ := bcell hb2
  have hz2 := hb2.size
  try simp at hz2
  have hs2x0 : w.heap.size < w2.heap.size := by omega
  have hs2x1 : (w.heap.size + 1) < w2.heap.size := by omega
  have hs2x2 : (w.heap.size + 1 + 1) < w2.heap.size := by omega
  have g2x0 : w2.cell? ⟨w.heap.size, 0, none⟩ = some (.int .i64 (y)) := (hc2 _ _ (by first | omega | (simp; done) | (simp; omega))).trans (by first | (with_reducible assumption) | (simp [go_sem]; done) | (simp [go_sem, *]; done) | assumption)
  have g2x1 : w2.cell? ⟨w.heap.size, 1, none⟩ = some (.int .i64 (n)) := (hc2 _ _ (by first | omega | (simp; done) | (simp; omega))).trans (by first | (with_reducible assumption) | (simp [go_sem]; done) | (simp [go_sem, *]; done) | assumption)
  have g2x2 : w2.cell? ⟨w.heap.size, 2, none⟩ = some (.bool (l)) := (hc2 _ _ (by first | omega | (simp; done) | (simp; omega))).trans (by first | (with_reducible assumption) | (simp [go_sem]; done) | (simp [go_sem, *]; done) | assumption)
  have g2x3 : w2.cell? ⟨w.heap.size, 3, none⟩ = some (.int .i64 (d)) := (hc2 _ _ (by first | omega | (simp; done) | (simp; omega))).trans (by first | (with_reducible assumption) | (simp [go_sem]; done) | (simp [go_sem, *]; done) | assumption)
  have g2x4 : w2.cell? ⟨(w.heap.size + 1), 0, none⟩ = some (.int .i64 (z)) := (hc2 _ _ (by first | omega | (simp; done) | (simp; omega))).trans (by first | (with_reducible assumption) | (simp [go_sem]; done) | (simp [go_sem, *]; done) | assumption)
  have g2x5 : w2.cell? ⟨(w.heap.size + 1), 1, none⟩ = some (.int .i64 (k)) := (hc2 _ _ (by first | omega | (simp; done) | (simp; omega))).trans (by first | (with_reducible assumption) | (simp [go_sem]; done) | (simp [go_sem, *]; done) | assumption)
  have g2x6 : w2.cell? ⟨(w.heap.size + 1), 2, none⟩ = some (.bool (h)) := (hc2 _ _ (by first | omega | (simp; done) | (simp; omega))).trans (by first | (with_reducible assumption) | (simp [go_sem]; done) | (simp [go_sem, *]; done) | assumption)
  have g2x7 : w2.cell? ⟨(w.heap.size + 1), 3, none⟩ = some (.int .i64 (f)) := (hc2 _ _ (by first | omega | (simp; done) | (simp; omega))).trans (by first | (with_reducible assumption) | (simp [go_sem]; done) | (simp [go_sem, *]; done) | assumption)
  have g2x8 : w2.cell? ⟨(w.heap.size + 1 + 1), 0, none⟩ = some (.int .i64 (0)) := (hc2 _ _ (by first | omega | (simp; done) | (simp; omega))).trans (by first | (with_reducible assumption) | (simp [go_sem]; done) | (simp [go_sem, *]; done) | assumption)
  have g2x9 : w2.cell? ⟨(w.heap.size + 1 + 1), 1, none⟩ = some (.int .i64 (0)) := (hc2 _ _ (by first | omega | (simp; done) | (simp; omega))).trans (by first | (with_reducible assumption) | (simp [go_sem]; done) | (simp [go_sem, *]; done) | assumption)
  have g2x10 : w2.cell? ⟨(w.heap.size + 1 + 1), 2, none⟩ = some (.int .i64 (0)) := (hc2 _ _ (by first | omega | (simp; done) | (simp; omega))).trans (by first | (with_reducible assumption) | (simp [go_sem]; done) | (simp [go_sem, *]; done) | assumption)
  have g2x11 : w2.cell? ⟨(w.heap.size + 1 + 1), 3, none⟩ = some (.int .i64 (0)) := (hc2 _ _ (by first | omega | (simp; done) | (simp; omega))).trans (by first | (with_reducible assumption) | (simp [go_sem]; done) | (simp [go_sem, *]; done) | assumption)
  go_wp2_with fail
  refine (HM.out _).mono ?_
  rintro e w3 ⟨rfl, hb3⟩
  obtain ⟨hc3, hf3⟩ := bcell hb3
  have hz3 := hb3.size
  try simp at hz3
  have hl3w2 : w2.heap.size < w3.heap.size := by omega
  have hm3w2 : w2.heap.size ≤ w3.heap.size := by omega
  have hs3x0 : w.heap.size < w3.heap.size := by omega
  have hs3x1 : (w.heap.size + 1) < w3.heap.size := by omega
  have hs3x2 : (w.heap.size + 1 + 1) < w3.heap.size := by omega
  have g3x0 : w3.cell? ⟨w.heap.size, 0, none⟩ = some (.int .i64 (y)) := (hc3 _ _ (by first | omega | (simp; done) | (simp; omega))).trans (by first | (with_reducible assumption) | (simp [go_sem]; done) | (simp [go_sem, *]; done) | assumption)
  have g3x1 : w3.cell? ⟨w.heap.size, 1, none⟩ = some (.int .i64 (n)) := (hc3 _ _ (by first | omega | (simp; done) | (simp; omega))).trans (by first | (with_reducible assumption) | (simp [go_sem]; done) | (simp [go_sem, *]; done) | assumption)
  have g3x2 : w3.cell? ⟨w.heap.size, 2, none⟩ = some (.bool (l)) := (hc3 _ _ (by first | omega | (simp; done) | (simp; omega))).trans (by first | (with_reducible assumption) | (simp [go_sem]; done) | (simp [go_sem, *]; done) | assumption)
  have g3x3 : w3.cell? ⟨w.heap.size, 3, none⟩ = some (.int .i64 (d)) := (hc3 _ _ (by first | omega | (simp; done) | (simp; omega))).trans (by first | (with_reducible assumption) | (simp [go_sem]; done) | (simp [go_sem, *]; done) | assumption)
  have g3x4 : w3.cell? ⟨(w.heap.size + 1), 0, none⟩ = some (.int .i64 (z)) := (hc3 _ _ (by first | omega | (simp; done) | (simp; omega))).trans (by first | (with_reducible assumption) | (simp [go_sem]; done) | (simp [go_sem, *]; done) | assumption)
  have g3x5 : w3.cell? ⟨(w.heap.size + 1), 1, none⟩ = some (.int .i64 (k)) := (hc3 _ _ (by first | omega | (simp; done) | (simp; omega))).trans (by first | (with_reducible assumption) | (simp [go_sem]; done) | (simp [go_sem, *]; done) | assumption)
  have g3x6 : w3.cell? ⟨(w.heap.size + 1), 2, none⟩ = some (.bool (h)) := (hc3 _ _ (by first | omega | (simp; done) | (simp; omega))).trans (by first | (with_reducible assumption) | (simp [go_sem]; done) | (simp [go_sem, *]; done) | assumption)
  have g3x7 : w3.cell? ⟨(w.heap.size + 1), 3, none⟩ = some (.int .i64 (f)) := (hc3 _ _ (by first | omega | (simp; done) | (simp; omega))).trans (by first | (with_reducible assumption) | (simp [go_sem]; done) | (simp [go_sem, *]; done) | assumption)
  have g3x8 : w3.cell? ⟨(w.heap.size + 1 + 1), 0, none⟩ = some (.int .i64 (0)) := (hc3 _ _ (by first | omega | (simp; done) | (simp; omega))).trans (by first | (with_reducible assumption) | (simp [go_sem]; done) | (simp [go_sem, *]; done) | assumption)
  have g3x9 : w3.cell? ⟨(w.heap.size + 1 + 1), 1, none⟩ = some (.int .i64 (0)) := (hc3 _ _ (by first | omega | (simp; done) | (simp; omega))).trans (by first | (with_reducible assumption) | (simp [go_sem]; done) | (simp [go_sem, *]; done) | assumption)
  have g3x10 : w3.cell? ⟨(w.heap.size + 1 + 1), 2, none⟩ = some (.int .i64 (0)) := (hc3 _ _ (by first | omega | (simp; done) | (simp; omega))).trans (by first | (with_reducible assumption) | (simp [go_sem]; done) | (simp [go_sem, *]; done) | assumption)
  have g3x11 : w3.cell? ⟨(w.heap.size + 1 + 1), 3, none⟩ = some (.int .i64 (0)) := (hc3 _ _ (by first | omega | (simp; done) | (simp; omega))).trans (by first | (with_reducible assumption) | (simp [go_sem]; done) | (simp [go_sem, *]; done) | assumption)
  have g3x12 : w3.cell? ⟨w2.heap.size, 0, none⟩ = some (.int .i64 (0)) := (hc3 _ _ (by first | omega | (simp; done) | (simp; omega))).trans (by first | (with_reducible assumption) | (simp [go_sem]; done) | (simp [go_sem, *]; done) | assumption)
  have g3x13 : w3.cell? ⟨w2.heap.size, 1, none⟩ = some (.int .i64 (0)) := (hc3 _ _ (by first | omega | (simp; done) | (simp; omega))).trans (by first | (with_reducible assumption) | (simp [go_sem]; done) | (simp [go_sem, *]; done) | assumption)
  have g3x14 : w3.cell? ⟨w2.heap.size, 2, none⟩ = some (.int .i64 (0)) := (hc3 _ _ (by first | omega | (simp; done) | (simp; omega))).trans (by first | (with_reducible assumption) | (simp [go_sem]; done) | (simp [go_sem, *]; done) | assumption)
  have g3x15 : w3.cell? ⟨w2.heap.size, 3, none⟩ = some (.int .i64 (0)) := (hc3 _ _ (by first | omega | (simp; done) | (simp; omega))).trans (by first | (with_reducible assumption) | (simp [go_sem]; done) | (simp [go_sem, *]; done) | assumption)
  clear hc3
  go_wp2_with fail
  refine (HTo.out _).mono ?_
  rintro e w4 ⟨rfl, hb4⟩
  obtain ⟨hc4, hf4⟩ := bcell hb4
  have hz4 := hb4.size
  try simp at hz4
  have hl4w2 : w2.heap.size < w4.heap.size := by omega
  have hm4w2 : w2.heap.size ≤ w4.heap.size := by omega
  have hs4x0 : w.heap.size < w4.heap.size := by omega
  have hs4x1 : (w.heap.size + 1) < w4.heap.size := by omega
  have hs4x2 : (w.heap.size + 1 + 1) < w4.heap.size := by omega
  have g4x0 : w4.cell? ⟨w.heap.size, 0, none⟩ = some (.int .i64 (y)) := (hc4 _ _ (by first | omega | (simp; done) | (simp; omega))).trans (by first | (with_reducible assumption) | (simp [go_sem]; done) | (simp [go_sem, *]; done) | assumption)
  have g4x1 : w4.cell? ⟨w.heap.size, 1, none⟩ = some (.int .i64 (n)) := (hc4 _ _ (by first | omega | (simp; done) | (simp; omega))).trans (by first | (with_reducible assumption) | (simp [go_sem]; done) | (simp [go_sem, *]; done) | assumption)
  have g4x2 : w4.cell? ⟨w.heap.size, 2, none⟩ = some (.bool (l)) := (hc4 _ _ (by first | omega | (simp; done) | (simp; omega))).trans (by first | (with_reducible assumption) | (simp [go_sem]; done) | (simp [go_sem, *]; done) | assumption)
  have g4x3 : w4.cell? ⟨w.heap.size, 3, none⟩ = some (.int .i64 (d)) := (hc4 _ _ (by first | omega | (simp; done) | (simp; omega))).trans (by first | (with_reducible assumption) | (simp [go_sem]; done) | (simp [go_sem, *]; done) | assumption)
  have g4x4 : w4.cell? ⟨(w.heap.size + 1), 0, none⟩ = some (.int .i64 (z)) := (hc4 _ _ (by first | omega | (simp; done) | (simp; omega))).trans (by first | (with_reducible assumption) | (simp [go_sem]; done) | (simp [go_sem, *]; done) | assumption)
  have g4x5 : w4.cell? ⟨(w.heap.size + 1), 1, none⟩ = some (.int .i64 (k)) := (hc4 _ _ (by first | omega | (simp; done) | (simp; omega))).trans (by first | (with_reducible assumption) | (simp [go_sem]; done) | (simp [go_sem, *]; done) | assumption)
  have g4x6 : w4.cell? ⟨(w.heap.size + 1), 2, none⟩ = some (.bool (h)) := (hc4 _ _ (by first | omega | (simp; done) | (simp; omega))).trans (by first | (with_reducible assumption) | (simp [go_sem]; done) | (simp [go_sem, *]; done) | assumption)
  have g4x7 : w4.cell? ⟨(w.heap.size + 1), 3, none⟩ = some (.int .i64 (f)) := (hc4 _ _ (by first | omega | (simp; done) | (simp; omega))).trans (by first | (with_reducible assumption) | (simp [go_sem]; done) | (simp [go_sem, *]; done) | assumption)
  have g4x8 : w4.cell? ⟨(w.heap.size + 1 + 1), 0, none⟩ = some (.int .i64 (0)) := (hc4 _ _ (by first | omega | (simp; done) | (simp; omega))).trans (by first | (with_reducible assumption) | (simp [go_sem]; done) | (simp [go_sem, *]; done) | assumption)
  have g4x9 : w4.cell? ⟨(w.heap.size + 1 + 1), 1, none⟩ = some (.int .i64 (0)) := (hc4 _ _ (by first | omega | (simp; done) | (simp; omega))).trans (by first | (with_reducible assumption) | (simp [go_sem]; done) | (simp [go_sem, *]; done) | assumption)
  have g4x10 : w4.cell? ⟨(w.heap.size + 1 + 1), 2, none⟩ = some (.int .i64 (0)) := (hc4 _ _ (by first | omega | (simp; done) | (simp; omega))).trans (by first | (with_reducible assumption) | (simp [go_sem]; done) | (simp [go_sem, *]; done) | assumption)
  have g4x11 : w4.cell? ⟨(w.heap.size + 1 + 1), 3, none⟩ = some (.int .i64 (0)) := (hc4 _ _ (by first | omega | (simp; done) | (simp; omega))).trans (by first | (with_reducible assumption) | (simp [go_sem]; done) | (simp [go_sem, *]; done) | assumption)
  have g4x12 : w4.cell? ⟨w2.heap.size, 0, none⟩ = some (.int .i64 (0)) := (hc4 _ _ (by first | omega | (simp; done) | (simp; omega))).trans (by first | (with_reducible assumption) | (simp [go_sem]; done) | (simp [go_sem, *]; done) | assumption)
  have g4x13 : w4.cell? ⟨w2.heap.size, 1, none⟩ = some (.int .i64 (vb)) := (hc4 _ _ (by first | omega | (simp; done) | (simp; omega))).trans (by first | (with_reducible assumption) | (simp [go_sem]; done) | (simp [go_sem, *]; done) | assumption)
  have g4x14 : w4.cell? ⟨w2.heap.size, 2, none⟩ = some (.int .i64 (0)) := (hc4 _ _ (by first | omega | (simp; done) | (simp; omega))).trans (by first | (with_reducible assumption) | (simp [go_sem]; done) | (simp [go_sem, *]; done) | assumption)
  have g4x15 : w4.cell? ⟨w2.heap.size, 3, none⟩ = some (.int .i64 (0)) := (hc4 _ _ (by first | omega | (simp; done) | (simp; omega))).trans (by first | (with_reducible assumption) | (simp [go_sem]; done) | (simp [go_sem, *]; done) | assumption)
  clear hc4
  go_wp2_with fail
  refine (HX.out _).mono ?_
  rintro e w5 ⟨rfl, hb5⟩
  obtain ⟨hc5, hf5⟩ := bcell hb5
  have hz5 := hb5.size
  try simp at hz5
  have hl5w2 : w2.heap.size < w5.heap.size := by omega
  have hm5w2 : w2.heap.size ≤ w5.heap.size := by omega
  have hs5x0 : w.heap.size < w5.heap.size := by omega
  have hs5x1 : (w.heap.size + 1) < w5.heap.size := by omega
  have hs5x2 : (w.heap.size + 1 + 1) < w5.heap.size := by omega
  have g5x0 : w5.cell? ⟨w.heap.size, 0, none⟩ = some (.int .i64 (y)) := (hc5 _ _ (by first | omega | (simp; done) | (simp; omega))).trans (by first | (with_reducible assumption) | (simp [go_sem]; done) | (simp [go_sem, *]; done) | assumption)
  have g5x1 : w5.cell? ⟨w.heap.size, 1, none⟩ = some (.int .i64 (n)) := (hc5 _ _ (by first | omega | (simp; done) | (simp; omega))).trans (by first | (with_reducible assumption) | (simp [go_sem]; done) | (simp [go_sem, *]; done) | assumption)
  have g5x2 : w5.cell? ⟨w.heap.size, 2, none⟩ = some (.bool (l)) := (hc5 _ _ (by first | omega | (simp; done) | (simp; omega))).trans (by first | (with_reducible assumption) | (simp [go_sem]; done) | (simp [go_sem, *]; done) | assumption)
  have g5x3 : w5.cell? ⟨w.heap.size, 3, none⟩ = some (.int .i64 (d)) := (hc5 _ _ (by first | omega | (simp; done) | (simp; omega))).trans (by first | (with_reducible assumption) | (simp [go_sem]; done) | (simp [go_sem, *]; done) | assumption)
  have g5x4 : w5.cell? ⟨(w.heap.size + 1), 0, none⟩ = some (.int .i64 (z)) := (hc5 _ _ (by first | omega | (simp; done) | (simp; omega))).trans (by first | (with_reducible assumption) | (simp [go_sem]; done) | (simp [go_sem, *]; done) | assumption)
  have g5x5 : w5.cell? ⟨(w.heap.size + 1), 1, none⟩ = some (.int .i64 (k)) := (hc5 _ _ (by first | omega | (simp; done) | (simp; omega))).trans (by first | (with_reducible assumption) | (simp [go_sem]; done) | (simp [go_sem, *]; done) | assumption)
  have g5x6 : w5.cell? ⟨(w.heap.size + 1), 2, none⟩ = some (.bool (h)) := (hc5 _ _ (by first | omega | (simp; done) | (simp; omega))).trans (by first | (with_reducible assumption) | (simp [go_sem]; done) | (simp [go_sem, *]; done) | assumption)
  have g5x7 : w5.cell? ⟨(w.heap.size + 1), 3, none⟩ = some (.int .i64 (f)) := (hc5 _ _ (by first | omega | (simp; done) | (simp; omega))).trans (by first | (with_reducible assumption) | (simp [go_sem]; done) | (simp [go_sem, *]; done) | assumption)
  have g5x8 : w5.cell? ⟨(w.heap.size + 1 + 1), 0, none⟩ = some (.int .i64 (0)) := (hc5 _ _ (by first | omega | (simp; done) | (simp; omega))).trans (by first | (with_reducible assumption) | (simp [go_sem]; done) | (simp [go_sem, *]; done) | assumption)
  have g5x9 : w5.cell? ⟨(w.heap.size + 1 + 1), 1, none⟩ = some (.int .i64 (0)) := (hc5 _ _ (by first | omega | (simp; done) | (simp; omega))).trans (by first | (with_reducible assumption) | (simp [go_sem]; done) | (simp [go_sem, *]; done) | assumption)
  have g5x10 : w5.cell? ⟨(w.heap.size + 1 + 1), 2, none⟩ = some (.int .i64 (0)) := (hc5 _ _ (by first | omega | (simp; done) | (simp; omega))).trans (by first | (with_reducible assumption) | (simp [go_sem]; done) | (simp [go_sem, *]; done) | assumption)
  have g5x11 : w5.cell? ⟨(w.heap.size + 1 + 1), 3, none⟩ = some (.int .i64 (0)) := (hc5 _ _ (by first | omega | (simp; done) | (simp; omega))).trans (by first | (with_reducible assumption) | (simp [go_sem]; done) | (simp [go_sem, *]; done) | assumption)
  have g5x12 : w5.cell? ⟨w2.heap.size, 0, none⟩ = some (.int .i64 (0)) := (hc5 _ _ (by first | omega | (simp; done) | (simp; omega))).trans (by first | (with_reducible assumption) | (simp [go_sem]; done) | (simp [go_sem, *]; done) | assumption)
  have g5x13 : w5.cell? ⟨w2.heap.size, 1, none⟩ = some (.int .i64 (vb)) := (hc5 _ _ (by first | omega | (simp; done) | (simp; omega))).trans (by first | (with_reducible assumption) | (simp [go_sem]; done) | (simp [go_sem, *]; done) | assumption)
  have g5x14 : w5.cell? ⟨w2.heap.size, 2, none⟩ = some (.int .i64 (0)) := (hc5 _ _ (by first | omega | (simp; done) | (simp; omega))).trans (by first | (with_reducible assumption) | (simp [go_sem]; done) | (simp [go_sem, *]; done) | assumption)
  have g5x15 : w5.cell? ⟨w2.heap.size, 3, none⟩ = some (.int .i64 (0)) := (hc5 _ _ (by first | omega | (simp; done) | (simp; omega))).trans (by first | (with_reducible assumption) | (simp [go_sem]; done) | (simp [go_sem, *]; done) | assumption)
  clear hc5
  go_wp2_with fail
  refine bodyPost_ret (v := .tuple #[.agg #[.int .i64 (0), .int .i64 (vb), .int .i64 (0), .int .i64 (D2 - D3)], .int .i64 (0)]) (by simp [results, Tryz.results35, go_sem, *]) rfl ⟨rfl, ?_⟩
  repeat (first | (with_reducible exact Below.refl _ _) | (with_reducible assumption) | (with_reducible refine bdrew ?_) | (with_reducible refine baa ?_ _) | (with_reducible refine bs ?_ (by first | exact Nat.le_refl _ | omega | (simp; done) | (simp; omega)) _) | (with_reducible refine bt ?_ (by with_reducible assumption)))
set_option maxHeartbeats 4000000 in
theorem ref17_Date_u3_up (y n : Int) (l : Bool) (d z k : Int) (h : Bool) (f : Int) (ry rn : Int) (rl : Bool) (rd D1 D2 D3 : Int) (va vb : Int) (w : World) (HTa : Hid (∀ w : World, Calls Tryz.prog 37 #[.agg #[.int .i64 (y), .int .i64 (n), .bool (l), .int .i64 (d)]] w fun e w' => e = .returned (.tuple #[.int .i64 (D1), .int .i64 (0)]) ∧ Below w.heap.size w w')) (HTb : Hid (∀ w : World, Calls Tryz.prog 37 #[.agg #[.int .i64 (z), .int .i64 (k), .bool (h), .int .i64 (f)]] w fun e w' => e = .returned (.tuple #[.int .i64 (D2), .int .i64 (0)]) ∧ Below w.heap.size w w')) (HY : Hid (∀ w : World, Calls Tryz.prog 81 #[.agg #[.int .i64 (y), .int .i64 (n), .bool (l), .int .i64 (d)], .agg #[.int .i64 (0), .int .i64 (0), .int .i64 (0), .int .i64 (0)], .int .i64 3, .int .i64 D2, .int .i64 (1), .int .i64 10000] w fun e w' => e = .returned (.agg #[.int .i64 (va), .int .i64 (0), .int .i64 (0), .int .i64 (0)]) ∧ Below w.heap.size w w')) (HM : Hid (∀ w : World, Calls Tryz.prog 81 #[.agg #[.int .i64 (y), .int .i64 (n), .bool (l), .int .i64 (d)], .agg #[.int .i64 (va), .int .i64 (0), .int .i64 (0), .int .i64 (0)], .int .i64 2, .int .i64 D2, .int .i64 (1), .int .i64 130000] w fun e w' => e = .returned (.agg #[.int .i64 (va), .int .i64 (vb), .int .i64 (0), .int .i64 (0)]) ∧ Below w.heap.size w w')) (HTo : Hid (∀ w : World, Calls Tryz.prog 28 #[.agg #[.int .i64 (y), .int .i64 (n), .bool (l), .int .i64 (d)], .agg #[.int .i64 (va), .int .i64 (vb), .int .i64 (0), .int .i64 (0)], .int .i64 0] w fun e w' => e = .returned (.tuple #[.agg #[.int .i64 (ry), .int .i64 (rn), .bool (rl), .int .i64 (rd)], .int .i64 (0)]) ∧ Below w.heap.size w w')) (HX : Hid (∀ w : World, Calls Tryz.prog 37 #[.agg #[.int .i64 (ry), .int .i64 (rn), .bool (rl), .int .i64 (rd)]] w fun e w' => e = .returned (.tuple #[.int .i64 D3, .int .i64 0]) ∧ Below w.heap.size w w')) (h11 : -3000000 ≤ D1) (h12 : D1 ≤ 3000000) (h21 : -3000000 ≤ D2) (h22 : D2 ≤ 3000000) (h31 : -3000000 ≤ D3) (h32 : D3 ≤ 3000000) (hs : D1 ≤ D2) :
    Calls Tryz.prog 35 #[.agg #[.int .i64 (y), .int .i64 (n), .bool (l), .int .i64 (d)], .agg #[.int .i64 (z), .int .i64 (k), .bool (h), .int .i64 (f)], .int .i64 3] w fun e w' => e = .returned (.tuple #[.agg #[.int .i64 (va), .int .i64 (vb), .int .i64 (0), .int .i64 (D2 - D3)], .int .i64 (0)]) ∧ Below w.heap.size w w' := by
  go_enter Tryz.func35, Tryz.ntmps35
  go_wp2_with fail
  refine (HTa.out _).mono ?_
  rintro e w1 ⟨rfl, hb1⟩
  obtain ⟨hc1, hf1⟩ := bcell hb1
  have hz1 := hb1.size
  try simp at hz1
  have hs1x0 : w.heap.size < w1.heap.size := by omega
  have hs1x1 : (w.heap.size + 1) < w1.heap.size := by omega
  have hs1x2 : (w.heap.size + 1 + 1) < w1.heap.size := by omega
  have g1x0 : w1.cell? ⟨w.heap.size, 0, none⟩ = some (.int .i64 (y)) := (hc1 _ _ (by first | omega | (simp; done) | (simp; omega))).trans (by first | (with_reducible assumption) | (simp [go_sem]; done) | (simp [go_sem, *]; done) | assumption)
  have g1x1 : w1.cell? ⟨w.heap.size, 1, none⟩ = some (.int .i64 (n)) := (hc1 _ _ (by first | omega | (simp; done) | (simp; omega))).trans (by first | (with_reducible assumption) | (simp [go_sem]; done) | (simp [go_sem, *]; done) | assumption)
  have g1x2 : w1.cell? ⟨w.heap.size, 2, none⟩ = some (.bool (l)) := (hc1 _ _ (by first | omega | (simp; done) | (simp; omega))).trans (by first | (with_reducible assumption) | (simp [go_sem]; done) | (simp [go_sem, *]; done) | assumption)
  have g1x3 : w1.cell? ⟨w.heap.size, 3, none⟩ = some (.int .i64 (d)) := (hc1 _ _ (by first | omega | (simp; done) | (simp; omega))).trans (by first | (with_reducible assumption) | (simp [go_sem]; done) | (simp [go_sem, *]; done) | assumption)
  have g1x4 : w1.cell? ⟨(w.heap.size + 1), 0, none⟩ = some (.int .i64 (z)) := (hc1 _ _ (by first | omega | (simp; done) | (simp; omega))).trans (by first | (with_reducible assumption) | (simp [go_sem]; done) | (simp [go_sem, *]; done) | assumption)
  have g1x5 : w1.cell? ⟨(w.heap.size + 1), 1, none⟩ = some (.int .i64 (k)) := (hc1 _ _ (by first | omega | (simp; done) | (simp; omega))).trans (by first | (with_reducible assumption) | (simp [go_sem]; done) | (simp [go_sem, *]; done) | assumption)
  have g1x6 : w1.cell? ⟨(w.heap.size + 1), 2, none⟩ = some (.bool (h)) := (hc1 _ _ (by first | omega | (simp; done) | (simp; omega))).trans (by first | (with_reducible assumption) | (simp [go_sem]; done) | (simp [go_sem, *]; done) | assumption)
  have g1x7 : w1.cell? ⟨(w.heap.size + 1), 3, none⟩ = some (.int .i64 (f)) := (hc1 _ _ (by first | omega | (simp; done) | (simp; omega))).trans (by first | (with_reducible assumption) | (simp [go_sem]; done) | (simp [go_sem, *]; done) | assumption)
  have g1x8 : w1.cell? ⟨(w.heap.size + 1 + 1), 0, none⟩ = some (.int .i64 (0)) := (hc1 _ _ (by first | omega | (simp; done) | (simp; omega))).trans (by first | (with_reducible assumption) | (simp [go_sem]; done) | (simp [go_sem, *]; done) | assumption)
  have g1x9 : w1.cell? ⟨(w.heap.size + 1 + 1), 1, none⟩ = some (.int .i64 (0)) := (hc1 _ _ (by first | omega | (simp; done) | (simp; omega))).trans (by first | (with_reducible assumption) | (simp [go_sem]; done) | (simp [go_sem, *]; done) | assumption)
  have g1x10 : w1.cell? ⟨(w.heap.size + 1 + 1), 2, none⟩ = some (.int .i64 (0)) := (hc1 _ _ (by first | omega | (simp; done) | (simp; omega))).trans (by first | (with_reducible assumption) | (simp [go_sem]; done) | (simp [go_sem, *]; done) | assumption)
  have g1x11 : w1.cell? ⟨(w.heap.size + 1 + 1), 3, none⟩ = some (.int .i64 (0)) := (hc1 _ _ (by first | omega | (simp; done) | (simp; omega))).trans (by first | (with_reducible assumption) | (simp [go_sem]; done) | (simp [go_sem, *]; done) | assumption)
  go_wp2_with fail
  refine (HTb.out _).mono ?_
  rintro e w2 ⟨rfl, hb2⟩
  obtain ⟨hc2, hf2⟩ := bcell hb2
  have hz2 := hb2.size
  try simp at hz2
  have hs2x0 : w.heap.size < w2.heap.size := by omega
  have hs2x1 : (w.heap.size + 1) < w2.heap.size := by omega
  have hs2x2 : (w.heap.size + 1 + 1) < w2.heap.size := by omega
  have g2x0 : w2.cell? ⟨w.heap.size, 0, none⟩ = some (.int .i64 (y)) := (hc2 _ _ (by first | omega | (simp; done) | (simp; omega))).trans (by first | (with_reducible assumption) | (simp [go_sem]; done) | (simp [go_sem, *]; done) | assumption)
  have g2x1 : w2.cell? ⟨w.heap.size, 1, none⟩ = some (.int .i64 (n)) := (hc2 _ _ (by first | omega | (simp; done) | (simp; omega))).trans (by first | (with_reducible assumption) | (simp [go_sem]; done) | (simp [go_sem, *]; done) | assumption)
  have g2x2 : w2.cell? ⟨w.heap.size, 2, none⟩ = some (.bool (l)) := (hc2 _ _ (by first | omega | (simp; done) | (simp; omega))).trans (by first | (with_reducible assumption) | (simp [go_sem]; done) | (simp [go_sem, *]; done) | assumption)
  have g2x3 : w2.cell? ⟨w.heap.size, 3, none⟩ = some (.int .i64 (d)) := (hc2 _ _ (by first | omega | (simp; done) | (simp; omega))).trans (by first | (with_reducible assumption) | (simp [go_sem]; done) | (simp [go_sem, *]; done) | assumption)
  have g2x4 : w2.cell? ⟨(w.heap.size + 1), 0, none⟩ = some (.int .i64 (z)) := (hc2 _ _ (by first | omega | (simp; done) | (simp; omega))).trans (by first | (with_reducible assumption) | (simp [go_sem]; done) | (simp [go_sem, *]; done) | assumption)
  have g2x5 : w2.cell? ⟨(w.heap.size + 1), 1, none⟩ = some (.int .i64 (k)) := (hc2 _ _ (by first | omega | (simp; done) | (simp; omega))).trans (by first | (with_reducible assumption) | (simp [go_sem]; done) | (simp [go_sem, *]; done) | assumption)
  have g2x6 : w2.cell? ⟨(w.heap.size + 1), 2, none⟩ = some (.bool (h)) := (hc2 _ _ (by first | omega | (simp; done) | (simp; omega))).trans (by first | (with_reducible assumption) | (simp [go_sem]; done) | (simp [go_sem, *]; done) | assumption)
  have g2x7 : w2.cell? ⟨(w.heap.size + 1), 3, none⟩ = some (.int .i64 (f)) := (hc2 _ _ (by first | omega | (simp; done) | (simp; omega))).trans (by first | (with_reducible assumption) | (simp [go_sem]; done) | (simp [go_sem, *]; done) | assumption)
  have g2x8 : w2.cell? ⟨(w.heap.size + 1 + 1), 0, none⟩ = some (.int .i64 (0)) := (hc2 _ _ (by first | omega | (simp; done) | (simp; omega))).trans (by first | (with_reducible assumption) | (simp [go_sem]; done) | (simp [go_sem, *]; done) | assumption)
  have g2x9 : w2.cell? ⟨(w.heap.size + 1 + 1), 1, none⟩ = some (.int .i64 (0)) := (hc2 _ _ (by first | omega | (simp; done) | (simp; omega))).trans (by first | (with_reducible assumption) | (simp [go_sem]; done) | (simp [go_sem, *]; done) | assumption)
  have g2x10 : w2.cell? ⟨(w.heap.size + 1 + 1), 2, none⟩ = some (.int .i64 (0)) := (hc2 _ _ (by first | omega | (simp; done) | (simp; omega))).trans (by first | (with_reducible assumption) | (simp [go_sem]; done) | (simp [go_sem, *]; done) | assumption)
  have g2x11 : w2.cell? ⟨(w.heap.size + 1 + 1), 3, none⟩ = some (.int .i64 (0)) := (hc2 _ _ (by first | omega | (simp; done) | (simp; omega))).trans (by first | (with_reducible assumption) | (simp [go_sem]; done) | (simp [go_sem, *]; done) | assumption)
  go_wp2_with fail
  refine (HY.out _).mono ?_
  rintro e w3 ⟨rfl, hb3⟩
  obtain ⟨hc3, hf3⟩ := bcell hb3
  have hz3 := hb3.size
  try simp at hz3
  have hl3w2 : w2.heap.size < w3.heap.size := by omega
  have hm3w2 : w2.heap.size ≤ w3.heap.size := by omega
  have hs3x0 : w.heap.size < w3.heap.size := by omega
  have hs3x1 : (w.heap.size + 1) < w3.heap.size := by omega
  have hs3x2 : (w.heap.size + 1 + 1) < w3.heap.size := by omega
  have g3x0 : w3.cell? ⟨w.heap.size, 0, none⟩ = some (.int .i64 (y)) := (hc3 _ _ (by first | omega | (simp; done) | (simp; omega))).trans (by first | (with_reducible assumption) | (simp [go_sem]; done) | (simp [go_sem, *]; done) | assumption)
  have g3x1 : w3.cell? ⟨w.heap.size, 1, none⟩ = some (.int .i64 (n)) := (hc3 _ _ (by first | omega | (simp; done) | (simp; omega))).trans (by first | (with_reducible assumption) | (simp [go_sem]; done) | (simp [go_sem, *]; done) | assumption)
  have g3x2 : w3.cell? ⟨w.heap.size, 2, none⟩ = some (.bool (l)) := (hc3 _ _ (by first | omega | (simp; done) | (simp; omega))).trans (by first | (with_reducible assumption) | (simp [go_sem]; done) | (simp [go_sem, *]; done) | assumption)
  have g3x3 : w3.cell? ⟨w.heap.size, 3, none⟩ = some (.int .i64 (d)) := (hc3 _ _ (by first | omega | (simp; done) | (simp; omega))).trans (by first | (with_reducible assumption) | (simp [go_sem]; done) | (simp [go_sem, *]; done) | assumption)
  have g3x4 : w3.cell? ⟨(w.heap.size + 1), 0, none⟩ = some (.int .i64 (z)) := (hc3 _ _ (by first | omega | (simp; done) | (simp; omega))).trans (by first | (with_reducible assumption) | (simp [go_sem]; done) | (simp [go_sem, *]; done) | assumption)
  have g3x5 : w3.cell? ⟨(w.heap.size + 1), 1, none⟩ = some (.int .i64 (k)) := (hc3 _ _ (by first | omega | (simp; done) | (simp; omega))).trans (by first | (with_reducible assumption) | (simp [go_sem]; done) | (simp [go_sem, *]; done) | assumption)
  have g3x6 : w3.cell? ⟨(w.heap.size + 1), 2, none⟩ = some (.bool (h)) := (hc3 _ _ (by first | omega | (simp; done) | (simp; omega))).trans (by first | (with_reducible assumption) | (simp [go_sem]; done) | (simp [go_sem, *]; done) | assumption)
  have g3x7 : w3.cell? ⟨(w.heap.size + 1), 3, none⟩ = some (.int .i64 (f)) := (hc3 _ _ (by first | omega | (simp; done) | (simp; omega))).trans (by first | (with_reducible assumption) | (simp [go_sem]; done) | (simp [go_sem, *]; done) | assumption)
  have g3x8 : w3.cell? ⟨(w.heap.size + 1 + 1), 0, none⟩ = some (.int .i64 (0)) := (hc3 _ _ (by first | omega | (simp; done) | (simp; omega))).trans (by first | (with_reducible assumption) | (simp [go_sem]; done) | (simp [go_sem, *]; done) | assumption)
  have g3x9 : w3.cell? ⟨(w.heap.size + 1 + 1), 1, none⟩ = some (.int .i64 (0)) := (hc3 _ _ (by first | omega | (simp; done) | (simp; omega))).trans (by first | (with_reducible assumption) | (simp [go_sem]; done) | (simp [go_sem, *]; done) | assumption)
  have g3x10 : w3.cell? ⟨(w.heap.size + 1 + 1), 2, none⟩ = some (.int .i64 (0)) := (hc3 _ _ (by first | omega | (simp; done) | (simp; omega))).trans (by first | (with_reducible assumption) | (simp [go_sem]; done) | (simp [go_sem, *]; done) | assumption)
  have g3x11 : w3.cell? ⟨(w.heap.size + 1 + 1), 3, none⟩ = some (.int .i64 (0)) := (hc3 _ _ (by first | omega | (simp; done) | (simp; omega))).trans (by first | (with_reducible assumption) | (simp [go_sem]; done) | (simp [go_sem, *]; done) | assumption)
  have g3x12 : w3.cell? ⟨w2.heap.size, 0, none⟩ = some (.int .i64 (0)) := (hc3 _ _ (by first | omega | (simp; done) | (simp; omega))).trans (by first | (with_reducible assumption) | (simp [go_sem]; done) | (simp [go_sem, *]; done) | assumption)
  have g3x13 : w3.cell? ⟨w2.heap.size, 1, none⟩ = some (.int .i64 (0)) := (hc3 _ _ (by first | omega | (simp; done) | (simp; omega))).trans (by first | (with_reducible assumption) | (simp [go_sem]; done) | (simp [go_sem, *]; done) | assumption)
  have g3x14 : w3.cell? ⟨w2.heap.size, 2, none⟩ = some (.int .i64 (0)) := (hc3 _ _ (by first | omega | (simp; done) | (simp; omega))).trans (by first | (with_reducible assumption) | (simp [go_sem]; done) | (simp [go_sem, *]; done) | assumption)
  have g3x15 : w3.cell? ⟨w2.heap.size, 3, none⟩ = some (.int .i64 (0)) := (hc3 _ _ (by first | omega | (simp; done) | (simp; omega))).trans (by first | (with_reducible assumption) | (simp [go_sem]; done) | (simp [go_sem, *]; done) | assumption)
  clear hc3
  go_wp2_with fail
  refine (HM.out _).mono ?_
  rintro e w4 ⟨rfl, hb4⟩
  obtain ⟨hc4, hf4⟩ := bcell hb4
  have hz4 := hb4.size
  try simp at hz4
  have hl4w2 : w2.heap.size < w4.heap.size := by omega
  have hm4w2 : w2.heap.size ≤ w4.heap.size := by omega
  have hs4x0 : w.heap.size < w4.heap.size := by omega
  have hs4x1 : (w.heap.size + 1) < w4.heap.size := by omega
  have hs4x2 : (w.heap.size + 1 + 1) < w4.heap.size := by omega
  have g4x0 : w4.cell? ⟨w.heap.size, 0, none⟩ = some (.int .i64 (y)) := (hc4 _ _ (by first | omega | (simp; done) | (simp; omega))).trans (by first | (with_reducible assumption) | (simp [go_sem]; done) | (simp [go_sem, *]; done) | assumption)
  have g4x1 : w4.cell? ⟨w.heap.size, 1, none⟩ = some (.int .i64 (n)) := (hc4 _ _ (by first | omega | (simp; done) | (simp; omega))).trans (by first | (with_reducible assumption) | (simp [go_sem]; done) | (simp [go_sem, *]; done) | assumption)
  have g4x2 : w4.cell? ⟨w.heap.size, 2, none⟩ = some (.bool (l)) := (hc4 _ _ (by first | omega | (simp; done) | (simp; omega))).trans (by first | (with_reducible assumption) | (simp [go_sem]; done) | (simp [go_sem, *]; done) | assumption)
  have g4x3 : w4.cell? ⟨w.heap.size, 3, none⟩ = some (.int .i64 (d)) := (hc4 _ _ (by first | omega | (simp; done) | (simp; omega))).trans (by first | (with_reducible assumption) | (simp [go_sem]; done) | (simp [go_sem, *]; done) | assumption)
  have g4x4 : w4.cell? ⟨(w.heap.size + 1), 0, none⟩ = some (.int .i64 (z)) := (hc4 _ _ (by first | omega | (simp; done) | (simp; omega))).trans (by first | (with_reducible assumption) | (simp [go_sem]; done) | (simp [go_sem, *]; done) | assumption)
  have g4x5 : w4.cell? ⟨(w.heap.size + 1), 1, none⟩ = some (.int .i64 (k)) := (hc4 _ _ (by first | omega | (simp; done) | (simp; omega))).trans (by first | (with_reducible assumption) | (simp [go_sem]; done) | (simp [go_sem, *]; done) | assumption)
  have g4x6 : w4.cell? ⟨(w.heap.size + 1), 2, none⟩ = some (.bool (h)) := (hc4 _ _ (by first | omega | (simp; done) | (simp; omega))).trans (by first | (with_reducible assumption) | (simp [go_sem]; done) | (simp [go_sem, *]; done) | assumption)
  have g4x7 : w4.cell? ⟨(w.heap.size + 1), 3, none⟩ = some (.int .i64 (f)) := (hc4 _ _ (by first | omega | (simp; done) | (simp; omega))).trans (by first | (with_reducible assumption) | (simp [go_sem]; done) | (simp [go_sem, *]; done) | assumption)
  have g4x8 : w4.cell? ⟨(w.heap.size + 1 + 1), 0, none⟩ = some (.int .i64 (0)) := (hc4 _ _ (by first | omega | (simp; done) | (simp; omega))).trans (by first | (with_reducible assumption) | (simp [go_sem]; done) | (simp [go_sem, *]; done) | assumption)
  have g4x9 : w4.cell? ⟨(w.heap.size + 1 + 1), 1, none⟩ = some (.int .i64 (0)) := (hc4 _ _ (by first | omega | (simp; done) | (simp; omega))).trans (by first | (with_reducible assumption) | (simp [go_sem]; done) | (simp [go_sem, *]; done) | assumption)
  have g4x10 : w4.cell? ⟨(w.heap.size + 1 + 1), 2, none⟩ = some (.int .i64 (0)) := (hc4 _ _ (by first | omega | (simp; done) | (simp; omega))).trans (by first | (with_reducible assumption) | (simp [go_sem]; done) | (simp [go_sem, *]; done) | assumption)
  have g4x11 : w4.cell? ⟨(w.heap.size + 1 + 1), 3, none⟩ = some (.int .i64 (0)) := (hc4 _ _ (by first | omega | (simp; done) | (simp; omega))).trans (by first | (with_reducible assumption) | (simp [go_sem]; done) | (simp [go_sem, *]; done) | assumption)
  have g4x12 : w4.cell? ⟨w2.heap.size, 0, none⟩ = some (.int .i64 (va)) := (hc4 _ _ (by first | omega | (simp; done) | (simp; omega))).trans (by first | (with_reducible assumption) | (simp [go_sem]; done) | (simp [go_sem, *]; done) | assumption)
  have g4x13 : w4.cell? ⟨w2.heap.size, 1, none⟩ = some (.int .i64 (0)) := (hc4 _ _ (by first | omega | (simp; done) | (simp; omega))).trans (by first | (with_reducible assumption) | (simp [go_sem]; done) | (simp [go_sem, *]; done) | assumption)
  have g4x14 : w4.cell? ⟨w2.heap.size, 2, none⟩ = some (.int .i64 (0)) := (hc4 _ _ (by first | omega | (simp; done) | (simp; omega))).trans (by first | (with_reducible assumption) | (simp [go_sem]; done) | (simp [go_sem, *]; done) | assumption)
  have g4x15 : w4.cell? ⟨w2.heap.size, 3, none⟩ = some (.int .i64 (0)) := (hc4 _ _ (by first | omega | (simp; done) | (simp; omega))).trans (by first | (with_reducible assumption) | (simp [go_sem]; done) | (simp [go_sem, *]; done) | assumption)
  clear hc4
  go_wp2_with fail
  refine (HTo.out _).mono ?_
  rintro e w5 ⟨rfl, hb5⟩
  obtain ⟨hc5, hf5⟩ := bcell hb5
  have hz5 := hb5.size
  try simp at hz5
  have hl5w2 : w2.heap.size < w5.heap.size := by omega
  have hm5w2 : w2.heap.size ≤ w5.heap.size := by omega
  have hs5x0 : w.heap.size < w5.heap.size := by omega
  have hs5x1 : (w.heap.size + 1) < w5.heap.size := by omega
  have hs5x2 : (w.heap.size + 1 + 1) < w5.heap.size := by omega
  have g5x0 : w5.cell? ⟨w.heap.size, 0, none⟩ = some (.int .i64 (y)) := (hc5 _ _ (by first | omega | (simp; done) | (simp; omega))).trans (by first | (with_reducible assumption) | (simp [go_sem]; done) | (simp [go_sem, *]; done) | assumption)
  have g5x1 : w5.cell? ⟨w.heap.size, 1, none⟩ = some (.int .i64 (n)) := (hc5 _ _ (by first | omega | (simp; done) | (simp; omega))).trans (by first | (with_reducible assumption) | (simp [go_sem]; done) | (simp [go_sem, *]; done) | assumption)
  have g5x2 : w5.cell? ⟨w.heap.size, 2, none⟩ = some (.bool (l)) := (hc5 _ _ (by first | omega | (simp; done) | (simp; omega))).trans (by first | (with_reducible assumption) | (simp [go_sem]; done) | (simp [go_sem, *]; done) | assumption)
  have g5x3 : w5.cell? ⟨w.heap.size, 3, none⟩ = some (.int .i64 (d)) := (hc5 _ _ (by first | omega | (simp; done) | (simp; omega))).trans (by first | (with_reducible assumption) | (simp [go_sem]; done) | (simp [go_sem, *]; done) | assumption)
  have g5x4 : w5.cell? ⟨(w.heap.size + 1), 0, none⟩ = some (.int .i64 (z)) := (hc5 _ _ (by first | omega | (simp; done) | (simp; omega))).trans (by first | (with_reducible assumption) | (simp [go_sem]; done) | (simp [go_sem, *]; done) | assumption)
  have g5x5 : w5.cell? ⟨(w.heap.size + 1), 1, none⟩ = some (.int .i64 (k)) := (hc5 _ _ (by first | omega | (simp; done) | (simp; omega))).trans (by first | (with_reducible assumption) | (simp [go_sem]; done) | (simp [go_sem, *]; done) | assumption)
  have g5x6 : w5.cell? ⟨(w.heap.size + 1), 2, none⟩ = some (.bool (h)) := (hc5 _ _ (by first | omega | (simp; done) | (simp; omega))).trans (by first | (with_reducible assumption) | (simp [go_sem]; done) | (simp [go_sem, *]; done) | assumption)
  have g5x7 : w5.cell? ⟨(w.heap.size + 1), 3, none⟩ = some (.int .i64 (f)) := (hc5 _ _ (by first | omega | (simp; done) | (simp; omega))).trans (by first | (with_reducible assumption) | (simp [go_sem]; done) | (simp [go_sem, *]; done) | assumption)
  have g5x8 : w5.cell? ⟨(w.heap.size + 1 + 1), 0, none⟩ = some (.int .i64 (0)) := (hc5 _ _ (by first | omega | (simp; done) | (simp; omega))).trans (by first | (with_reducible assumption) | (simp [go_sem]; done) | (simp [go_sem, *]; done) | assumption)
  have g5x9 : w5.cell? ⟨(w.heap.size + 1 + 1), 1, none⟩ = some (.int .i64 (0)) := (hc5 _ _ (by first | omega | (simp; done) | (simp; omega))).trans (by first | (with_reducible assumption) | (simp [go_sem]; done) | (simp [go_sem, *]; done) | assumption)
  have g5x10 : w5.cell? ⟨(w.heap.size + 1 + 1), 2, none⟩ = some (.int .i64 (0)) := (hc5 _ _ (by first | omega | (simp; done) | (simp; omega))).trans (by first | (with_reducible assumption) | (simp [go_sem]; done) | (simp [go_sem, *]; done) | assumption)
  have g5x11 : w5.cell? ⟨(w.heap.size + 1 + 1), 3, none⟩ = some (.int .i64 (0)) := (hc5 _ _ (by first | omega | (simp; done) | (simp; omega))).trans (by first | (with_reducible assumption) | (simp [go_sem]; done) | (simp [go_sem, *]; done) | assumption)
  have g5x12 : w5.cell? ⟨w2.heap.size, 0, none⟩ = some (.int .i64 (va)) := (hc5 _ _ (by first | omega | (simp; done) | (simp; omega))).trans (by first | (with_reducible assumption) | (simp [go_sem]; done) | (simp [go_sem, *]; done) | assumption)
  have g5x13 : w5.cell? ⟨w2.heap.size, 1, none⟩ = some (.int .i64 (vb)) := (hc5 _ _ (by first | omega | (simp; done) | (simp; omega))).trans (by first | (with_reducible assumption) | (simp [go_sem]; done) | (simp [go_sem, *]; done) | assumption)
  have g5x14 : w5.cell? ⟨w2.heap.size, 2, none⟩ = some (.int .i64 (0)) := (hc5 _ _ (by first | omega | (simp; done) | (simp; omega))).trans (by first | (with_reducible assumption) | (simp [go_sem]; done) | (simp [go_sem, *]; done) | assumption)
  have g5x15 : w5.cell? ⟨w2.heap.size, 3, none⟩ = some (.int .i64 (0)) := (hc5 _ _ (by first | omega | (simp; done) | (simp; omega))).trans (by first | (with_reducible assumption) | (simp [go_sem]; done) | (simp [go_sem, *]; done) | assumption)
  clear hc5
  go_wp2_with fail
  refine (HX.out _).mono ?_
  rintro e w6 ⟨rfl, hb6⟩
  obtain ⟨hc6, hf6⟩ := bcell hb6
  have hz6 := hb6.size
  try simp at hz6
  have hl6w2 : w2.heap.size < w6.heap.size := by omega
  have hm6w2 : w2.heap.size ≤ w6.heap.size := by omega
  have hs6x0 : w.heap.size < w6.heap.size := by omega
  have hs6x1 : (w.heap.size + 1) < w6.heap.size := by omega
  have hs6x2 : (w.heap.size + 1 + 1) < w6.heap.size := by omega
  have g6x0 : w6.cell? ⟨w.heap.size, 0, none⟩ = some (.int .i64 (y)) := (hc6 _ _ (by first | omega | (simp; done) | (simp; omega))).trans (by first | (with_reducible assumption) | (simp [go_sem]; done) | (simp [go_sem, *]; done) | assumption)
  have g6x1 : w6.cell? ⟨w.heap.size, 1, none⟩ = some (.int .i64 (n)) := (hc6 _ _ (by first | omega | (simp; done) | (simp; omega))).trans (by first | (with_reducible assumption) | (simp [go_sem]; done) | (simp [go_sem, *]; done) | assumption)
  have g6x2 : w6.cell? ⟨w.heap.size, 2, none⟩ = some (.bool (l)) := (hc6 _ _ (by first | omega | (simp; done) | (simp; omega))).trans (by first | (with_reducible assumption) | (simp [go_sem]; done) | (simp [go_sem, *]; done) | assumption)
  have g6x3 : w6.cell? ⟨w.heap.size, 3, none⟩ = some (.int .i64 (d)) := (hc6 _ _ (by first | omega | (simp; done) | (simp; omega))).trans (by first | (with_reducible assumption) | (simp [go_sem]; done) | (simp [go_sem, *]; done) | assumption)
  have g6x4 : w6.cell? ⟨(w.heap.size + 1), 0, none⟩ = some (.int .i64 (z)) := (hc6 _ _ (by first | omega | (simp; done) | (simp; omega))).trans (by first | (with_reducible assumption) | (simp [go_sem]; done) | (simp [go_sem, *]; done) | assumption)
  have g6x5 : w6.cell? ⟨(w.heap.size + 1), 1, none⟩ = some (.int .i64 (k)) := (hc6 _ _ (by first | omega | (simp; done) | (simp; omega))).trans (by first | (with_reducible assumption) | (simp [go_sem]; done) | (simp [go_sem, *]; done) | assumption)
  have g6x6 : w6.cell? ⟨(w.heap.size + 1), 2, none⟩ = some (.bool (h)) := (hc6 _ _ (by first | omega | (simp; done) | (simp; omega))).trans (by first | (with_reducible assumption) | (simp [go_sem]; done) | (simp [go_sem, *]; done) | assumption)
  have g6x7 : w6.cell? ⟨(w.heap.size + 1), 3, none⟩ = some (.int .i64 (f)) := (hc6 _ _ (by first | omega | (simp; done) | (simp; omega))).trans (by first | (with_reducible assumption) | (simp [go_sem]; done) | (simp [go_sem, *]; done) | assumption)
  have g6x8 : w6.cell? ⟨(w.heap.size + 1 + 1), 0, none⟩ = some (.int .i64 (0)) := (hc6 _ _ (by first | omega | (simp; done) | (simp; omega))).trans (by first | (with_reducible assumption) | (simp [go_sem]; done) | (simp [go_sem, *]; done) | assumption)
  have g6x9 : w6.cell? ⟨(w.heap.size + 1 + 1), 1, none⟩ = some (.int .i64 (0)) := (hc6 _ _ (by first | omega | (simp; done) | (simp; omega))).trans (by first | (with_reducible assumption) | (simp [go_sem]; done) | (simp [go_sem, *]; done) | assumption)
  have g6x10 : w6.cell? ⟨(w.heap.size + 1 + 1), 2, none⟩ = some (.int .i64 (0)) := (hc6 _ _ (by first | omega | (simp; done) | (simp; omega))).trans (by first | (with_reducible assumption) | (simp [go_sem]; done) | (simp [go_sem, *]; done) | assumption)
  have g6x11 : w6.cell? ⟨(w.heap.size + 1 + 1), 3, none⟩ = some (.int .i64 (0)) := (hc6 _ _ (by first | omega | (simp; done) | (simp; omega))).trans (by first | (with_reducible assumption) | (simp [go_sem]; done) | (simp [go_sem, *]; done) | assumption)
  have g6x12 : w6.cell? ⟨w2.heap.size, 0, none⟩ = some (.int .i64 (va)) := (hc6 _ _ (by first | omega | (simp; done) | (simp; omega))).trans (by first | (with_reducible assumption) | (simp [go_sem]; done) | (simp [go_sem, *]; done) | assumption)
  have g6x13 : w6.cell? ⟨w2.heap.size, 1, none⟩ = some (.int .i64 (vb)) := (hc6 _ _ (by first | omega | (simp; done) | (simp; omega))).trans (by first | (with_reducible assumption) | (simp [go_sem]; done) | (simp [go_sem, *]; done) | assumption)
  have g6x14 : w6.cell? ⟨w2.heap.size, 2, none⟩ = some (.int .i64 (0)) := (hc6 _ _ (by first | omega | (simp; done) | (simp; omega))).trans (by first | (with_reducible assumption) | (simp [go_sem]; done) | (simp [go_sem, *]; done) | assumption)
  have g6x15 : w6.cell? ⟨w2.heap.size, 3, none⟩ = some (.int .i64 (0)) := (hc6 _ _ (by first | omega | (simp; done) | (simp; omega))).trans (by first | (with_reducible assumption) | (simp [go_sem]; done) | (simp [go_sem, *]; done) | assumption)
  clear hc6
  go_wp2_with fail
  refine bodyPost_ret (v := .tuple #[.agg #[.int .i64 (va), .int .i64 (vb), .int .i64 (0), .int .i64 (D2 - D3)], .int .i64 (0)]) (by simp [results, Tryz.results35, go_sem, *]) rfl ⟨rfl, ?_⟩
  repeat (first | (with_reducible exact Below.refl _ _) | (with_reducible assumption) | (with_reducible refine bdrew ?_) | (with_reducible refine baa ?_ _) | (with_reducible refine bs ?_ (by first | exact Nat.le_refl _ | omega | (simp; done) | (simp; omega)) _) | (with_reducible refine bt ?_ (by with_reducible assumption)))
set_option maxHeartbeats 4000000 in
theorem ref17_Date_u1_down (y n : Int) (l : Bool) (d z k : Int) (h : Bool) (f : Int) (D1 D2 : Int) (w : World) (HTa : Hid (∀ w : World, Calls Tryz.prog 37 #[.agg #[.int .i64 (y), .int .i64 (n), .bool (l), .int .i64 (d)]] w fun e w' => e = .returned (.tuple #[.int .i64 (D1), .int .i64 (0)]) ∧ Below w.heap.size w w')) (HTb : Hid (∀ w : World, Calls Tryz.prog 37 #[.agg #[.int .i64 (z), .int .i64 (k), .bool (h), .int .i64 (f)]] w fun e w' => e = .returned (.tuple #[.int .i64 (D2), .int .i64 (0)]) ∧ Below w.heap.size w w')) (h11 : -3000000 ≤ D1) (h12 : D1 ≤ 3000000) (h21 : -3000000 ≤ D2) (h22 : D2 ≤ 3000000) (hs : D2 < D1) :
    Calls Tryz.prog 35 #[.agg #[.int .i64 (y), .int .i64 (n), .bool (l), .int .i64 (d)], .agg #[.int .i64 (z), .int .i64 (k), .bool (h), .int .i64 (f)], .int .i64 1] w fun e w' => e = .returned (.tuple #[.agg #[.int .i64 (0), .int .i64 (0), .int .i64 ((D2 - D1).tdiv 7), .int .i64 ((D2 - D1).tmod 7)], .int .i64 (0)]) ∧ Below w.heap.size w w' := by
  have b1 : -10000000 ≤ (D2 - D1).tdiv 7 ∧ (D2 - D1).tdiv 7 ≤ 10000000 := by
    by_cases c : 0 ≤ D2 - D1
    · rw [Int.tdiv_eq_ediv_of_nonneg c]; omega
    · have : (D2 - D1).tdiv 7 = -((-(D2 - D1)) / 7) := by rw [← Int.tdiv_eq_ediv_of_nonneg (by omega), Int.neg_tdiv, Int.neg_neg]
      omega
  have hwr : IntKind.i64.wrap ((D2 - D1).tdiv 7) = (D2 - D1).tdiv 7 := IntWalk.i64_in _ (by omega)
  have q0 : D2 - D1 < 0 := by omega
  obtain ⟨b2, b3⟩ := b1
  go_enter Tryz.func35, Tryz.ntmps35
  go_wp2_with fail
  refine (HTa.out _).mono ?_
  rintro e w1 ⟨rfl, hb1⟩
  obtain ⟨hc1, hf1⟩ := bcell hb1
  have hz1 := hb1.size
  try simp at hz1
  have hs1x0 : w.heap.size < w1.heap.size := by omega
  have hs1x1 : (w.heap.size + 1) < w1.heap.size := by omega
  have hs1x2 : (w.heap.size + 1 + 1) < w1.heap.size := by omega
  have g1x0 : w1.cell? ⟨w.heap.size, 0, none⟩ = some (.int .i64 (y)) := (hc1 _ _ (by first | omega | (simp; done) | (simp; omega))).trans (by first | (with_reducible assumption) | (simp [go_sem]; done) | (simp [go_sem, *]; done) | assumption)
  have g1x1 : w1.cell? ⟨w.heap.size, 1, none⟩ = some (.int .i64 (n)) := (hc1 _ _ (by first | omega | (simp; done) | (simp; omega))).trans (by first | (with_reducible assumption) | (simp [go_sem]; done) | (simp [go_sem, *]; done) | assumption)
  have g1x2 : w1.cell? ⟨w.heap.size, 2, none⟩ = some (.bool (l)) := (hc1 _ _ (by first | omega | (simp; done) | (simp; omega))).trans (by first | (with_reducible assumption) | (simp [go_sem]; done) | (simp [go_sem, *]; done) | assumption)
  have g1x3 : w1.cell? ⟨w.heap.size, 3, none⟩ = some (.int .i64 (d)) := (hc1 _ _ (by first | omega | (simp; done) | (simp; omega))).trans (by first | (with_reducible assumption) | (simp [go_sem]; done) | (simp [go_sem, *]; done) | assumption)
  have g1x4 : w1.cell? ⟨(w.heap.size + 1), 0, none⟩ = some (.int .i64 (z)) := (hc1 _ _ (by first | omega | (simp; done) | (simp; omega))).trans (by first | (with_reducible assumption) | (simp [go_sem]; done) | (simp [go_sem, *]; done) | assumption)
  have g1x5 : w1.cell? ⟨(w.heap.size + 1), 1, none⟩ = some (.int .i64 (k)) := (hc1 _ _ (by first | omega | (simp; done) | (simp; omega))).trans (by first | (with_reducible assumption) | (simp [go_sem]; done) | (simp [go_sem, *]; done) | assumption)
  have g1x6 : w1.cell? ⟨(w.heap.size + 1), 2, none⟩ = some (.bool (h)) := (hc1 _ _ (by first | omega | (simp; done) | (simp; omega))).trans (by first | (with_reducible assumption) | (simp [go_sem]; done) | (simp [go_sem, *]; done) | assumption)
  have g1x7 : w1.cell? ⟨(w.heap.size + 1), 3, none⟩ = some (.int .i64 (f)) := (hc1 _ _ (by first | omega | (simp; done) | (simp; omega))).trans (by first | (with_reducible assumption) | (simp [go_sem]; done) | (simp [go_sem, *]; done) | assumption)
  have g1x8 : w1.cell? ⟨(w.heap.size + 1 + 1), 0, none⟩ = some (.int .i64 (0)) := (hc1 _ _ (by first | omega | (simp; done) | (simp; omega))).trans (by first | (with_reducible assumption) | (simp [go_sem]; done) | (simp [go_sem, *]; done) | assumption)
  have g1x9 : w1.cell? ⟨(w.heap.size + 1 + 1), 1, none⟩ = some (.int .i64 (0)) := (hc1 _ _ (by first | omega | (simp; done) | (simp; omega))).trans (by first | (with_reducible assumption) | (simp [go_sem]; done) | (simp [go_sem, *]; done) | assumption)
  have g1x10 : w1.cell? ⟨(w.heap.size + 1 + 1), 2, none⟩ = some (.int .i64 (0)) := (hc1 _ _ (by first | omega | (simp; done) | (simp; omega))).trans (by first | (with_reducible assumption) | (simp [go_sem]; done) | (simp [go_sem, *]; done) | assumption)
  have g1x11 : w1.cell? ⟨(w.heap.size + 1 + 1), 3, none⟩ = some (.int .i64 (0)) := (hc1 _ _ (by first | omega | (simp; done) | (simp; omega))).trans (by first | (with_reducible assumption) | (simp [go_sem]; done) | (simp [go_sem, *]; done) | assumption)
  go_wp2_with fail
  refine (HTb.out _).mono ?_
  rintro e w2 ⟨rfl, hb2⟩
  obtain ⟨hc2, hf2⟩ := bcell hb2
  have hz2 := hb2.size
  try simp at hz2
  have hs2x0 : w.heap.size < w2.heap.size := by omega
  have hs2x1 : (w.heap.size + 1) < w2.heap.size := by omega
  have hs2x2 : (w.heap.size + 1 + 1) < w2.heap.size := by omega
  have g2x0 : w2.cell? ⟨w.heap.size, 0, none⟩ = some (.int .i64 (y)) := (hc2 _ _ (by first | omega | (simp; done) | (simp; omega))).trans (by first | (with_reducible assumption) | (simp [go_sem]; done) | (simp [go_sem, *]; done) | assumption)
  have g2x1 : w2.cell? ⟨w.heap.size, 1, none⟩ = some (.int .i64 (n)) := (hc2 _ _ (by first | omega | (simp; done) | (simp; omega))).trans (by first | (with_reducible assumption) | (simp [go_sem]; done) | (simp [go_sem, *]; done) | assumption)
  have g2x2 : w2.cell? ⟨w.heap.size, 2, none⟩ = some (.bool (l)) := (hc2 _ _ (by first | omega | (simp; done) | (simp; omega))).trans (by first | (with_reducible assumption) | (simp [go_sem]; done) | (simp [go_sem, *]; done) | assumption)
  have g2x3 : w2.cell? ⟨w.heap.size, 3, none⟩ = some (.int .i64 (d)) := (hc2 _ _ (by first | omega | (simp; done) | (simp; omega))).trans (by first | (with_reducible assumption) | (simp [go_sem]; done) | (simp [go_sem, *]; done) | assumption)
  have g2x4 : w2.cell? ⟨(w.heap.size + 1), 0, none⟩ = some (.int .i64 (z)) := (hc2 _ _ (by first | omega | (simp; done) | (simp; omega))).trans (by first | (with_reducible assumption) | (simp [go_sem]; done) | (simp [go_sem, *]; done) | assumption)
  have g2x5 : w2.cell? ⟨(w.heap.size + 1), 1, none⟩ = some (.int .i64 (k)) := (hc2 _ _ (by first | omega | (simp; done) | (simp; omega))).trans (by first | (with_reducible assumption) | (simp [go_sem]; done) | (simp [go_sem, *]; done) | assumption)
  have g2x6 : w2.cell? ⟨(w.heap.size + 1), 2, none⟩ = some (.bool (h)) := (hc2 _ _ (by first | omega | (simp; done) | (simp; omega))).trans (by first | (with_reducible assumption) | (simp [go_sem]; done) | (simp [go_sem, *]; done) | assumption)
  have g2x7 : w2.cell? ⟨(w.heap.size + 1), 3, none⟩ = some (.int .i64 (f)) := (hc2 _ _ (by first | omega | (simp; done) | (simp; omega))).trans (by first | (with_reducible assumption) | (simp [go_sem]; done) | (simp [go_sem, *]; done) | assumption)
  have g2x8 : w2.cell? ⟨(w.heap.size + 1 + 1), 0, none⟩ = some (.int .i64 (0)) := (hc2 _ _ (by first | omega | (simp; done) | (simp; omega))).trans (by first | (with_reducible assumption) | (simp [go_sem]; done) | (simp [go_sem, *]; done) | assumption)
  have g2x9 : w2.cell? ⟨(w.heap.size + 1 + 1), 1, none⟩ = some (.int .i64 (0)) := (hc2 _ _ (by first | omega | (simp; done) | (simp; omega))).trans (by first | (with_reducible assumption) | (simp [go_sem]; done) | (simp [go_sem, *]; done) | assumption)
  have g2x10 : w2.cell? ⟨(w.heap.size + 1 + 1), 2, none⟩ = some (.int .i64 (0)) := (hc2 _ _ (by first | omega | (simp; done) | (simp; omega))).trans (by first | (with_reducible assumption) | (simp [go_sem]; done) | (simp [go_sem, *]; done) | assumption)
  have g2x11 : w2.cell? ⟨(w.heap.size + 1 + 1), 3, none⟩ = some (.int .i64 (0)) := (hc2 _ _ (by first | omega | (simp; done) | (simp; omega))).trans (by first | (with_reducible assumption) | (simp [go_sem]; done) | (simp [go_sem, *]; done) | assumption)
  go_wp2_with fail
  refine bodyPost_ret (v := .tuple #[.agg #[.int .i64 (0), .int .i64 (0), .int .i64 ((D2 - D1).tdiv 7), .int .i64 ((D2 - D1).tmod 7)], .int .i64 (0)]) (by simp [results, Tryz.results35, go_sem, *]) rfl ⟨rfl, ?_⟩
  repeat (first | (with_reducible exact Below.refl _ _) | (with_reducible assumption) | (with_reducible refine bdrew ?_) | (with_reducible refine baa ?_ _) | (with_reducible refine bs ?_ (by first | exact Nat.le_refl _ | omega | (simp; done) | (simp; omega)) _) | (with_reducible refine bt ?_ (by with_reducible assumption)))
set_option maxHeartbeats 4000000 in
theorem ref17_Date_u0_down (y n : Int) (l : Bool) (d z k : Int) (h : Bool) (f : Int) (ry rn : Int) (rl : Bool) (rd D1 D2 D3 : Int) (w : World) (HTa : Hid (∀ w : World, Calls Tryz.prog 37 #[.agg #[.int .i64 (y), .int .i64 (n), .bool (l), .int .i64 (d)]] w fun e w' => e = .returned (.tuple #[.int .i64 (D1), .int .i64 (0)]) ∧ Below w.heap.size w w')) (HTb : Hid (∀ w : World, Calls Tryz.prog 37 #[.agg #[.int .i64 (z), .int .i64 (k), .bool (h), .int .i64 (f)]] w fun e w' => e = .returned (.tuple #[.int .i64 (D2), .int .i64 (0)]) ∧ Below w.heap.size w w')) (HTo : Hid (∀ w : World, Calls Tryz.prog 28 #[.agg #[.int .i64 (y), .int .i64 (n), .bool (l), .int .i64 (d)], .agg #[.int .i64 (0), .int .i64 (0), .int .i64 (0), .int .i64 (0)], .int .i64 0] w fun e w' => e = .returned (.tuple #[.agg #[.int .i64 (ry), .int .i64 (rn), .bool (rl), .int .i64 (rd)], .int .i64 (0)]) ∧ Below w.heap.size w w')) (HX : Hid (∀ w : World, Calls Tryz.prog 37 #[.agg #[.int .i64 (ry), .int .i64 (rn), .bool (rl), .int .i64 (rd)]] w fun e w' => e = .returned (.tuple #[.int .i64 D3, .int .i64 0]) ∧ Below w.heap.size w w')) (h11 : -3000000 ≤ D1) (h12 : D1 ≤ 3000000) (h21 : -3000000 ≤ D2) (h22 : D2 ≤ 3000000) (h31 : -3000000 ≤ D3) (h32 : D3 ≤ 3000000) (hs : D2 < D1) :
    Calls Tryz.prog 35 #[.agg #[.int .i64 (y), .int .i64 (n), .bool (l), .int .i64 (d)], .agg #[.int .i64 (z), .int .i64 (k), .bool (h), .int .i64 (f)], .int .i64 0] w fun e w' => e = .returned (.tuple #[.agg #[.int .i64 (0), .int .i64 (0), .int .i64 (0), .int .i64 (D2 - D3)], .int .i64 (0)]) ∧ Below w.heap.size w w' := by
  go_enter Tryz.func35, Tryz.ntmps35
  go_wp2_with fail
  refine (HTa.out _).mono ?_
  rintro e w1 ⟨rfl, hb1⟩
  obtain ⟨hc1, hf1⟩ := bcell hb1
  have hz1 := hb1.size
  try simp at hz1
  have hs1x0 : w.heap.size < w1.heap.size := by omega
  have hs1x1 : (w.heap.size + 1) < w1.heap.size := by omega
  have hs1x2 : (w.heap.size + 1 + 1) < w1.heap.size := by omega
  have g1x0 : w1.cell? ⟨w.heap.size, 0, none⟩ = some (.int .i64 (y)) := (hc1 _ _ (by first | omega | (simp; done) | (simp; omega))).trans (by first | (with_reducible assumption) | (simp [go_sem]; done) | (simp [go_sem, *]; done) | assumption)
  have g1x1 : w1.cell? ⟨w.heap.size, 1, none⟩ = some (.int .i64 (n)) := (hc1 _ _ (by first | omega | (simp; done) | (simp; omega))).trans (by first | (with_reducible assumption) | (simp [go_sem]; done) | (simp [go_sem, *]; done) | assumption)
  have g1x2 : w1.cell? ⟨w.heap.size, 2, none⟩ = some (.bool (l)) := (hc1 _ _ (by first | omega | (simp; done) | (simp; omega))).trans (by first | (with_reducible assumption) | (simp [go_sem]; done) | (simp [go_sem, *]; done) | assumption)
  have g1x3 : w1.cell? ⟨w.heap.size, 3, none⟩ = some (.int .i64 (d)) := (hc1 _ _ (by first | omega | (simp; done) | (simp; omega))).trans (by first | (with_reducible assumption) | (simp [go_sem]; done) | (simp [go_sem, *]; done) | assumption)
  have g1x4 : w1.cell? ⟨(w.heap.size + 1), 0, none⟩ = some (.int .i64 (z)) := (hc1 _ _ (by first | omega | (simp; done) | (simp; omega))).trans (by first | (with_reducible assumption) | (simp [go_sem]; done) | (simp [go_sem, *]; done) | assumption)
  have g1x5 : w1.cell? ⟨(w.heap.size + 1), 1, none⟩ = some (.int .i64 (k)) := (hc1 _ _ (by first | omega | (simp; done) | (simp; omega))).trans (by first | (with_reducible assumption) | (simp [go_sem]; done) | (simp [go_sem, *]; done) | assumption)
  have g1x6 : w1.cell? ⟨(w.heap.size + 1), 2, none⟩ = some (.bool (h)) := (hc1 _ _ (by first | omega | (simp; done) | (simp; omega))).trans (by first | (with_reducible assumption) | (simp [go_sem]; done) | (simp [go_sem, *]; done) | assumption)
  have g1x7 : w1.cell? ⟨(w.heap.size + 1), 3, none⟩ = some (.int .i64 (f)) := (hc1 _ _ (by first | omega | (simp; done) | (simp; omega))).trans (by first | (with_reducible assumption) | (simp [go_sem]; done) | (simp [go_sem, *]; done) | assumption)
  have g1x8 : w1.cell? ⟨(w.heap.size + 1 + 1), 0, none⟩ = some (.int .i64 (0)) := (hc1 _ _ (by first | omega | (simp; done) | (simp; omega))).trans (by first | (with_reducible assumption) | (simp [go_sem]; done) | (simp [go_sem, *]; done) | assumption)
  have g1x9 : w1.cell? ⟨(w.heap.size + 1 + 1), 1, none⟩ = some (.int .i64 (0)) := (hc1 _ _ (by first | omega | (simp; done) | (simp; omega))).trans (by first | (with_reducible assumption) | (simp [go_sem]; done) | (simp [go_sem, *]; done) | assumption)
  have g1x10 : w1.cell? ⟨(w.heap.size + 1 + 1), 2, none⟩ = some (.int .i64 (0)) := (hc1 _ _ (by first | omega | (simp; done) | (simp; omega))).trans (by first | (with_reducible assumption) | (simp [go_sem]; done) | (simp [go_sem, *]; done) | assumption)
  have g1x11 : w1.cell? ⟨(w.heap.size + 1 + 1), 3, none⟩ = some (.int .i64 (0)) := (hc1 _ _ (by first | omega | (simp; done) | (simp; omega))).trans (by first | (with_reducible assumption) | (simp [go_sem]; done) | (simp [go_sem, *]; done) | assumption)
  go_wp2_with fail
  refine (HTb.out _).mono ?_
  rintro e w2 ⟨rfl, hb2⟩
  obtain ⟨hc2, hf2⟩ := bcell hb2
  have hz2 := hb2.size
  try simp at hz2
  have hs2x0 : w.heap.size < w2.heap.size := by omega
  have hs2x1 : (w.heap.size + 1) < w2.heap.size := by omega
  have hs2x2 : (w.heap.size + 1 + 1) < w2.heap.size := by omega
  have g2x0 : w2.cell? ⟨w.heap.size, 0, none⟩ = some (.int .i64 (y)) := (hc2 _ _ (by first | omega | (simp; done) | (simp; omega))).trans (by first | (with_reducible assumption) | (simp [go_sem]; done) | (simp [go_sem, *]; done) | assumption)
  have g2x1 : w2.cell? ⟨w.heap.size, 1, none⟩ = some (.int .i64 (n)) := (hc2 _ _ (by first | omega | (simp; done) | (simp; omega))).trans (by first | (with_reducible assumption) | (simp [go_sem]; done) | (simp [go_sem, *]; done) | assumption)
  have g2x2 : w2.cell? ⟨w.heap.size, 2, none⟩ = some (.bool (l)) := (hc2 _ _ (by first | omega | (simp; done) | (simp; omega))).trans (by first | (with_reducible assumption) | (simp [go_sem]; done) | (simp [go_sem, *]; done) | assumption)
  have g2x3 : w2.cell? ⟨w.heap.size, 3, none⟩ = some (.int .i64 (d)) := (hc2 _ _ (by first | omega | (simp; done) | (simp; omega))).trans (by first | (with_reducible assumption) | (simp [go_sem]; done) | (simp [go_sem, *]; done) | assumption)
  have g2x4 : w2.cell? ⟨(w.heap.size + 1), 0, none⟩ = some (.int .i64 (z)) := (hc2 _ _ (by first | omega | (simp; done) | (simp; omega))).trans (by first | (with_reducible assumption) | (simp [go_sem]; done) | (simp [go_sem, *]; done) | assumption)
  have g2x5 : w2.cell? ⟨(w.heap.size + 1), 1, none⟩ = some (.int .i64 (k)) := (hc2 _ _ (by first | omega | (simp; done) | (simp; omega))).trans (by first | (with_reducible assumption) | (simp [go_sem]; done) | (simp [go_sem, *]; done) | assumption)
  have g2x6 : w2.cell? ⟨(w.heap.size + 1), 2, none⟩ = some (.bool (h)) := (hc2 _ _ (by first | omega | (simp; done) | (simp; omega))).trans (by first | (with_reducible assumption) | (simp [go_sem]; done) | (simp [go_sem, *]; done) | assumption)
  have g2x7 : w2.cell? ⟨(w.heap.size + 1), 3, none⟩ = some (.int .i64 (f)) := (hc2 _ _ (by first | omega | (simp; done) | (simp; omega))).trans (by first | (with_reducible assumption) | (simp [go_sem]; done) | (simp [go_sem, *]; done) | assumption)
  have g2x8 : w2.cell? ⟨(w.heap.size + 1 + 1), 0, none⟩ = some (.int .i64 (0)) := (hc2 _ _ (by first | omega | (simp; done) | (simp; omega))).trans (by first | (with_reducible assumption) | (simp [go_sem]; done) | (simp [go_sem, *]; done) | assumption)
  have g2x9 : w2.cell? ⟨(w.heap.size + 1 + 1), 1, none⟩ = some (.int .i64 (0)) := (hc2 _ _ (by first | omega | (simp; done) | (simp; omega))).trans (by first | (with_reducible assumption) | (simp [go_sem]; done) | (simp [go_sem, *]; done) | assumption)
  have g2x10 : w2.cell? ⟨(w.heap.size + 1 + 1), 2, none⟩ = some (.int .i64 (0)) := (hc2 _ _ (by first | omega | (simp; done) | (simp; omega))).trans (by first | (with_reducible assumption) | (simp [go_sem]; done) | (simp [go_sem, *]; done) | assumption)
  have g2x11 : w2.cell? ⟨(w.heap.size + 1 + 1), 3, none⟩ = some (.int .i64 (0)) := (hc2 _ _ (by first | omega | (simp; done) | (simp; omega))).trans (by first | (with_reducible assumption) | (simp [go_sem]; done) | (simp [go_sem, *]; done) | assumption)
  go_wp2_with fail
  refine (HTo.out _).mono ?_
  rintro e w3 ⟨rfl, hb3⟩
  obtain ⟨hc3, hf3⟩ := bcell hb3
  have hz3 := hb3.size
  try simp at hz3
  have hl3w2 : w2.heap.size < w3.heap.size := by omega
  have hm3w2 : w2.heap.size ≤ w3.heap.size := by omega
  have hs3x0 : w.heap.size < w3.heap.size := by omega
  have hs3x1 : (w.heap.size + 1) < w3.heap.size := by omega
  have hs3x2 : (w.heap.size + 1 + 1) < w3.heap.size := by omega
  have g3x0 : w3.cell? ⟨w.heap.size, 0, none⟩ = some (.int .i64 (y)) := (hc3 _ _ (by first | omega | (simp; done) | (simp; omega))).trans (by first | (with_reducible assumption) | (simp [go_sem]; done) | (simp [go_sem, *]; done) | assumption)
  have g3x1 : w3.cell? ⟨w.heap.size, 1, none⟩ = some (.int .i64 (n)) := (hc3 _ _ (by first | omega | (simp; done) | (simp; omega))).trans (by first | (with_reducible assumption) | (simp [go_sem]; done) | (simp [go_sem, *]; done) | assumption)
  have g3x2 : w3.cell? ⟨w.heap.size, 2, none⟩ = some (.bool (l)) := (hc3 _ _ (by first | omega | (simp; done) | (simp; omega))).trans (by first | (with_reducible assumption) | (simp [go_sem]; done) | (simp [go_sem, *]; done) | assumption)
  have g3x3 : w3.cell? ⟨w.heap.size, 3, none⟩ = some (.int .i64 (d)) := (hc3 _ _ (by first | omega | (simp; done) | (simp; omega))).trans (by first | (with_reducible assumption) | (simp [go_sem]; done) | (simp [go_sem, *]; done) | assumption)
  have g3x4 : w3.cell? ⟨(w.heap.size + 1), 0, none⟩ = some (.int .i64 (z)) := (hc3 _ _ (by first | omega | (simp; done) | (simp; omega))).trans (by first | (with_reducible assumption) | (simp [go_sem]; done) | (simp [go_sem, *]; done) | assumption)
  have g3x5 : w3.cell? ⟨(w.heap.size + 1), 1, none⟩ = some (.int .i64 (k)) := (hc3 _ _ (by first | omega | (simp; done) | (simp; omega))).trans (by first | (with_reducible assumption) | (simp [go_sem]; done) | (simp [go_sem, *]; done) | assumption)
  have g3x6 : w3.cell? ⟨(w.heap.size + 1), 2, none⟩ = some (.bool (h)) := (hc3 _ _ (by first | omega | (simp; done) | (simp; omega))).trans (by first | (with_reducible assumption) | (simp [go_sem]; done) | (simp [go_sem, *]; done) | assumption)
  have g3x7 : w3.cell? ⟨(w.heap.size + 1), 3, none⟩ = some (.int .i64 (f)) := (hc3 _ _ (by first | omega | (simp; done) | (simp; omega))).trans (by first | (with_reducible assumption) | (simp [go_sem]; done) | (simp [go_sem, *]; done) | assumption)
  have g3x8 : w3.cell? ⟨(w.heap.size + 1 + 1), 0, none⟩ = some (.int .i64 (0)) := (hc3 _ _ (by first | omega | (simp; done) | (simp; omega))).trans (by first | (with_reducible assumption) | (simp [go_sem]; done) | (simp [go_sem, *]; done) | assumption)
  have g3x9 : w3.cell? ⟨(w.heap.size + 1 + 1), 1, none⟩ = some (.int .i64 (0)) := (hc3 _ _ (by first | omega | (simp; done) | (simp; omega))).trans (by first | (with_reducible assumption) | (simp [go_sem]; done) | (simp [go_sem, *]; done) | assumption)
  have g3x10 : w3.cell? ⟨(w.heap.size + 1 + 1), 2, none⟩ = some (.int .i64 (0)) := (hc3 _ _ (by first | omega | (simp; done) | (simp; omega))).trans (by first | (with_reducible assumption) | (simp [go_sem]; done) | (simp [go_sem, *]; done) | assumption)
  have g3x11 : w3.cell? ⟨(w.heap.size + 1 + 1), 3, none⟩ = some (.int .i64 (0)) := (hc3 _ _ (by first | omega | (simp; done) | (simp; omega))).trans (by first | (with_reducible assumption) | (simp [go_sem]; done) | (simp [go_sem, *]; done) | assumption)
  have g3x12 : w3.cell? ⟨w2.heap.size, 0, none⟩ = some (.int .i64 (0)) := (hc3 _ _ (by first | omega | (simp; done) | (simp; omega))).trans (by first | (with_reducible assumption) | (simp [go_sem]; done) | (simp [go_sem, *]; done) | assumption)
  have g3x13 : w3.cell? ⟨w2.heap.size, 1, none⟩ = some (.int .i64 (0)) := (hc3 _ _ (by first | omega | (simp; done) | (simp; omega))).trans (by first | (with_reducible assumption) | (simp [go_sem]; done) | (simp [go_sem, *]; done) | assumption)
  have g3x14 : w3.cell? ⟨w2.heap.size, 2, none⟩ = some (.int .i64 (0)) := (hc3 _ _ (by first | omega | (simp; done) | (simp; omega))).trans (by first | (with_reducible assumption) | (simp [go_sem]; done) | (simp [go_sem, *]; done) | assumption)
  have g3x15 : w3.cell? ⟨w2.heap.size, 3, none⟩ = some (.int .i64 (0)) := (hc3 _ _ (by first | omega | (simp; done) | (simp; omega))).trans (by first | (with_reducible assumption) | (simp [go_sem]; done) | (simp [go_sem, *]; done) | assumption)
  clear hc3
  go_wp2_with fail
  refine (HX.out _).mono ?_
  rintro e w4 ⟨rfl, hb4⟩
  obtain ⟨hc4, hf4⟩ := bcell hb4
  have hz4 := hb4.size
  try simp at hz4
  have hl4w2 : w2.heap.size < w4.heap.size := by omega
  have hm4w2 : w2.heap.size ≤ w4.heap.size := by omega
  have hs4x0 : w.heap.size < w4.heap.size := by omega
  have hs4x1 : (w.heap.size + 1) < w4.heap.size := by omega
  have hs4x2 : (w.heap.size + 1 + 1) < w4.heap.size := by omega
  have g4x0 : w4.cell? ⟨w.heap.size, 0, none⟩ = some (.int .i64 (y)) := (hc4 _ _ (by first | omega | (simp; done) | (simp; omega))).trans (by first | (with_reducible assumption) | (simp [go_sem]; done) | (simp [go_sem, *]; done) | assumption)
  have g4x1 : w4.cell? ⟨w.heap.size, 1, none⟩ = some (.int .i64 (n)) := (hc4 _ _ (by first | omega | (simp; done) | (simp; omega))).trans (by first | (with_reducible assumption) | (simp [go_sem]; done) | (simp [go_sem, *]; done) | assumption)
  have g4x2 : w4.cell? ⟨w.heap.size, 2, none⟩ = some (.bool (l)) := (hc4 _ _ (by first | omega | (simp; done) | (simp; omega))).trans (by first | (with_reducible assumption) | (simp [go_sem]; done) | (simp [go_sem, *]; done) | assumption)
  have g4x3 : w4.cell? ⟨w.heap.size, 3, none⟩ = some (.int .i64 (d)) := (hc4 _ _ (by first | omega | (simp; done) | (simp; omega))).trans (by first | (with_reducible assumption) | (simp [go_sem]; done) | (simp [go_sem, *]; done) | assumption)
  have g4x4 : w4.cell? ⟨(w.heap.size + 1), 0, none⟩ = some (.int .i64 (z)) := (hc4 _ _ (by first | omega | (simp; done) | (simp; omega))).trans (by first | (with_reducible assumption) | (simp [go_sem]; done) | (simp [go_sem, *]; done) | assumption)
  have g4x5 : w4.cell? ⟨(w.heap.size + 1), 1, none⟩ = some (.int .i64 (k)) := (hc4 _ _ (by first | omega | (simp; done) | (simp; omega))).trans (by first | (with_reducible assumption) | (simp [go_sem]; done) | (simp [go_sem, *]; done) | assumption)
  have g4x6 : w4.cell? ⟨(w.heap.size + 1), 2, none⟩ = some (.bool (h)) := (hc4 _ _ (by first | omega | (simp; done) | (simp; omega))).trans (by first | (with_reducible assumption) | (simp [go_sem]; done) | (simp [go_sem, *]; done) | assumption)
  have g4x7 : w4.cell? ⟨(w.heap.size + 1), 3, none⟩ = some (.int .i64 (f)) := (hc4 _ _ (by first | omega | (simp; done) | (simp; omega))).trans (by first | (with_reducible assumption) | (simp [go_sem]; done) | (simp [go_sem, *]; done) | assumption)
  have g4x8 : w4.cell? ⟨(w.heap.size + 1 + 1), 0, none⟩ = some (.int .i64 (0)) := (hc4 _ _ (by first | omega | (simp; done) | (simp; omega))).trans (by first | (with_reducible assumption) | (simp [go_sem]; done) | (simp [go_sem, *]; done) | assumption)
  have g4x9 : w4.cell? ⟨(w.heap.size + 1 + 1), 1, none⟩ = some (.int .i64 (0)) := (hc4 _ _ (by first | omega | (simp; done) | (simp; omega))).trans (by first | (with_reducible assumption) | (simp [go_sem]; done) | (simp [go_sem, *]; done) | assumption)
  have g4x10 : w4.cell? ⟨(w.heap.size + 1 + 1), 2, none⟩ = some (.int .i64 (0)) := (hc4 _ _ (by first | omega | (simp; done) | (simp; omega))).trans (by first | (with_reducible assumption) | (simp [go_sem]; done) | (simp [go_sem, *]; done) | assumption)
  have g4x11 : w4.cell? ⟨(w.heap.size + 1 + 1), 3, none⟩ = some (.int .i64 (0)) := (hc4 _ _ (by first | omega | (simp; done) | (simp; omega))).trans (by first | (with_reducible assumption) | (simp [go_sem]; done) | (simp [go_sem, *]; done) | assumption)
  have g4x12 : w4.cell? ⟨w2.heap.size, 0, none⟩ = some (.int .i64 (0)) := (hc4 _ _ (by first | omega | (simp; done) | (simp; omega))).trans (by first | (with_reducible assumption) | (simp [go_sem]; done) | (simp [go_sem, *]; done) | assumption)
  have g4x13 : w4.cell? ⟨w2.heap.size, 1, none⟩ = some (.int .i64 (0)) := (hc4 _ _ (by first | omega | (simp; done) | (simp; omega))).trans (by first | (with_reducible assumption) | (simp [go_sem]; done) | (simp [go_sem, *]; done) | assumption)
  have g4x14 : w4.cell? ⟨w2.heap.size, 2, none⟩ = some (.int .i64 (0)) := (hc4 _ _ (by first | omega | (simp; done) | (simp; omega))).trans (by first | (with_reducible assumption) | (simp [go_sem]; done) | (simp [go_sem, *]; done) | assumption)
  have g4x15 : w4.cell? ⟨w2.heap.size, 3, none⟩ = some (.int .i64 (0)) := (hc4 _ _ (by first | omega | (simp; done) | (simp; omega))).trans (by first | (with_reducible assumption) | (simp [go_sem]; done) | (simp [go_sem, *]; done) | assumption)
  clear hc4
  go_wp2_with fail
  refine bodyPost_ret (v := .tuple #[.agg #[.int .i64 (0), .int .i64 (0), .int .i64 (0), .int .i64 (D2 - D3)], .int .i64 (0)]) (by simp [results, Tryz.results35, go_sem, *]) rfl ⟨rfl, ?_⟩
  repeat (first | (with_reducible exact Below.refl _ _) | (with_reducible assumption) | (with_reducible refine bdrew ?_) | (with_reducible refine baa ?_ _) | (with_reducible refine bs ?_ (by first | exact Nat.le_refl _ | omega | (simp; done) | (simp; omega)) _) | (with_reducible refine bt ?_ (by with_reducible assumption)))
set_option maxHeartbeats 4000000 in
theorem ref17_Date_u2_down (y n : Int) (l : Bool) (d z k : Int) (h : Bool) (f : Int) (ry rn : Int) (rl : Bool) (rd D1 D2 D3 : Int) (vb : Int) (w : World) (HTa : Hid (∀ w : World, Calls Tryz.prog 37 #[.agg #[.int .i64 (y), .int .i64 (n), .bool (l), .int .i64 (d)]] w fun e w' => e = .returned (.tuple #[.int .i64 (D1), .int .i64 (0)]) ∧ Below w.heap.size w w')) (HTb : Hid (∀ w : World, Calls Tryz.prog 37 #[.agg #[.int .i64 (z), .int .i64 (k), .bool (h), .int .i64 (f)]] w fun e w' => e = .returned (.tuple #[.int .i64 (D2), .int .i64 (0)]) ∧ Below w.heap.size w w')) (HM : Hid (∀ w : World, Calls Tryz.prog 81 #[.agg #[.int .i64 (y), .int .i64 (n), .bool (l), .int .i64 (d)], .agg #[.int .i64 (0), .int .i64 (0), .int .i64 (0), .int .i64 (0)], .int .i64 2, .int .i64 D2, .int .i64 (-1), .int .i64 130000] w fun e w' => e = .returned (.agg #[.int .i64 (0), .int .i64 (vb), .int .i64 (0), .int .i64 (0)]) ∧ Below w.heap.size w w')) (HTo : Hid (∀ w : World, Calls Tryz.prog 28 #[.agg #[.int .i64 (y), .int .i64 (n), .bool (l), .int .i64 (d)], .agg #[.int .i64 (0), .int .i64 (vb), .int .i64 (0), .int .i64 (0)], .int .i64 0] w fun e w' => e = .returned (.tuple #[.agg #[.int .i64 (ry), .int .i64 (rn), .bool (rl), .int .i64 (rd)], .int .i64 (0)]) ∧ Below w.heap.size w w')) (HX : Hid (∀ w : World, Calls Tryz.prog 37 #[.agg #[.int .i64 (ry), .int .i64 (rn), .bool (rl), .int .i64 (rd)]] w fun e w' => e = .returned (.tuple #[.int .i64 D3, .int .i64 0]) ∧ Below w.heap.size w w')) (h11 : -3000000 ≤ D1) (h12 : D1 ≤ 3000000) (h21 : -3000000 ≤ D2) (h22 : D2 ≤ 3000000) (h31 : -3000000 ≤ D3) (h32 : D3 ≤ 3000000) (hs : D2 < D1) :
    Calls Tryz.prog 35 #[.agg #[.int .i64 (y), .int .i64 (n), .bool (l), .int .i64 (d)], .agg #[.int .i64 (z), .int .i64 (k), .bool (h), .int .i64 (f)], .int .i64 2] w fun e w' => e = .returned (.tuple #[.agg #[.int .i64 (0), .int .i64 (vb), .int .i64 (0), .int .i64 (D2 - D3)], .int .i64 (0)]) ∧ Below w.heap.size w w' := by
  go_enter Tryz.func35, Tryz.ntmps35
  go_wp2_with fail
  refine (HTa.out _).mono ?_
  rintro e w1 ⟨rfl, hb1⟩
  obtain ⟨hc1, hf1⟩ := bcell hb1
  have hz1 := hb1.size
  try simp at hz1
  have hs1x0 : w.heap.size < w1.heap.size := by omega
  have hs1x1 : (w.heap.size + 1) < w1.heap.size := by omega
  have hs1x2 : (w.heap.size + 1 + 1) < w1.heap.size := by omega
  have g1x0 : w1.cell? ⟨w.heap.size, 0, none⟩ = some (.int .i64 (y)) := (hc1 _ _ (by first | omega | (simp; done) | (simp; omega))).trans (by first | (with_reducible assumption) | (simp [go_sem]; done) | (simp [go_sem, *]; done) | assumption)
  have g1x1 : w1.cell? ⟨w.heap.size, 1, none⟩ = some (.int .i64 (n)) := (hc1 _ _ (by first | omega | (simp; done) | (simp; omega))).trans (by first | (with_reducible assumption) | (simp [go_sem]; done) | (simp [go_sem, *]; done) | assumption)
  have g1x2 : w1.cell? ⟨w.heap.size, 2, none⟩ = some (.bool (l)) := (hc1 _ _ (by first | omega | (simp; done) | (simp; omega))).trans (by first | (with_reducible assumption) | (simp [go_sem]; done) | (simp [go_sem, *]; done) | assumption)
  have g1x3 : w1.cell? ⟨w.heap.size, 3, none⟩ = some (.int .i64 (d)) := (hc1 _ _ (by first | omega | (simp; done) | (simp; omega))).trans (by first | (with_reducible assumption) | (simp [go_sem]; done) | (simp [go_sem, *]; done) | assumption)
  have g1x4 : w1.cell? ⟨(w.heap.size + 1), 0, none⟩ = some (.int .i64 (z)) := (hc1 _ _ (by first | omega | (simp; done) | (simp; omega))).trans (by first | (with_reducible assumption) | (simp [go_sem]; done) | (simp [go_sem, *]; done) | assumption)
  have g1x5 : w1.cell? ⟨(w.heap.size + 1), 1, none⟩ = some (.int .i64 (k)) := (hc1 _ _ (by first | omega | (simp; done) | (simp; omega))).trans (by first | (with_reducible assumption) | (simp [go_sem]; done) | (simp [go_sem, *]; done) | assumption)
  have g1x6 : w1.cell? ⟨(w.heap.size + 1), 2, none⟩ = some (.bool (h)) := (hc1 _ _ (by first | omega | (simp; done) | (simp; omega))).trans (by first | (with_reducible assumption) | (simp [go_sem]; done) | (simp [go_sem, *]; done) | assumption)
  have g1x7 : w1.cell? ⟨(w.heap.size + 1), 3, none⟩ = some (.int .i64 (f)) := (hc1 _ _ (by first | omega | (simp; done) | (simp; omega))).trans (by first | (with_reducible assumption) | (simp [go_sem]; done) | (simp [go_sem, *]; done) | assumption)
  have g1x8 : w1.cell? ⟨(w.heap.size + 1 + 1), 0, none⟩ = some (.int .i64 (0)) := (hc1 _ _ (by first | omega | (simp; done) | (simp; omega))).trans (by first | (with_reducible assumption) | (simp [go_sem]; done) | (simp [go_sem, *]; done) | assumption)
  have g1x9 : w1.cell? ⟨(w.heap.size + 1 + 1), 1, none⟩ = some (.int .i64 (0)) := (hc1 _ _ (by first | omega | (simp; done) | (simp; omega))).trans (by first | (with_reducible assumption) | (simp [go_sem]; done) | (simp [go_sem, *]; done) | assumption)
  have g1x10 : w1.cell? ⟨(w.heap.size + 1 + 1), 2, none⟩ = some (.int .i64 (0)) := (hc1 _ _ (by first | omega | (simp; done) | (simp; omega))).trans (by first | (with_reducible assumption) | (simp [go_sem]; done) | (simp [go_sem, *]; done) | assumption)
  have g1x11 : w1.cell? ⟨(w.heap.size + 1 + 1), 3, none⟩ = some (.int .i64 (0)) := (hc1 _ _ (by first | omega | (simp; done) | (simp; omega))).trans (by first | (with_reducible assumption) | (simp [go_sem]; done) | (simp [go_sem, *]; done) | assumption)
  go_wp2_with fail
  refine (HTb.out _).mono ?_
  rintro e w2 ⟨rfl, hb2⟩
  obtain ⟨hc2, hf2⟩ := bcell hb2
  have hz2 := hb2.size
  try simp at hz2
  have hs2x0 : w.heap.size < w2.heap.size := by omega
  have hs2x1 : (w.heap.size + 1) < w2.heap.size := by omega
  have hs2x2 : (w.heap.size + 1 + 1) < w2.heap.size := by omega
  have g2x0 : w2.cell? ⟨w.heap.size, 0, none⟩ = some (.int .i64 (y)) := (hc2 _ _ (by first | omega | (simp; done) | (simp; omega))).trans (by first | (with_reducible assumption) | (simp [go_sem]; done) | (simp [go_sem, *]; done) | assumption)
  have g2x1 : w2.cell? ⟨w.heap.size, 1, none⟩ = some (.int .i64 (n)) := (hc2 _ _ (by first | omega | (simp; done) | (simp; omega))).trans (by first | (with_reducible assumption) | (simp [go_sem]; done) | (simp [go_sem, *]; done) | assumption)
  have g2x2 : w2.cell? ⟨w.heap.size, 2, none⟩ = some (.bool (l)) := (hc2 _ _ (by first | omega | (simp; done) | (simp; omega))).trans (by first | (with_reducible assumption) | (simp [go_sem]; done) | (simp [go_sem, *]; done) | assumption)
  have g2x3 : w2.cell? ⟨w.heap.size, 3, none⟩ = some (.int .i64 (d)) := (hc2 _ _ (by first | omega | (simp; done) | (simp; omega))).trans (by first | (with_reducible assumption) | (simp [go_sem]; done) | (simp [go_sem, *]; done) | assumption)
  have g2x4 : w2.cell? ⟨(w.heap.size + 1), 0, none⟩ = some (.int .i64 (z)) := (hc2 _ _ (by first | omega | (simp; done) | (simp; omega))).trans (by first | (with_reducible assumption) | (simp [go_sem]; done) | (simp [go_sem, *]; done) | assumption)
  have g2x5 : w2.cell? ⟨(w.heap.size + 1), 1, none⟩ = some (.int .i64 (k)) := (hc2 _ _ (by first | omega | (simp; done) | (simp; omega))).trans (by first | (with_reducible assumption) | (simp [go_sem]; done) | (simp [go_sem, *]; done) | assumption)
  have g2x6 : w2.cell? ⟨(w.heap.size + 1), 2, none⟩ = some (.bool (h)) := (hc2 _ _ (by first | omega | (simp; done) | (simp; omega))).trans (by first | (with_reducible assumption) | (simp [go_sem]; done) | (simp [go_sem, *]; done) | assumption)
  have g2x7 : w2.cell? ⟨(w.heap.size + 1), 3, none⟩ = some (.int .i64 (f)) := (hc2 _ _ (by first | omega | (simp; done) | (simp; omega))).trans (by first | (with_reducible assumption) | (simp [go_sem]; done) | (simp [go_sem, *]; done) | assumption)
  have g2x8 : w2.cell? ⟨(w.heap.size + 1 + 1), 0, none⟩ = some (.int .i64 (0)) := (hc2 _ _ (by first | omega | (simp; done) | (simp; omega))).trans (by first | (with_reducible assumption) | (simp [go_sem]; done) | (simp [go_sem, *]; done) | assumption)
  have g2x9 : w2.cell? ⟨(w.heap.size + 1 + 1), 1, none⟩ = some (.int .i64 (0)) := (hc2 _ _ (by first | omega | (simp; done) | (simp; omega))).trans (by first | (with_reducible assumption) | (simp [go_sem]; done) | (simp [go_sem, *]; done) | assumption)
  have g2x10 : w2.cell? ⟨(w.heap.size + 1 + 1), 2, none⟩ = some (.int .i64 (0)) := (hc2 _ _ (by first | omega | (simp; done) | (simp; omega))).trans (by first | (with_reducible assumption) | (simp [go_sem]; done) | (simp [go_sem, *]; done) | assumption)
  have g2x11 : w2.cell? ⟨(w.heap.size + 1 + 1), 3, none⟩ = some (.int .i64 (0)) := (hc2 _ _ (by first | omega | (simp; done) | (simp; omega))).trans (by first | (with_reducible assumption) | (simp [go_sem]; done) | (simp [go_sem, *]; done) | assumption)
  go_wp2_with fail
  refine (HM.out _).mono ?_
  rintro e w3 ⟨rfl, hb3⟩
  obtain ⟨hc3, hf3⟩ := bcell hb3
  have hz3 := hb3.size
  try simp at hz3
  have hl3w2 : w2.heap.size < w3.heap.size := by omega
  have hm3w2 : w2.heap.size ≤ w3.heap.size := by omega
  have hs3x0 : w.heap.size < w3.heap.size := by omega
  have hs3x1 : (w.heap.size + 1) < w3.heap.size := by omega
  have hs3x2 : (w.heap.size + 1 + 1) < w3.heap.size := by omega
  have g3x0 : w3.cell? ⟨w.heap.size, 0, none⟩ = some (.int .i64 (y)) := (hc3 _ _ (by first | omega | (simp; done) | (simp; omega))).trans (by first | (with_reducible assumption) | (simp [go_sem]; done) | (simp [go_sem, *]; done) | assumption)
  have g3x1 : w3.cell? ⟨w.heap.size, 1, none⟩ = some (.int .i64 (n)) := (hc3 _ _ (by first | omega | (simp; done) | (simp; omega))).trans (by first | (with_reducible assumption) | (simp [go_sem]; done) | (simp [go_sem, *]; done) | assumption)
  have g3x2 : w3.cell? ⟨w.heap.size, 2, none⟩ = some (.bool (l)) := (hc3 _ _ (by first | omega | (simp; done) | (simp; omega))).trans (by first | (with_reducible assumption) | (simp [go_sem]; done) | (simp [go_sem, *]; done) | assumption)
  have g3x3 : w3.cell? ⟨w.heap.size, 3, none⟩ = some (.int .i64 (d)) := (hc3 _ _ (by first | omega | (simp; done) | (simp; omega))).trans (by first | (with_reducible assumption) | (simp [go_sem]; done) | (simp [go_sem, *]; done) | assumption)
  have g3x4 : w3.cell? ⟨(w.heap.size + 1), 0, none⟩ = some (.int .i64 (z)) := (hc3 _ _ (by first | omega | (simp; done) | (simp; omega))).trans (by first | (with_reducible assumption) | (simp [go_sem]; done) | (simp [go_sem, *]; done) | assumption)
  have g3x5 : w3.cell? ⟨(w.heap.size + 1), 1, none⟩ = some (.int .i64 (k)) := (hc3 _ _ (by first | omega | (simp; done) | (simp; omega))).trans (by first | (with_reducible assumption) | (simp [go_sem]; done) | (simp [go_sem, *]; done) | assumption)
  have g3x6 : w3.cell? ⟨(w.heap.size + 1), 2, none⟩ = some (.bool (h)) := (hc3 _ _ (by first | omega | (simp; done) | (simp; omega))).trans (by first | (with_reducible assumption) | (simp [go_sem]; done) | (simp [go_sem, *]; done) | assumption)
  have g3x7 : w3.cell? ⟨(w.heap.size + 1), 3, none⟩ = some (.int .i64 (f)) := (hc3 _ _ (by first | omega | (simp; done) | (simp; omega))).trans (by first | (with_reducible assumption) | (simp [go_sem]; done) | (simp [go_sem, *]; done) | assumption)
  have g3x8 : w3.cell? ⟨(w.heap.size + 1 + 1), 0, none⟩ = some (.int .i64 (0)) := (hc3 _ _ (by first | omega | (simp; done) | (simp; omega))).trans (by first | (with_reducible assumption) | (simp [go_sem]; done) | (simp [go_sem, *]; done) | assumption)
  have g3x9 : w3.cell? ⟨(w.heap.size + 1 + 1), 1, none⟩ = some (.int .i64 (0)) := (hc3 _ _ (by first | omega | (simp; done) | (simp; omega))).trans (by first | (with_reducible assumption) | (simp [go_sem]; done) | (simp [go_sem, *]; done) | assumption)
  have g3x10 : w3.cell? ⟨(w.heap.size + 1 + 1), 2, none⟩ = some (.int .i64 (0)) := (hc3 _ _ (by first | omega | (simp; done) | (simp; omega))).trans (by first | (with_reducible assumption) | (simp [go_sem]; done) | (simp [go_sem, *]; done) | assumption)
  have g3x11 : w3.cell? ⟨(w.heap.size + 1 + 1), 3, none⟩ = some (.int .i64 (0)) := (hc3 _ _ (by first | omega | (simp; done) | (simp; omega))).trans (by first | (with_reducible assumption) | (simp [go_sem]; done) | (simp [go_sem, *]; done) | assumption)
  have g3x12 : w3.cell? ⟨w2.heap.size, 0, none⟩ = some (.int .i64 (0)) := (hc3 _ _ (by first | omega | (simp; done) | (simp; omega))).trans (by first | (with_reducible assumption) | (simp [go_sem]; done) | (simp [go_sem, *]; done) | assumption)
  have g3x13 : w3.cell? ⟨w2.heap.size, 1, none⟩ = some (.int .i64 (0)) := (hc3 _ _ (by first | omega | (simp; done) | (simp; omega))).trans (by first | (with_reducible assumption) | (simp [go_sem]; done) | (simp [go_sem, *]; done) | assumption)
  have g3x14 : w3.cell? ⟨w2.heap.size, 2, none⟩ = some (.int .i64 (0)) := (hc3 _ _ (by first | omega | (simp; done) | (simp; omega))).trans (by first | (with_reducible assumption) | (simp [go_sem]; done) | (simp [go_sem, *]; done) | assumption)
  have g3x15 : w3.cell? ⟨w2.heap.size, 3, none⟩ = some (.int .i64 (0)) := (hc3 _ _ (by first | omega | (simp; done) | (simp; omega))).trans (by first | (with_reducible assumption) | (simp [go_sem]; done) | (simp [go_sem, *]; done) | assumption)
  clear hc3
  go_wp2_with fail
  refine (HTo.out _).mono ?_
  rintro e w4 ⟨rfl, hb4⟩
  obtain ⟨hc4, hf4⟩ := bcell hb4
  have hz4 := hb4.size
  try simp at hz4
  have hl4w2 : w2.heap.size < w4.heap.size := by omega
  have hm4w2 : w2.heap.size ≤ w4.heap.size := by omega
  have hs4x0 : w.heap.size < w4.heap.size := by omega
  have hs4x1 : (w.heap.size + 1) < w4.heap.size := by omega
  have hs4x2 : (w.heap.size + 1 + 1) < w4.heap.size := by omega
  have g4x0 : w4.cell? ⟨w.heap.size, 0, none⟩ = some (.int .i64 (y)) := (hc4 _ _ (by first | omega | (simp; done) | (simp; omega))).trans (by first | (with_reducible assumption) | (simp [go_sem]; done) | (simp [go_sem, *]; done) | assumption)
  have g4x1 : w4.cell? ⟨w.heap.size, 1, none⟩ = some (.int .i64 (n)) := (hc4 _ _ (by first | omega | (simp; done) | (simp; omega))).trans (by first | (with_reducible assumption) | (simp [go_sem]; done) | (simp [go_sem, *]; done) | assumption)
  have g4x2 : w4.cell? ⟨w.heap.size, 2, none⟩ = some (.bool (l)) := (hc4 _ _ (by first | omega | (simp; done) | (simp; omega))).trans (by first | (with_reducible assumption) | (simp [go_sem]; done) | (simp [go_sem, *]; done) | assumption)
  have g4x3 : w4.cell? ⟨w.heap.size, 3, none⟩ = some (.int .i64 (d)) := (hc4 _ _ (by first | omega | (simp; done) | (simp; omega))).trans (by first | (with_reducible assumption) | (simp [go_sem]; done) | (simp [go_sem, *]; done) | assumption)
  have g4x4 : w4.cell? ⟨(w.heap.size + 1), 0, none⟩ = some (.int .i64 (z)) := (hc4 _ _ (by first | omega | (simp; done) | (simp; omega))).trans (by first | (with_reducible assumption) | (simp [go_sem]; done) | (simp [go_sem, *]; done) | assumption)
  have g4x5 : w4.cell? ⟨(w.heap.size + 1), 1, none⟩ = some (.int .i64 (k)) := (hc4 _ _ (by first | omega | (simp; done) | (simp; omega))).trans (by first | (with_reducible assumption) | (simp [go_sem]; done) | (simp [go_sem, *]; done) | assumption)
  have g4x6 : w4.cell? ⟨(w.heap.size + 1), 2, none⟩ = some (.bool (h)) := (hc4 _ _ (by first | omega | (simp; done) | (simp; omega))).trans (by first | (with_reducible assumption) | (simp [go_sem]; done) | (simp [go_sem, *]; done) | assumption)
  have g4x7 : w4.cell? ⟨(w.heap.size + 1), 3, none⟩ = some (.int .i64 (f)) := (hc4 _ _ (by first | omega | (simp; done) | (simp; omega))).trans (by first | (with_reducible assumption) | (simp [go_sem]; done) | (simp [go_sem, *]; done) | assumption)
  have g4x8 : w4.cell? ⟨(w.heap.size + 1 + 1), 0, none⟩ = some (.int .i64 (0)) := (hc4 _ _ (by first | omega | (simp; done) | (simp; omega))).trans (by first | (with_reducible assumption) | (simp [go_sem]; done) | (simp [go_sem, *]; done) | assumption)
  have g4x9 : w4.cell? ⟨(w.heap.size + 1 + 1), 1, none⟩ = some (.int .i64 (0)) := (hc4 _ _ (by first | omega | (simp; done) | (simp; omega))).trans (by first | (with_reducible assumption) | (simp [go_sem]; done) | (simp [go_sem, *]; done) | assumption)
  have g4x10 : w4.cell? ⟨(w.heap.size + 1 + 1), 2, none⟩ = some (.int .i64 (0)) := (hc4 _ _ (by first | omega | (simp; done) | (simp; omega))).trans (by first | (with_reducible assumption) | (simp [go_sem]; done) | (simp [go_sem, *]; done) | assumption)
  have g4x11 : w4.cell? ⟨(w.heap.size + 1 + 1), 3, none⟩ = some (.int .i64 (0)) := (hc4 _ _ (by first | omega | (simp; done) | (simp; omega))).trans (by first | (with_reducible assumption) | (simp [go_sem]; done) | (simp [go_sem, *]; done) | assumption)
  have g4x12 : w4.cell? ⟨w2.heap.size, 0, none⟩ = some (.int .i64 (0)) := (hc4 _ _ (by first | omega | (simp; done) | (simp; omega))).trans (by first | (with_reducible assumption) | (simp [go_sem]; done) | (simp [go_sem, *]; done) | assumption)
  have g4x13 : w4.cell? ⟨w2.heap.size, 1, none⟩ = some (.int .i64 (vb)) := (hc4 _ _ (by first | omega | (simp; done) | (simp; omega))).trans (by first | (with_reducible assumption) | (simp [go_sem]; done) | (simp [go_sem, *]; done) | assumption)
  have g4x14 : w4.cell? ⟨w2.heap.size, 2, none⟩ = some (.int .i64 (0)) := (hc4 _ _ (by first | omega | (simp; done) | (simp; omega))).trans (by first | (with_reducible assumption) | (simp [go_sem]; done) | (simp [go_sem, *]; done) | assumption)
  have g4x15 : w4.cell? ⟨w2.heap.size, 3, none⟩ = some (.int .i64 (0)) := (hc4 _ _ (by first | omega | (simp; done) | (simp; omega))).trans (by first | (with_reducible assumption) | (simp [go_sem]; done) | (simp [go_sem, *]; done) | assumption)
  clear hc4
  go_wp2_with fail
  refine (HX.out _).mono ?_
  rintro e w5 ⟨rfl, hb5⟩
  obtain ⟨hc5, hf5⟩ := bcell hb5
  have hz5 := hb5.size
  try simp at hz5
  have hl5w2 : w2.heap.size < w5.heap.size := by omega
  have hm5w2 : w2.heap.size ≤ w5.heap.size := by omega
  have hs5x0 : w.heap.size < w5.heap.size := by omega
  have hs5x1 : (w.heap.size + 1) < w5.heap.size := by omega
  have hs5x2 : (w.heap.size + 1 + 1) < w5.heap.size := by omega
  have g5x0 : w5.cell? ⟨w.heap.size, 0, none⟩ = some (.int .i64 (y)) := (hc5 _ _ (by first | omega | (simp; done) | (simp; omega))).trans (by first | (with_reducible assumption) | (simp [go_sem]; done) | (simp [go_sem, *]; done) | assumption)
  have g5x1 : w5.cell? ⟨w.heap.size, 1, none⟩ = some (.int .i64 (n)) := (hc5 _ _ (by first | omega | (simp; done) | (simp; omega))).trans (by first | (with_reducible assumption) | (simp [go_sem]; done) | (simp [go_sem, *]; done) | assumption)
  have g5x2 : w5.cell? ⟨w.heap.size, 2, none⟩ = some (.bool (l)) := (hc5 _ _ (by first | omega | (simp; done) | (simp; omega))).trans (by first | (with_reducible assumption) | (simp [go_sem]; done) | (simp [go_sem, *]; done) | assumption)
  have g5x3 : w5.cell? ⟨w.heap.size, 3, none⟩ = some (.int .i64 (d)) := (hc5 _ _ (by first | omega | (simp; done) | (simp; omega))).trans (by first | (with_reducible assumption) | (simp [go_sem]; done) | (simp [go_sem, *]; done) | assumption)
  have g5x4 : w5.cell? ⟨(w.heap.size + 1), 0, none⟩ = some (.int .i64 (z)) := (hc5 _ _ (by first | omega | (simp; done) | (simp; omega))).trans (by first | (with_reducible assumption) | (simp [go_sem]; done) | (simp [go_sem, *]; done) | assumption)
  have g5x5 : w5.cell? ⟨(w.heap.size + 1), 1, none⟩ = some (.int .i64 (k)) := (hc5 _ _ (by first | omega | (simp; done) | (simp; omega))).trans (by first | (with_reducible assumption) | (simp [go_sem]; done) | (simp [go_sem, *]; done) | assumption)
  have g5x6 : w5.cell? ⟨(w.heap.size + 1), 2, none⟩ = some (.bool (h)) := (hc5 _ _ (by first | omega | (simp; done) | (simp; omega))).trans (by first | (with_reducible assumption) | (simp [go_sem]; done) | (simp [go_sem, *]; done) | assumption)
  have g5x7 : w5.cell? ⟨(w.heap.size + 1), 3, none⟩ = some (.int .i64 (f)) := (hc5 _ _ (by first | omega | (simp; done) | (simp; omega))).trans (by first | (with_reducible assumption) | (simp [go_sem]; done) | (simp [go_sem, *]; done) | assumption)
  have g5x8 : w5.cell? ⟨(w.heap.size + 1 + 1), 0, none⟩ = some (.int .i64 (0)) := (hc5 _ _ (by first | omega | (simp; done) | (simp; omega))).trans (by first | (with_reducible assumption) | (simp [go_sem]; done) | (simp [go_sem, *]; done) | assumption)
  have g5x9 : w5.cell? ⟨(w.heap.size + 1 + 1), 1, none⟩ = some (.int .i64 (0)) := (hc5 _ _ (by first | omega | (simp; done) | (simp; omega))).trans (by first | (with_reducible assumption) | (simp [go_sem]; done) | (simp [go_sem, *]; done) | assumption)
  have g5x10 : w5.cell? ⟨(w.heap.size + 1 + 1), 2, none⟩ = some (.int .i64 (0)) := (hc5 _ _ (by first | omega | (simp; done) | (simp; omega))).trans (by first | (with_reducible assumption) | (simp [go_sem]; done) | (simp [go_sem, *]; done) | assumption)
  have g5x11 : w5.cell? ⟨(w.heap.size + 1 + 1), 3, none⟩ = some (.int .i64 (0)) := (hc5 _ _ (by first | omega | (simp; done) | (simp; omega))).trans (by first | (with_reducible assumption) | (simp [go_sem]; done) | (simp [go_sem, *]; done) | assumption)
  have g5x12 : w5.cell? ⟨w2.heap.size, 0, none⟩ = some (.int .i64 (0)) := (hc5 _ _ (by first | omega | (simp; done) | (simp; omega))).trans (by first | (with_reducible assumption) | (simp [go_sem]; done) | (simp [go_sem, *]; done) | assumption)
  have g5x13 : w5.cell? ⟨w2.heap.size, 1, none⟩ = some (.int .i64 (vb)) := (hc5 _ _ (by first | omega | (simp; done) | (simp; omega))).trans (by first | (with_reducible assumption) | (simp [go_sem]; done) | (simp [go_sem, *]; done) | assumption)
  have g5x14 : w5.cell? ⟨w2.heap.size, 2, none⟩ = some (.int .i64 (0)) := (hc5 _ _ (by first | omega | (simp; done) | (simp; omega))).trans (by first | (with_reducible assumption) | (simp [go_sem]; done) | (simp [go_sem, *]; done) | assumption)
  have g5x15 : w5.cell? ⟨w2.heap.size, 3, none⟩ = some (.int .i64 (0)) := (hc5 _ _ (by first | omega | (simp; done) | (simp; omega))).trans (by first | (with_reducible assumption) | (simp [go_sem]; done) | (simp [go_sem, *]; done) | assumption)
  clear hc5
  go_wp2_with fail
  refine bodyPost_ret (v := .tuple #[.agg #[.int .i64 (0), .int .i64 (vb), .int .i64 (0), .int .i64 (D2 - D3)], .int .i64 (0)]) (by simp [results, Tryz.results35, go_sem, *]) rfl ⟨rfl, ?_⟩
  repeat (first | (with_reducible exact Below.refl _ _) | (with_reducible assumption) | (with_reducible refine bdrew ?_) | (with_reducible refine baa ?_ _) | (with_reducible refine bs ?_ (by first | exact Nat.le_refl _ | omega | (simp; done) | (simp; omega)) _) | (with_reducible refine bt ?_ (by with_reducible assumption)))
set_option maxHeartbeats 4000000 in
theorem ref17_Date_u3_down (y n : Int) (l : Bool) (d z k : Int) (h : Bool) (f : Int) (ry rn : Int) (rl : Bool) (rd D1 D2 D3 : Int) (va vb : Int) (w : World) (HTa : Hid (∀ w : World, Calls Tryz.prog 37 #[.agg #[.int .i64 (y), .int .i64 (n), .bool (l), .int .i64 (d)]] w fun e w' => e = .returned (.tuple #[.int .i64 (D1), .int .i64 (0)]) ∧ Below w.heap.size w w')) (HTb : Hid (∀ w : World, Calls Tryz.prog 37 #[.agg #[.int .i64 (z), .int .i64 (k), .bool (h), .int .i64 (f)]] w fun e w' => e = .returned (.tuple #[.int .i64 (D2), .int .i64 (0)]) ∧ Below w.heap.size w w')) (HY : Hid (∀ w : World, Calls Tryz.prog 81 #[.agg #[.int .i64 (y), .int .i64 (n), .bool (l), .int .i64 (d)], .agg #[.int .i64 (0), .int .i64 (0), .int .i64 (0), .int .i64 (0)], .int .i64 3, .int .i64 D2, .int .i64 (-1), .int .i64 10000] w fun e w' => e = .returned (.agg #[.int .i64 (va), .int .i64 (0), .int .i64 (0), .int .i64 (0)]) ∧ Below w.heap.size w w')) (HM : Hid (∀ w : World, Calls Tryz.prog 81 #[.agg #[.int .i64 (y), .int .i64 (n), .bool (l), .int .i64 (d)], .agg #[.int .i64 (va), .int .i64 (0), .int .i64 (0), .int .i64 (0)], .int .i64 2, .int .i64 D2, .int .i64 (-1), .int .i64 130000] w fun e w' => e = .returned (.agg #[.int .i64 (va), .int .i64 (vb), .int .i64 (0), .int .i64 (0)]) ∧ Below w.heap.size w w')) (HTo : Hid (∀ w : World, Calls Tryz.prog 28 #[.agg #[.int .i64 (y), .int .i64 (n), .bool (l), .int .i64 (d)], .agg #[.int .i64 (va), .int .i64 (vb), .int .i64 (0), .int .i64 (0)], .int .i64 0] w fun e w' => e = .returned (.tuple #[.agg #[.int .i64 (ry), .int .i64 (rn), .bool (rl), .int .i64 (rd)], .int .i64 (0)]) ∧ Below w.heap.size w w')) (HX : Hid (∀ w : World, Calls Tryz.prog 37 #[.agg #[.int .i64 (ry), .int .i64 (rn), .bool (rl), .int .i64 (rd)]] w fun e w' => e = .returned (.tuple #[.int .i64 D3, .int .i64 0]) ∧ Below w.heap.size w w')) (h11 : -3000000 ≤ D1) (h12 : D1 ≤ 3000000) (h21 : -3000000 ≤ D2) (h22 : D2 ≤ 3000000) (h31 : -3000000 ≤ D3) (h32 : D3 ≤ 3000000) (hs : D2 < D1) :
    Calls Tryz.prog 35 #[.agg #[.int .i64 (y), .int .i64 (n), .bool (l), .int .i64 (d)], .agg #[.int .i64 (z), .int .i64 (k), .bool (h), .int .i64 (f)], .int .i64 3] w fun e w' => e = .returned (.tuple #[.agg #[.int .i64 (va), .int .i64 (vb), .int .i64 (0), .int .i64 (D2 - D3)], .int .i64 (0)]) ∧ Below w.heap.size w w' := by
  go_enter Tryz.func35, Tryz.ntmps35
  go_wp2_with fail
  refine (HTa.out _).mono ?_
  rintro e w1 ⟨rfl, hb1⟩
  obtain ⟨hc1, hf1⟩ := bcell hb1
  have hz1 := hb1.size
  try simp at hz1
  have hs1x0 : w.heap.size < w1.heap.size := by omega
  have hs1x1 : (w.heap.size + 1) < w1.heap.size := by omega
  have hs1x2 : (w.heap.size + 1 + 1) < w1.heap.size := by omega
  have g1x0 : w1.cell? ⟨w.heap.size, 0, none⟩ = some (.int .i64 (y)) := (hc1 _ _ (by first | omega | (simp; done) | (simp; omega))).trans (by first | (with_reducible assumption) | (simp [go_sem]; done) | (simp [go_sem, *]; done) | assumption)
  have g1x1 : w1.cell? ⟨w.heap.size, 1, none⟩ = some (.int .i64 (n)) := (hc1 _ _ (by first | omega | (simp; done) | (simp; omega))).trans (by first | (with_reducible assumption) | (simp [go_sem]; done) | (simp [go_sem, *]; done) | assumption)
  have g1x2 : w1.cell? ⟨w.heap.size, 2, none⟩ = some (.bool (l)) := (hc1 _ _ (by first | omega | (simp; done) | (simp; omega))).trans (by first | (with_reducible assumption) | (simp [go_sem]; done) | (simp [go_sem, *]; done) | assumption)
  have g1x3 : w1.cell? ⟨w.heap.size, 3, none⟩ = some (.int .i64 (d)) := (hc1 _ _ (by first | omega | (simp; done) | (simp; omega))).trans (by first | (with_reducible assumption) | (simp [go_sem]; done) | (simp [go_sem, *]; done) | assumption)
  have g1x4 : w1.cell? ⟨(w.heap.size + 1), 0, none⟩ = some (.int .i64 (z)) := (hc1 _ _ (by first | omega | (simp; done) | (simp; omega))).trans (by first | (with_reducible assumption) | (simp [go_sem]; done) | (simp [go_sem, *]; done) | assumption)
  have g1x5 : w1.cell? ⟨(w.heap.size + 1), 1, none⟩ = some (.int .i64 (k)) := (hc1 _ _ (by first | omega | (simp; done) | (simp; omega))).trans (by first | (with_reducible assumption) | (simp [go_sem]; done) | (simp [go_sem, *]; done) | assumption)
  have g1x6 : w1.cell? ⟨(w.heap.size + 1), 2, none⟩ = some (.bool (h)) := (hc1 _ _ (by first | omega | (simp; done) | (simp; omega))).trans (by first | (with_reducible assumption) | (simp [go_sem]; done) | (simp [go_sem, *]; done) | assumption)
  have g1x7 : w1.cell? ⟨(w.heap.size + 1), 3, none⟩ = some (.int .i64 (f)) := (hc1 _ _ (by first | omega | (simp; done) | (simp; omega))).trans (by first | (with_reducible assumption) | (simp [go_sem]; done) | (simp [go_sem, *]; done) | assumption)
  have g1x8 : w1.cell? ⟨(w.heap.size + 1 + 1), 0, none⟩ = some (.int .i64 (0)) := (hc1 _ _ (by first | omega | (simp; done) | (simp; omega))).trans (by first | (with_reducible assumption) | (simp [go_sem]; done) | (simp [go_sem, *]; done) | assumption)
  have g1x9 : w1.cell? ⟨(w.heap.size + 1 + 1), 1, none⟩ = some (.int .i64 (0)) := (hc1 _ _ (by first | omega | (simp; done) | (simp; omega))).trans (by first | (with_reducible assumption) | (simp [go_sem]; done) | (simp [go_sem, *]; done) | assumption)
  have g1x10 : w1.cell? ⟨(w.heap.size + 1 + 1), 2, none⟩ = some (.int .i64 (0)) := (hc1 _ _ (by first | omega | (simp; done) | (simp; omega))).trans (by first | (with_reducible assumption) | (simp [go_sem]; done) | (simp [go_sem, *]; done) | assumption)
  have g1x11 : w1.cell? ⟨(w.heap.size + 1 + 1), 3, none⟩ = some (.int .i64 (0)) := (hc1 _ _ (by first | omega | (simp; done) | (simp; omega))).trans (by first | (with_reducible assumption) | (simp [go_sem]; done) | (simp [go_sem, *]; done) | assumption)
  go_wp2_with fail
  refine (HTb.out _).mono ?_
  rintro e w2 ⟨rfl, hb2⟩
  obtain ⟨hc2, hf2⟩ := bcell hb2
  have hz2 := hb2.size
  try simp at hz2
  have hs2x0 : w.heap.size < w2.heap.size := by omega
  have hs2x1 : (w.heap.size + 1) < w2.heap.size := by omega
  have hs2x2 : (w.heap.size + 1 + 1) < w2.heap.size := by omega
  have g2x0 : w2.cell? ⟨w.heap.size, 0, none⟩ = some (.int .i64 (y)) := (hc2 _ _ (by first | omega | (simp; done) | (simp; omega))).trans (by first | (with_reducible assumption) | (simp [go_sem]; done) | (simp [go_sem, *]; done) | assumption)
  have g2x1 : w2.cell? ⟨w.heap.size, 1, none⟩ = some (.int .i64 (n)) := (hc2 _ _ (by first | omega | (simp; done) | (simp; omega))).trans (by first | (with_reducible assumption) | (simp [go_sem]; done) | (simp [go_sem, *]; done) | assumption)
  have g2x2 : w2.cell? ⟨w.heap.size, 2, none⟩ = some (.bool (l)) := (hc2 _ _ (by first | omega | (simp; done) | (simp; omega))).trans (by first | (with_reducible assumption) | (simp [go_sem]; done) | (simp [go_sem, *]; done) | assumption)
  have g2x3 : w2.cell? ⟨w.heap.size, 3, none⟩ = some (.int .i64 (d)) := (hc2 _ _ (by first | omega | (simp; done) | (simp; omega))).trans (by first | (with_reducible assumption) | (simp [go_sem]; done) | (simp [go_sem, *]; done) | assumption)
  have g2x4 : w2.cell? ⟨(w.heap.size + 1), 0, none⟩ = some (.int .i64 (z)) := (hc2 _ _ (by first | omega | (simp; done) | (simp; omega))).trans (by first | (with_reducible assumption) | (simp [go_sem]; done) | (simp [go_sem, *]; done) | assumption)
  have g2x5 : w2.cell? ⟨(w.heap.size + 1), 1, none⟩ = some (.int .i64 (k)) := (hc2 _ _ (by first | omega | (simp; done) | (simp; omega))).trans (by first | (with_reducible assumption) | (simp [go_sem]; done) | (simp [go_sem, *]; done) | assumption)
  have g2x6 : w2.cell? ⟨(w.heap.size + 1), 2, none⟩ = some (.bool (h)) := (hc2 _ _ (by first | omega | (simp; done) | (simp; omega))).trans (by first | (with_reducible assumption) | (simp [go_sem]; done) | (simp [go_sem, *]; done) | assumption)
  have g2x7 : w2.cell? ⟨(w.heap.size + 1), 3, none⟩ = some (.int .i64 (f)) := (hc2 _ _ (by first | omega | (simp; done) | (simp; omega))).trans (by first | (with_reducible assumption) | (simp [go_sem]; done) | (simp [go_sem, *]; done) | assumption)
  have g2x8 : w2.cell? ⟨(w.heap.size + 1 + 1), 0, none⟩ = some (.int .i64 (0)) := (hc2 _ _ (by first | omega | (simp; done) | (simp; omega))).trans (by first | (with_reducible assumption) | (simp [go_sem]; done) | (simp [go_sem, *]; done) | assumption)
  have g2x9 : w2.cell? ⟨(w.heap.size + 1 + 1), 1, none⟩ = some (.int .i64 (0)) := (hc2 _ _ (by first | omega | (simp; done) | (simp; omega))).trans (by first | (with_reducible assumption) | (simp [go_sem]; done) | (simp [go_sem, *]; done) | assumption)
  have g2x10 : w2.cell? ⟨(w.heap.size + 1 + 1), 2, none⟩ = some (.int .i64 (0)) := (hc2 _ _ (by first | omega | (simp; done) | (simp; omega))).trans (by first | (with_reducible assumption) | (simp [go_sem]; done) | (simp [go_sem, *]; done) | assumption)
  have g2x11 : w2.cell? ⟨(w.heap.size + 1 + 1), 3, none⟩ = some (.int .i64 (0)) := (hc2 _ _ (by first | omega | (simp; done) | (simp; omega))).trans (by first | (with_reducible assumption) | (simp [go_sem]; done) | (simp [go_sem, *]; done) | assumption)
  go_wp2_with fail
  refine (HY.out _).mono ?_
  rintro e w3 ⟨rfl, hb3⟩
  obtain ⟨hc3, hf3⟩ := bcell hb3
  have hz3 := hb3.size
  try simp at hz3
  have hl3w2 : w2.heap.size < w3.heap.size := by omega
  have hm3w2 : w2.heap.size ≤ w3.heap.size := by omega
  have hs3x0 : w.heap.size < w3.heap.size := by omega
  have hs3x1 : (w.heap.size + 1) < w3.heap.size := by omega
  have hs3x2 : (w.heap.size + 1 + 1) < w3.heap.size := by omega
  have g3x0 : w3.cell? ⟨w.heap.size, 0, none⟩ = some (.int .i64 (y)) := (hc3 _ _ (by first | omega | (simp; done) | (simp; omega))).trans (by first | (with_reducible assumption) | (simp [go_sem]; done) | (simp [go_sem, *]; done) | assumption)
  have g3x1 : w3.cell? ⟨w.heap.size, 1, none⟩ = some (.int .i64 (n)) := (hc3 _ _ (by first | omega | (simp; done) | (simp; omega))).trans (by first | (with_reducible assumption) | (simp [go_sem]; done) | (simp [go_sem, *]; done) | assumption)
  have g3x2 : w3.cell? ⟨w.heap.size, 2, none⟩ = some (.bool (l)) := (hc3 _ _ (by first | omega | (simp; done) | (simp; omega))).trans (by first | (with_reducible assumption) | (simp [go_sem]; done) | (simp [go_sem, *]; done) | assumption)
  have g3x3 : w3.cell? ⟨w.heap.size, 3, none⟩ = some (.int .i64 (d)) := (hc3 _ _ (by first | omega | (simp; done) | (simp; omega))).trans (by first | (with_reducible assumption) | (simp [go_sem]; done) | (simp [go_sem, *]; done) | assumption)
  have g3x4 : w3.cell? ⟨(w.heap.size + 1), 0, none⟩ = some (.int .i64 (z)) := (hc3 _ _ (by first | omega | (simp; done) | (simp; omega))).trans (by first | (with_reducible assumption) | (simp [go_sem]; done) | (simp [go_sem, *]; done) | assumption)
  have g3x5 : w3.cell? ⟨(w.heap.size + 1), 1, none⟩ = some (.int .i64 (k)) := (hc3 _ _ (by first | omega | (simp; done) | (simp; omega))).trans (by first | (with_reducible assumption) | (simp [go_sem]; done) | (simp [go_sem, *]; done) | assumption)
  have g3x6 : w3.cell? ⟨(w.heap.size + 1), 2, none⟩ = some (.bool (h)) := (hc3 _ _ (by first | omega | (simp; done) | (simp; omega))).trans (by first | (with_reducible assumption) | (simp [go_sem]; done) | (simp [go_sem, *]; done) | assumption)
  have g3x7 : w3.cell? ⟨(w.heap.size + 1), 3, none⟩ = some (.int .i64 (f)) := (hc3 _ _ (by first | omega | (simp; done) | (simp; omega))).trans (by first | (with_reducible assumption) | (simp [go_sem]; done) | (simp [go_sem, *]; done) | assumption)
  have g3x8 : w3.cell? ⟨(w.heap.size + 1 + 1), 0, none⟩ = some (.int .i64 (0)) := (hc3 _ _ (by first | omega | (simp; done) | (simp; omega))).trans (by first | (with_reducible assumption) | (simp [go_sem]; done) | (simp [go_sem, *]; done) | assumption)
  have g3x9 : w3.cell? ⟨(w.heap.size + 1 + 1), 1, none⟩ = some (.int .i64 (0)) := (hc3 _ _ (by first | omega | (simp; done) | (simp; omega))).trans (by first | (with_reducible assumption) | (simp [go_sem]; done) | (simp [go_sem, *]; done) | assumption)
  have g3x10 : w3.cell? ⟨(w.heap.size + 1 + 1), 2, none⟩ = some (.int .i64 (0)) := (hc3 _ _ (by first | omega | (simp; done) | (simp; omega))).trans (by first | (with_reducible assumption) | (simp [go_sem]; done) | (simp [go_sem, *]; done) | assumption)
  have g3x11 : w3.cell? ⟨(w.heap.size + 1 + 1), 3, none⟩ = some (.int .i64 (0)) := (hc3 _ _ (by first | omega | (simp; done) | (simp; omega))).trans (by first | (with_reducible assumption) | (simp [go_sem]; done) | (simp [go_sem, *]; done) | assumption)
  have g3x12 : w3.cell? ⟨w2.heap.size, 0, none⟩ = some (.int .i64 (0)) := (hc3 _ _ (by first | omega | (simp; done) | (simp; omega))).trans (by first | (with_reducible assumption) | (simp [go_sem]; done) | (simp [go_sem, *]; done) | assumption)
  have g3x13 : w3.cell? ⟨w2.heap.size, 1, none⟩ = some (.int .i64 (0)) := (hc3 _ _ (by first | omega | (simp; done) | (simp; omega))).trans (by first | (with_reducible assumption) | (simp [go_sem]; done) | (simp [go_sem, *]; done) | assumption)
  have g3x14 : w3.cell? ⟨w2.heap.size, 2, none⟩ = some (.int .i64 (0)) := (hc3 _ _ (by first | omega | (simp; done) | (simp; omega))).trans (by first | (with_reducible assumption) | (simp [go_sem]; done) | (simp [go_sem, *]; done) | assumption)
  have g3x15 : w3.cell? ⟨w2.heap.size, 3, none⟩ = some (.int .i64 (0)) := (hc3 _ _ (by first | omega | (simp; done) | (simp; omega))).trans (by first | (with_reducible assumption) | (simp [go_sem]; done) | (simp [go_sem, *]; done) | assumption)
  clear hc3
  go_wp2_with fail
  refine (HM.out _).mono ?_
  rintro e w4 ⟨rfl, hb4⟩
  obtain ⟨hc4, hf4⟩ := bcell hb4
  have hz4 := hb4.size
  try simp at hz4
  have hl4w2 : w2.heap.size < w4.heap.size := by omega
  have hm4w2 : w2.heap.size ≤ w4.heap.size := by omega
  have hs4x0 : w.heap.size < w4.heap.size := by omega
  have hs4x1 : (w.heap.size + 1) < w4.heap.size := by omega
  have hs4x2 : (w.heap.size + 1 + 1) < w4.heap.size := by omega
  have g4x0 : w4.cell? ⟨w.heap.size, 0, none⟩ = some (.int .i64 (y)) := (hc4 _ _ (by first | omega | (simp; done) | (simp; omega))).trans (by first | (with_reducible assumption) | (simp [go_sem]; done) | (simp [go_sem, *]; done) | assumption)
  have g4x1 : w4.cell? ⟨w.heap.size, 1, none⟩ = some (.int .i64 (n)) := (hc4 _ _ (by first | omega | (simp; done) | (simp; omega))).trans (by first | (with_reducible assumption) | (simp [go_sem]; done) | (simp [go_sem, *]; done) | assumption)
  have g4x2 : w4.cell? ⟨w.heap.size, 2, none⟩ = some (.bool (l)) := (hc4 _ _ (by first | omega | (simp; done) | (simp; omega))).trans (by first | (with_reducible assumption) | (simp [go_sem]; done) | (simp [go_sem, *]; done) | assumption)
  have g4x3 : w4.cell? ⟨w.heap.size, 3, none⟩ = some (.int .i64 (d)) := (hc4 _ _ (by first | omega | (simp; done) | (simp; omega))).trans (by first | (with_reducible assumption) | (simp [go_sem]; done) | (simp [go_sem, *]; done) | assumption)
  have g4x4 : w4.cell? ⟨(w.heap.size + 1), 0, none⟩ = some (.int .i64 (z)) := (hc4 _ _ (by first | omega | (simp; done) | (simp; omega))).trans (by first | (with_reducible assumption) | (simp [go_sem]; done) | (simp [go_sem, *]; done) | assumption)
  have g4x5 : w4.cell? ⟨(w.heap.size + 1), 1, none⟩ = some (.int .i64 (k)) := (hc4 _ _ (by first | omega | (simp; done) | (simp; omega))).trans (by first | (with_reducible assumption) | (simp [go_sem]; done) | (simp [go_sem, *]; done) | assumption)
  have g4x6 : w4.cell? ⟨(w.heap.size + 1), 2, none⟩ = some (.bool (h)) := (hc4 _ _ (by first | omega | (simp; done) | (simp; omega))).trans (by first | (with_reducible assumption) | (simp [go_sem]; done) | (simp [go_sem, *]; done) | assumption)
  have g4x7 : w4.cell? ⟨(w.heap.size + 1), 3, none⟩ = some (.int .i64 (f)) := (hc4 _ _ (by first | omega | (simp; done) | (simp; omega))).trans (by first | (with_reducible assumption) | (simp [go_sem]; done) | (simp [go_sem, *]; done) | assumption)
  have g4x8 : w4.cell? ⟨(w.heap.size + 1 + 1), 0, none⟩ = some (.int .i64 (0)) := (hc4 _ _ (by first | omega | (simp; done) | (simp; omega))).trans (by first | (with_reducible assumption) | (simp [go_sem]; done) | (simp [go_sem, *]; done) | assumption)
  have g4x9 : w4.cell? ⟨(w.heap.size + 1 + 1), 1, none⟩ = some (.int .i64 (0)) := (hc4 _ _ (by first | omega | (simp; done) | (simp; omega))).trans (by first | (with_reducible assumption) | (simp [go_sem]; done) | (simp [go_sem, *]; done) | assumption)
  have g4x10 : w4.cell? ⟨(w.heap.size + 1 + 1), 2, none⟩ = some (.int .i64 (0)) := (hc4 _ _ (by first | omega | (simp; done) | (simp; omega))).trans (by first | (with_reducible assumption) | (simp [go_sem]; done) | (simp [go_sem, *]; done) | assumption)
  have g4x11 : w4.cell? ⟨(w.heap.size + 1 + 1), 3, none⟩ = some (.int .i64 (0)) := (hc4 _ _ (by first | omega | (simp; done) | (simp; omega))).trans (by first | (with_reducible assumption) | (simp [go_sem]; done) | (simp [go_sem, *]; done) | assumption)
  have g4x12 : w4.cell? ⟨w2.heap.size, 0, none⟩ = some (.int .i64 (va)) := (hc4 _ _ (by first | omega | (simp; done) | (simp; omega))).trans (by first | (with_reducible assumption) | (simp [go_sem]; done) | (simp [go_sem, *]; done) | assumption)
  have g4x13 : w4.cell? ⟨w2.heap.size, 1, none⟩ = some (.int .i64 (0)) := (hc4 _ _ (by first | omega | (simp; done) | (simp; omega))).trans (by first | (with_reducible assumption) | (simp [go_sem]; done) | (simp [go_sem, *]; done) | assumption)
  have g4x14 : w4.cell? ⟨w2.heap.size, 2, none⟩ = some (.int .i64 (0)) := (hc4 _ _ (by first | omega | (simp; done) | (simp; omega))).trans (by first | (with_reducible assumption) | (simp [go_sem]; done) | (simp [go_sem, *]; done) | assumption)
  have g4x15 : w4.cell? ⟨w2.heap.size, 3, none⟩ = some (.int .i64 (0)) := (hc4 _ _ (by first | omega | (simp; done) | (simp; omega))).trans (by first | (with_reducible assumption) | (simp [go_sem]; done) | (simp [go_sem, *]; done) | assumption)
  clear hc4
  go_wp2_with fail
  refine (HTo.out _).mono ?_
  rintro e w5 ⟨rfl, hb5⟩
  obtain ⟨hc5, hf5⟩ := bcell hb5
  have hz5 := hb5.size
  try simp at hz5
  have hl5w2 : w2.heap.size < w5.heap.size := by omega
  have hm5w2 : w2.heap.size ≤ w5.heap.size := by omega
  have hs5x0 : w.heap.size < w5.heap.size := by omega
  have hs5x1 : (w.heap.size + 1) < w5.heap.size := by omega
  have hs5x2 : (w.heap.size + 1 + 1) < w5.heap.size := by omega
  have g5x0 : w5.cell? ⟨w.heap.size, 0, none⟩ = some (.int .i64 (y)) := (hc5 _ _ (by first | omega | (simp; done) | (simp; omega))).trans (by first | (with_reducible assumption) | (simp [go_sem]; done) | (simp [go_sem, *]; done) | assumption)
  have g5x1 : w5.cell? ⟨w.heap.size, 1, none⟩ = some (.int .i64 (n)) := (hc5 _ _ (by first | omega | (simp; done) | (simp; omega))).trans (by first | (with_reducible assumption) | (simp [go_sem]; done) | (simp [go_sem, *]; done) | assumption)
  have g5x2 : w5.cell? ⟨w.heap.size, 2, none⟩ = some (.bool (l)) := (hc5 _ _ (by first | omega | (simp; done) | (simp; omega))).trans (by first | (with_reducible assumption) | (simp [go_sem]; done) | (simp [go_sem, *]; done) | assumption)
  have g5x3 : w5.cell? ⟨w.heap.size, 3, none⟩ = some (.int .i64 (d)) := (hc5 _ _ (by first | omega | (simp; done) | (simp; omega))).trans (by first | (with_reducible assumption) | (simp [go_sem]; done) | (simp [go_sem, *]; done) | assumption)
  have g5x4 : w5.cell? ⟨(w.heap.size + 1), 0, none⟩ = some (.int .i64 (z)) := (hc5 _ _ (by first | omega | (simp; done) | (simp; omega))).trans (by first | (with_reducible assumption) | (simp [go_sem]; done) | (simp [go_sem, *]; done) | assumption)
  have g5x5 : w5.cell? ⟨(w.heap.size + 1), 1, none⟩ = some (.int .i64 (k)) := (hc5 _ _ (by first | omega | (simp; done) | (simp; omega))).trans (by first | (with_reducible assumption) | (simp [go_sem]; done) | (simp [go_sem, *]; done) | assumption)
  have g5x6 : w5.cell? ⟨(w.heap.size + 1), 2, none⟩ = some (.bool (h)) := (hc5 _ _ (by first | omega | (simp; done) | (simp; omega))).trans (by first | (with_reducible assumption) | (simp [go_sem]; done) | (simp [go_sem, *]; done) | assumption)
  have g5x7 : w5.cell? ⟨(w.heap.size + 1), 3, none⟩ = some (.int .i64 (f)) := (hc5 _ _ (by first | omega | (simp; done) | (simp; omega))).trans (by first | (with_reducible assumption) | (simp [go_sem]; done) | (simp [go_sem, *]; done) | assumption)
  have g5x8 : w5.cell? ⟨(w.heap.size + 1 + 1), 0, none⟩ = some (.int .i64 (0)) := (hc5 _ _ (by first | omega | (simp; done) | (simp; omega))).trans (by first | (with_reducible assumption) | (simp [go_sem]; done) | (simp [go_sem, *]; done) | assumption)
  have g5x9 : w5.cell? ⟨(w.heap.size + 1 + 1), 1, none⟩ = some (.int .i64 (0)) := (hc5 _ _ (by first | omega | (simp; done) | (simp; omega))).trans (by first | (with_reducible assumption) | (simp [go_sem]; done) | (simp [go_sem, *]; done) | assumption)
  have g5x10 : w5.cell? ⟨(w.heap.size + 1 + 1), 2, none⟩ = some (.int .i64 (0)) := (hc5 _ _ (by first | omega | (simp; done) | (simp; omega))).trans (by first | (with_reducible assumption) | (simp [go_sem]; done) | (simp [go_sem, *]; done) | assumption)
  have g5x11 : w5.cell? ⟨(w.heap.size + 1 + 1), 3, none⟩ = some (.int .i64 (0)) := (hc5 _ _ (by first | omega | (simp; done) | (simp; omega))).trans (by first | (with_reducible assumption) | (simp [go_sem]; done) | (simp [go_sem, *]; done) | assumption)
  have g5x12 : w5.cell? ⟨w2.heap.size, 0, none⟩ = some (.int .i64 (va)) := (hc5 _ _ (by first | omega | (simp; done) | (simp; omega))).trans (by first | (with_reducible assumption) | (simp [go_sem]; done) | (simp [go_sem, *]; done) | assumption)
  have g5x13 : w5.cell? ⟨w2.heap.size, 1, none⟩ = some (.int .i64 (vb)) := (hc5 _ _ (by first | omega | (simp; done) | (simp; omega))).trans (by first | (with_reducible assumption) | (simp [go_sem]; done) | (simp [go_sem, *]; done) | assumption)
  have g5x14 : w5.cell? ⟨w2.heap.size, 2, none⟩ = some (.int .i64 (0)) := (hc5 _ _ (by first | omega | (simp; done) | (simp; omega))).trans (by first | (with_reducible assumption) | (simp [go_sem]; done) | (simp [go_sem, *]; done) | assumption)
  have g5x15 : w5.cell? ⟨w2.heap.size, 3, none⟩ = some (.int .i64 (0)) := (hc5 _ _ (by first | omega | (simp; done) | (simp; omega))).trans (by first | (with_reducible assumption) | (simp [go_sem]; done) | (simp [go_sem, *]; done) | assumption)
  clear hc5
  go_wp2_with fail
  refine (HX.out _).mono ?_
  rintro e w6 ⟨rfl, hb6⟩
  obtain ⟨hc6, hf6⟩ := bcell hb6
  have hz6 := hb6.size
  try simp at hz6
  have hl6w2 : w2.heap.size < w6.heap.size := by omega
  have hm6w2 : w2.heap.size ≤ w6.heap.size := by omega
  have hs6x0 : w.heap.size < w6.heap.size := by omega
  have hs6x1 : (w.heap.size + 1) < w6.heap.size := by omega
  have hs6x2 : (w.heap.size + 1 + 1) < w6.heap.size := by omega
  have g6x0 : w6.cell? ⟨w.heap.size, 0, none⟩ = some (.int .i64 (y)) := (hc6 _ _ (by first | omega | (simp; done) | (simp; omega))).trans (by first | (with_reducible assumption) | (simp [go_sem]; done) | (simp [go_sem, *]; done) | assumption)
  have g6x1 : w6.cell? ⟨w.heap.size, 1, none⟩ = some (.int .i64 (n)) := (hc6 _ _ (by first | omega | (simp; done) | (simp; omega))).trans (by first | (with_reducible assumption) | (simp [go_sem]; done) | (simp [go_sem, *]; done) | assumption)
  have g6x2 : w6.cell? ⟨w.heap.size, 2, none⟩ = some (.bool (l)) := (hc6 _ _ (by first | omega | (simp; done) | (simp; omega))).trans (by first | (with_reducible assumption) | (simp [go_sem]; done) | (simp [go_sem, *]; done) | assumption)
  have g6x3 : w6.cell? ⟨w.heap.size, 3, none⟩ = some (.int .i64 (d)) := (hc6 _ _ (by first | omega | (simp; done) | (simp; omega))).trans (by first | (with_reducible assumption) | (simp [go_sem]; done) | (simp [go_sem, *]; done) | assumption)
  have g6x4 : w6.cell? ⟨(w.heap.size + 1), 0, none⟩ = some (.int .i64 (z)) := (hc6 _ _ (by first | omega | (simp; done) | (simp; omega))).trans (by first | (with_reducible assumption) | (simp [go_sem]; done) | (simp [go_sem, *]; done) | assumption)
  have g6x5 : w6.cell? ⟨(w.heap.size + 1), 1, none⟩ = some (.int .i64 (k)) := (hc6 _ _ (by first | omega | (simp; done) | (simp; omega))).trans (by first | (with_reducible assumption) | (simp [go_sem]; done) | (simp [go_sem, *]; done) | assumption)
  have g6x6 : w6.cell? ⟨(w.heap.size + 1), 2, none⟩ = some (.bool (h)) := (hc6 _ _ (by first | omega | (simp; done) | (simp; omega))).trans (by first | (with_reducible assumption) | (simp [go_sem]; done) | (simp [go_sem, *]; done) | assumption)
  have g6x7 : w6.cell? ⟨(w.heap.size + 1), 3, none⟩ = some (.int .i64 (f)) := (hc6 _ _ (by first | omega | (simp; done) | (simp; omega))).trans (by first | (with_reducible assumption) | (simp [go_sem]; done) | (simp [go_sem, *]; done) | assumption)
  have g6x8 : w6.cell? ⟨(w.heap.size + 1 + 1), 0, none⟩ = some (.int .i64 (0)) := (hc6 _ _ (by first | omega | (simp; done) | (simp; omega))).trans (by first | (with_reducible assumption) | (simp [go_sem]; done) | (simp [go_sem, *]; done) | assumption)
  have g6x9 : w6.cell? ⟨(w.heap.size + 1 + 1), 1, none⟩ = some (.int .i64 (0)) := (hc6 _ _ (by first | omega | (simp; done) | (simp; omega))).trans (by first | (with_reducible assumption) | (simp [go_sem]; done) | (simp [go_sem, *]; done) | assumption)
  have g6x10 : w6.cell? ⟨(w.heap.size + 1 + 1), 2, none⟩ = some (.int .i64 (0)) := (hc6 _ _ (by first | omega | (simp; done) | (simp; omega))).trans (by first | (with_reducible assumption) | (simp [go_sem]; done) | (simp [go_sem, *]; done) | assumption)
  have g6x11 : w6.cell? ⟨(w.heap.size + 1 + 1), 3, none⟩ = some (.int .i64 (0)) := (hc6 _ _ (by first | omega | (simp; done) | (simp; omega))).trans (by first | (with_reducible assumption) | (simp [go_sem]; done) | (simp [go_sem, *]; done) | assumption)
  have g6x12 : w6.cell? ⟨w2.heap.size, 0, none⟩ = some (.int .i64 (va)) := (hc6 _ _ (by first | omega | (simp; done) | (simp; omega))).trans (by first | (with_reducible assumption) | (simp [go_sem]; done) | (simp [go_sem, *]; done) | assumption)
  have g6x13 : w6.cell? ⟨w2.heap.size, 1, none⟩ = some (.int .i64 (vb)) := (hc6 _ _ (by first | omega | (simp; done) | (simp; omega))).trans (by first | (with_reducible assumption) | (simp [go_sem]; done) | (simp [go_sem, *]; done) | assumption)
  have g6x14 : w6.cell? ⟨w2.heap.size, 2, none⟩ = some (.int .i64 (0)) := (hc6 _ _ (by first | omega | (simp; done) | (simp; omega))).trans (by first | (with_reducible assumption) | (simp [go_sem]; done) | (simp [go_sem, *]; done) | assumption)
  have g6x15 : w6.cell? ⟨w2.heap.size, 3, none⟩ = some (.int .i64 (0)) := (hc6 _ _ (by first | omega | (simp; done) | (simp; omega))).trans (by first | (with_reducible assumption) | (simp [go_sem]; done) | (simp [go_sem, *]; done) | assumption)
  clear hc6
  go_wp2_with fail
  refine bodyPost_ret (v := .tuple #[.agg #[.int .i64 (va), .int .i64 (vb), .int .i64 (0), .int .i64 (D2 - D3)], .int .i64 (0)]) (by simp [results, Tryz.results35, go_sem, *]) rfl ⟨rfl, ?_⟩
  repeat (first | (with_reducible exact Below.refl _ _) | (with_reducible assumption) | (with_reducible refine bdrew ?_) | (with_reducible refine baa ?_ _) | (with_reducible refine bs ?_ (by first | exact Nat.le_refl _ | omega | (simp; done) | (simp; omega)) _) | (with_reducible refine bt ?_ (by with_reducible assumption)))
end Go.Proofs.YtafenpgafmdenaaGreatDoor
/- Layer 17: UntilTells. -/
namespace Go.Proofs.YtafenpgafmdenaaGreatDoor
open Go.ChangeShapes Go.WideShapes Go.ChangeAt Go.RowKit
set_option linter.unusedVariables false
set_option maxRecDepth 100000
theorem ref16_To_at (y n : Int) (l : Bool) (d a b : Int) (hy : I64 y) (h : A16.toE y n l d a b 0 0 0 = 0) : ∃ (ry rn : Int) (rl : Bool) (rd : Int), D10.dateE ry rn rl rd = 0 ∧ D10.dayV ry rn rl rd = A16.day y n l d a b 0 0 0 ∧ I64 ry ∧
    ∀ w : World, Calls Tryz.prog 28 #[.agg #[.int .i64 (y), .int .i64 (n), .bool (l), .int .i64 (d)], .agg #[.int .i64 (a), .int .i64 (b), .int .i64 (0), .int .i64 (0)], .int .i64 0] w fun e w' => e = .returned (.tuple #[.agg #[.int .i64 (ry), .int .i64 (rn), .bool (rl), .int .i64 (rd)], .int .i64 (0)]) ∧ Below w.heap.size w w' := by
  obtain ⟨ry, rn, rl, rd, er, hto⟩ := A16.to_some y n l d a b 0 0 0
  obtain ⟨rfl, r1, r2, r3, r4⟩ := hto.date h
  exact ⟨ry, rn, rl, rd, r1, r2, ⟨by omega, by omega⟩, fun w => ref16_To y n l d a b 0 0 0 w hy ry rn rl rd 0 (Lib.hid hto)⟩
theorem ref10_ToDay_at (y n : Int) (l : Bool) (d : Int) (hy : I64 y) (h : D10.dateE y n l d = 0) (E : Int) (hE : D10.dayV y n l d = E) : ∀ w : World, Calls Tryz.prog 37 #[.agg #[.int .i64 (y), .int .i64 (n), .bool (l), .int .i64 (d)]] w fun e w' => e = .returned (.tuple #[.int .i64 (E), .int .i64 0]) ∧ Below w.heap.size w w' := by
  intro w
  have := ref10_ToDay y n l d w hy
  rwa [h, hE] at this
theorem ref17_Date (y n : Int) (l : Bool) (d z k : Int) (h : Bool) (f : Int) (unit : Int) (w : World) (hy : I64 y) (hz : I64 z) (va vb vc vq er : Int) (hres : Hid (U17.DIs y n l d z k h f unit va vb vc vq er)) :
    Calls Tryz.prog 35 #[.agg #[.int .i64 (y), .int .i64 (n), .bool (l), .int .i64 (d)], .agg #[.int .i64 (z), .int .i64 (k), .bool (h), .int .i64 (f)], .int .i64 unit] w fun e w' => e = .returned (.tuple #[.agg #[.int .i64 (va), .int .i64 (vb), .int .i64 (vc), .int .i64 (vq)], .int .i64 (er)]) ∧ Below w.heap.size w w' := by
  have HTa := Lib.hid (fun w => ref10_ToDay y n l d w hy)
  have HTb := Lib.hid (fun w => ref10_ToDay z k h f w hz)
  rcases hres.out with ⟨hu, rfl, rfl, rfl, rfl, rfl⟩ | ⟨hu, he, hne, rfl, rfl, rfl, rfl⟩ | ⟨hu, ha, hb, rfl, hI⟩
  · by_cases c : unit < 0
    · exact ref17_Date_low y n l d z k h f unit w c
    · exact ref17_Date_high y n l d z k h f unit w (by omega) (by omega)
  · by_cases ha : D10.dateE y n l d = 0
    · rw [if_pos ha] at he
      rw [ha] at HTa
      rw [← he] at HTb
      exact ref17_Date_eb y n l d z k h f unit _ _ er w hu.1 hu.2 HTa HTb (by simpa using hne)
    · rw [if_neg ha] at he
      rw [← he] at HTa
      exact ref17_Date_ea y n l d z k h f unit _ er w hu.1 hu.2 HTa (by simpa using hne)
  · rw [ha] at HTa
    rw [hb] at HTb
    obtain ⟨_, a1, a2⟩ := D10.dayV_ok y n l d ha
    obtain ⟨_, b1, b2⟩ := D10.dayV_ok z k h f hb
    have hsg := U17.sg_or (D10.dayV y n l d) (D10.dayV z k h f)
    have h0 : A16.toE y n l d 0 0 0 0 0 = 0 ∧ A16.day y n l d 0 0 0 0 0 = (D10.dayV y n l d) := by
      obtain ⟨e1, e2⟩ := A16.to_days (c := 0) (f := 0) (m := 0) ha rfl rfl
      rw [if_neg (by unfold A16.out; omega)] at e2
      exact ⟨e2, by rw [e1]; omega⟩
    rcases hI with ⟨rfl, rfl, rfl, rfl, rfl⟩ | ⟨rfl, rfl, rfl, rfl, rfl⟩ | ⟨rfl, rfl, rfl, rfl, K, rfl, q0, qk, qk1⟩ | ⟨rfl, rfl, rfl, J, K, rfl, pj, pj1, rfl, q0, qk, qk1⟩
    · obtain ⟨ry, rn, rl, rd, r1, r2, r3, HTo⟩ := ref16_To_at y n l d 0 0 hy h0.1
      have HX := Lib.hid (ref10_ToDay_at ry rn rl rd r3 r1 (D10.dayV y n l d) (r2.trans h0.2))
      by_cases c : (D10.dayV y n l d) ≤ (D10.dayV z k h f)
      · exact ref17_Date_u0_up y n l d z k h f ry rn rl rd _ _ _ w HTa HTb (Lib.hid HTo) HX (by omega) (by omega) (by omega) (by omega) (by omega) (by omega) c
      · exact ref17_Date_u0_down y n l d z k h f ry rn rl rd _ _ _ w HTa HTb (Lib.hid HTo) HX (by omega) (by omega) (by omega) (by omega) (by omega) (by omega) (by omega)
    · by_cases c : (D10.dayV y n l d) ≤ (D10.dayV z k h f)
      · rw [Int.tmod_eq_emod_of_nonneg (by omega)]
        exact ref17_Date_u1_up y n l d z k h f _ _ w HTa HTb (by omega) (by omega) (by omega) (by omega) c
      · exact ref17_Date_u1_down y n l d z k h f _ _ w HTa HTb (by omega) (by omega) (by omega) (by omega) (by omega)
    · have hK := U17.small (p := U17.Q y n l d 0 (U17.sg (D10.dayV y n l d) (D10.dayV z k h f)) (D10.dayV z k h f)) qk (fun hk => U17.Q_no ha hsg hk)
      generalize hsd : (U17.sg (D10.dayV y n l d) (D10.dayV z k h f)) = s at *
      have ht := U17.toE_of (show U17.fit y n l d 0 (s * (K : Int)) s (D10.dayV z k h f) = true from qk)
      obtain ⟨ry, rn, rl, rd, r1, r2, r3, HTo⟩ := ref16_To_at y n l d 0 (s * (K : Int)) hy ht
      obtain ⟨_, d1, d2⟩ := D10.dayV_ok ry rn rl rd r1
      have HX := Lib.hid (ref10_ToDay_at ry rn rl rd r3 r1 _ r2)
      rw [r2] at d1 d2
      have HM := Lib.hid (fun w => ref17_most_2 y n l d 0 (D10.dayV z k h f) s 130000 K (U17.Q y n l d 0 s (D10.dayV z k h f)) w hsg (by omega) (by omega) (Lib.hid (fun m w => ref17_beyond y n l d 0 (s * (m : Int)) (D10.dayV z k h f) s w hy hsg (by omega) (by omega))) (Lib.hid (fun i hi => U17.Q_down ha hsg q0 hi qk)) (Lib.hid (U17.up_false (p := U17.Q y n l d 0 s (D10.dayV z k h f)) (fun hjk hk => U17.Q_down ha hsg q0 hjk hk) qk1)))
      by_cases c : (D10.dayV y n l d) ≤ (D10.dayV z k h f)
      · obtain rfl : s = 1 := by rw [← hsd]; exact U17.sg_up c
        exact ref17_Date_u2_up y n l d z k h f ry rn rl rd _ _ _ _ w HTa HTb HM (Lib.hid HTo) HX (by omega) (by omega) (by omega) (by omega) (by omega) (by omega) c
      · obtain rfl : s = (-1) := by rw [← hsd]; exact U17.sg_down (show (D10.dayV z k h f) < (D10.dayV y n l d) by omega)
        exact ref17_Date_u2_down y n l d z k h f ry rn rl rd _ _ _ _ w HTa HTb HM (Lib.hid HTo) HX (by omega) (by omega) (by omega) (by omega) (by omega) (by omega) (by omega)
    · have hK := U17.small (p := U17.Q y n l d ((U17.sg (D10.dayV y n l d) (D10.dayV z k h f)) * (J : Int)) (U17.sg (D10.dayV y n l d) (D10.dayV z k h f)) (D10.dayV z k h f)) qk (fun hk => U17.Q_no ha hsg hk)
      have hJ := U17.small (p := U17.P y n l d (U17.sg (D10.dayV y n l d) (D10.dayV z k h f)) (D10.dayV z k h f)) pj (fun hk => U17.P_no ha hsg hk)
      generalize hsd : (U17.sg (D10.dayV y n l d) (D10.dayV z k h f)) = s at *
      have ht := U17.toE_of (show U17.fit y n l d (s * (J : Int)) (s * (K : Int)) s (D10.dayV z k h f) = true from qk)
      obtain ⟨ry, rn, rl, rd, r1, r2, r3, HTo⟩ := ref16_To_at y n l d (s * (J : Int)) (s * (K : Int)) hy ht
      obtain ⟨_, d1, d2⟩ := D10.dayV_ok ry rn rl rd r1
      have HX := Lib.hid (ref10_ToDay_at ry rn rl rd r3 r1 _ r2)
      rw [r2] at d1 d2
      have HY := Lib.hid (fun w => ref17_most_3 y n l d 0 (D10.dayV z k h f) s 10000 J (U17.P y n l d s (D10.dayV z k h f)) w hsg (by omega) (by omega) (Lib.hid (fun m w => ref17_beyond y n l d (s * (m : Int)) 0 (D10.dayV z k h f) s w hy hsg (by omega) (by omega))) (Lib.hid (fun i hi => U17.P_down ha hsg hi pj)) (Lib.hid (U17.up_false (p := U17.P y n l d s (D10.dayV z k h f)) (fun hjk hk => U17.P_down ha hsg hjk hk) pj1)))
      have HM := Lib.hid (fun w => ref17_most_2 y n l d (s * (J : Int)) (D10.dayV z k h f) s 130000 K (U17.Q y n l d (s * (J : Int)) s (D10.dayV z k h f)) w hsg (by omega) (by omega) (Lib.hid (fun m w => ref17_beyond y n l d (s * (J : Int)) (s * (m : Int)) (D10.dayV z k h f) s w hy hsg (by omega) (by omega))) (Lib.hid (fun i hi => U17.Q_down ha hsg q0 hi qk)) (Lib.hid (U17.up_false (p := U17.Q y n l d (s * (J : Int)) s (D10.dayV z k h f)) (fun hjk hk => U17.Q_down ha hsg q0 hjk hk) qk1)))
      by_cases c : (D10.dayV y n l d) ≤ (D10.dayV z k h f)
      · obtain rfl : s = 1 := by rw [← hsd]; exact U17.sg_up c
        exact ref17_Date_u3_up y n l d z k h f ry rn rl rd _ _ _ _ _ w HTa HTb HY HM (Lib.hid HTo) HX (by omega) (by omega) (by omega) (by omega) (by omega) (by omega) c
      · obtain rfl : s = (-1) := by rw [← hsd]; exact U17.sg_down (show (D10.dayV z k h f) < (D10.dayV y n l d) by omega)
        exact ref17_Date_u3_down y n l d z k h f ry rn rl rd _ _ _ _ _ w HTa HTb HY HM (Lib.hid HTo) HX (by omega) (by omega) (by omega) (by omega) (by omega) (by omega) (by omega)
set_option maxHeartbeats 4000000 in
theorem UntilTells_go (y n : Int) (l : Bool) (d z k : Int) (h : Bool) (f : Int) (unit va vb vc vq er : Int) (w : World) (hT : Tab w 8 kevCells) (hL : Tab w 6 lenCells) (HA : Hid (∀ w : World, Tab w 8 kevCells → Tab w 6 lenCells → Calls Tryz.prog 34 #[.agg #[.int .i64 (y), .int .i64 (n), .bool (l), .int .i64 (d)], .agg #[.int .i64 (z), .int .i64 (k), .bool (h), .int .i64 (f)], .int .i64 unit] w fun e w' => e = .returned (.tuple #[.agg #[.int .i64 (va), .int .i64 (vb), .int .i64 (vc), .int .i64 (vq)], .int .i64 (er)]) ∧ Below w.heap.size w w')) (HB : Hid (∀ w : World, Calls Tryz.prog 35 #[.agg #[.int .i64 (y), .int .i64 (n), .bool (l), .int .i64 (d)], .agg #[.int .i64 (z), .int .i64 (k), .bool (h), .int .i64 (f)], .int .i64 unit] w fun e w' => e = .returned (.tuple #[.agg #[.int .i64 (va), .int .i64 (vb), .int .i64 (vc), .int .i64 (vq)], .int .i64 (er)]) ∧ Below w.heap.size w w')) :
    Calls Tryz.prog 7 #[.agg #[.int .i64 (y), .int .i64 (n), .bool (l), .int .i64 (d)], .agg #[.int .i64 (z), .int .i64 (k), .bool (h), .int .i64 (f)], .int .i64 unit] w fun e w' => e = .returned (.bool true) ∧ Below w.heap.size w w' := by
  go_enter Tryz.func7, Tryz.ntmps7
  go_wp2_with fail
  refine (HA.out _ (Tab.below hT (by repeat (first | (with_reducible exact Below.refl _ _) | (with_reducible assumption) | (with_reducible refine bdrew ?_) | (with_reducible refine baa ?_ _) | (with_reducible refine bs ?_ (by first | exact Nat.le_refl _ | omega | (simp; done) | (simp; omega)) _) | (with_reducible refine bt ?_ (by with_reducible assumption))))) (Tab.below hL (by repeat (first | (with_reducible exact Below.refl _ _) | (with_reducible assumption) | (with_reducible refine bdrew ?_) | (with_reducible refine baa ?_ _) | (with_reducible refine bs ?_ (by first | exact Nat.le_refl _ | omega | (simp; done) | (simp; omega)) _) | (with_reducible refine bt ?_ (by with_reducible assumption)))))).mono ?_
  rintro e w1 ⟨rfl, hb1⟩
  obtain ⟨hc1, hf1⟩ := bcell hb1
  have hz1 := hb1.size
  try simp at hz1
  have hs1x0 : w.heap.size < w1.heap.size := by omega
  have hs1x1 : (w.heap.size + 1) < w1.heap.size := by omega
  have g1x0 : w1.cell? ⟨w.heap.size, 0, none⟩ = some (.int .i64 (y)) := (hc1 _ _ (by first | omega | (simp; done) | (simp; omega))).trans (by first | (with_reducible assumption) | (simp [go_sem]; done) | (simp [go_sem, *]; done) | assumption)
  have g1x1 : w1.cell? ⟨w.heap.size, 1, none⟩ = some (.int .i64 (n)) := (hc1 _ _ (by first | omega | (simp; done) | (simp; omega))).trans (by first | (with_reducible assumption) | (simp [go_sem]; done) | (simp [go_sem, *]; done) | assumption)
  have g1x2 : w1.cell? ⟨w.heap.size, 2, none⟩ = some (.bool (l)) := (hc1 _ _ (by first | omega | (simp; done) | (simp; omega))).trans (by first | (with_reducible assumption) | (simp [go_sem]; done) | (simp [go_sem, *]; done) | assumption)
  have g1x3 : w1.cell? ⟨w.heap.size, 3, none⟩ = some (.int .i64 (d)) := (hc1 _ _ (by first | omega | (simp; done) | (simp; omega))).trans (by first | (with_reducible assumption) | (simp [go_sem]; done) | (simp [go_sem, *]; done) | assumption)
  have g1x4 : w1.cell? ⟨(w.heap.size + 1), 0, none⟩ = some (.int .i64 (z)) := (hc1 _ _ (by first | omega | (simp; done) | (simp; omega))).trans (by first | (with_reducible assumption) | (simp [go_sem]; done) | (simp [go_sem, *]; done) | assumption)
  have g1x5 : w1.cell? ⟨(w.heap.size + 1), 1, none⟩ = some (.int .i64 (k)) := (hc1 _ _ (by first | omega | (simp; done) | (simp; omega))).trans (by first | (with_reducible assumption) | (simp [go_sem]; done) | (simp [go_sem, *]; done) | assumption)
  have g1x6 : w1.cell? ⟨(w.heap.size + 1), 2, none⟩ = some (.bool (h)) := (hc1 _ _ (by first | omega | (simp; done) | (simp; omega))).trans (by first | (with_reducible assumption) | (simp [go_sem]; done) | (simp [go_sem, *]; done) | assumption)
  have g1x7 : w1.cell? ⟨(w.heap.size + 1), 3, none⟩ = some (.int .i64 (f)) := (hc1 _ _ (by first | omega | (simp; done) | (simp; omega))).trans (by first | (with_reducible assumption) | (simp [go_sem]; done) | (simp [go_sem, *]; done) | assumption)
  go_wp2_with fail
  refine (HB.out _).mono ?_
  rintro e w2 ⟨rfl, hb2⟩
  obtain ⟨hc2, hf2⟩ := bcell hb2
  have hz2 := hb2.size
  try simp at hz2
  have hl2w1 : w1.heap.size < w2.heap.size := by omega
  have hm2w1 : w1.heap.size ≤ w2.heap.size := by omega
  have hs2x0 : w.heap.size < w2.heap.size := by omega
  have hs2x1 : (w.heap.size + 1) < w2.heap.size := by omega
  have g2x0 : w2.cell? ⟨w.heap.size, 0, none⟩ = some (.int .i64 (y)) := (hc2 _ _ (by first | omega | (simp; done) | (simp; omega))).trans (by first | (with_reducible assumption) | (simp [go_sem]; done) | (simp [go_sem, *]; done) | assumption)
  have g2x1 : w2.cell? ⟨w.heap.size, 1, none⟩ = some (.int .i64 (n)) := (hc2 _ _ (by first | omega | (simp; done) | (simp; omega))).trans (by first | (with_reducible assumption) | (simp [go_sem]; done) | (simp [go_sem, *]; done) | assumption)
  have g2x2 : w2.cell? ⟨w.heap.size, 2, none⟩ = some (.bool (l)) := (hc2 _ _ (by first | omega | (simp; done) | (simp; omega))).trans (by first | (with_reducible assumption) | (simp [go_sem]; done) | (simp [go_sem, *]; done) | assumption)
  have g2x3 : w2.cell? ⟨w.heap.size, 3, none⟩ = some (.int .i64 (d)) := (hc2 _ _ (by first | omega | (simp; done) | (simp; omega))).trans (by first | (with_reducible assumption) | (simp [go_sem]; done) | (simp [go_sem, *]; done) | assumption)
  have g2x4 : w2.cell? ⟨(w.heap.size + 1), 0, none⟩ = some (.int .i64 (z)) := (hc2 _ _ (by first | omega | (simp; done) | (simp; omega))).trans (by first | (with_reducible assumption) | (simp [go_sem]; done) | (simp [go_sem, *]; done) | assumption)
  have g2x5 : w2.cell? ⟨(w.heap.size + 1), 1, none⟩ = some (.int .i64 (k)) := (hc2 _ _ (by first | omega | (simp; done) | (simp; omega))).trans (by first | (with_reducible assumption) | (simp [go_sem]; done) | (simp [go_sem, *]; done) | assumption)
  have g2x6 : w2.cell? ⟨(w.heap.size + 1), 2, none⟩ = some (.bool (h)) := (hc2 _ _ (by first | omega | (simp; done) | (simp; omega))).trans (by first | (with_reducible assumption) | (simp [go_sem]; done) | (simp [go_sem, *]; done) | assumption)
  have g2x7 : w2.cell? ⟨(w.heap.size + 1), 3, none⟩ = some (.int .i64 (f)) := (hc2 _ _ (by first | omega | (simp; done) | (simp; omega))).trans (by first | (with_reducible assumption) | (simp [go_sem]; done) | (simp [go_sem, *]; done) | assumption)
  have g2x8 : w2.cell? ⟨w1.heap.size, 0, none⟩ = some (.int .i64 (va)) := (hc2 _ _ (by first | omega | (simp; done) | (simp; omega))).trans (by first | (with_reducible assumption) | (simp [go_sem]; done) | (simp [go_sem, *]; done) | assumption)
  have g2x9 : w2.cell? ⟨w1.heap.size, 1, none⟩ = some (.int .i64 (vb)) := (hc2 _ _ (by first | omega | (simp; done) | (simp; omega))).trans (by first | (with_reducible assumption) | (simp [go_sem]; done) | (simp [go_sem, *]; done) | assumption)
  have g2x10 : w2.cell? ⟨w1.heap.size, 2, none⟩ = some (.int .i64 (vc)) := (hc2 _ _ (by first | omega | (simp; done) | (simp; omega))).trans (by first | (with_reducible assumption) | (simp [go_sem]; done) | (simp [go_sem, *]; done) | assumption)
  have g2x11 : w2.cell? ⟨w1.heap.size, 3, none⟩ = some (.int .i64 (vq)) := (hc2 _ _ (by first | omega | (simp; done) | (simp; omega))).trans (by first | (with_reducible assumption) | (simp [go_sem]; done) | (simp [go_sem, *]; done) | assumption)
  go_wp2_with fail
  refine (awake17 _ (Tab.below hT (by repeat (first | (with_reducible exact Below.refl _ _) | (with_reducible assumption) | (with_reducible refine bdrew ?_) | (with_reducible refine baa ?_ _) | (with_reducible refine bs ?_ (by first | exact Nat.le_refl _ | omega | (simp; done) | (simp; omega)) _) | (with_reducible refine bt ?_ (by with_reducible assumption))))) (Tab.below hL (by repeat (first | (with_reducible exact Below.refl _ _) | (with_reducible assumption) | (with_reducible refine bdrew ?_) | (with_reducible refine baa ?_ _) | (with_reducible refine bs ?_ (by first | exact Nat.le_refl _ | omega | (simp; done) | (simp; omega)) _) | (with_reducible refine bt ?_ (by with_reducible assumption)))))).mono ?_
  rintro e w3 ⟨rfl, hb3⟩
  obtain ⟨hc3, hf3⟩ := bcell hb3
  have hz3 := hb3.size
  try simp at hz3
  have hl3w1 : w1.heap.size < w3.heap.size := by omega
  have hm3w1 : w1.heap.size ≤ w3.heap.size := by omega
  have hl3w2 : w2.heap.size < w3.heap.size := by omega
  have hm3w2 : w2.heap.size ≤ w3.heap.size := by omega
  have g3x0 : w3.cell? ⟨w1.heap.size, 0, none⟩ = some (.int .i64 (va)) := (hc3 _ _ (by first | omega | (simp; done) | (simp; omega))).trans (by first | (with_reducible assumption) | (simp [go_sem]; done) | (simp [go_sem, *]; done) | assumption)
  have g3x1 : w3.cell? ⟨w1.heap.size, 1, none⟩ = some (.int .i64 (vb)) := (hc3 _ _ (by first | omega | (simp; done) | (simp; omega))).trans (by first | (with_reducible assumption) | (simp [go_sem]; done) | (simp [go_sem, *]; done) | assumption)
  have g3x2 : w3.cell? ⟨w1.heap.size, 2, none⟩ = some (.int .i64 (vc)) := (hc3 _ _ (by first | omega | (simp; done) | (simp; omega))).trans (by first | (with_reducible assumption) | (simp [go_sem]; done) | (simp [go_sem, *]; done) | assumption)
  have g3x3 : w3.cell? ⟨w1.heap.size, 3, none⟩ = some (.int .i64 (vq)) := (hc3 _ _ (by first | omega | (simp; done) | (simp; omega))).trans (by first | (with_reducible assumption) | (simp [go_sem]; done) | (simp [go_sem, *]; done) | assumption)
  have g3x4 : w3.cell? ⟨w2.heap.size, 0, none⟩ = some (.int .i64 (va)) := (hc3 _ _ (by first | omega | (simp; done) | (simp; omega))).trans (by first | (with_reducible assumption) | (simp [go_sem]; done) | (simp [go_sem, *]; done) | assumption)
  have g3x5 : w3.cell? ⟨w2.heap.size, 1, none⟩ = some (.int .i64 (vb)) := (hc3 _ _ (by first | omega | (simp; done) | (simp; omega))).trans (by first | (with_reducible assumption) | (simp [go_sem]; done) | (simp [go_sem, *]; done) | assumption)
  have g3x6 : w3.cell? ⟨w2.heap.size, 2, none⟩ = some (.int .i64 (vc)) := (hc3 _ _ (by first | omega | (simp; done) | (simp; omega))).trans (by first | (with_reducible assumption) | (simp [go_sem]; done) | (simp [go_sem, *]; done) | assumption)
  have g3x7 : w3.cell? ⟨w2.heap.size, 3, none⟩ = some (.int .i64 (vq)) := (hc3 _ _ (by first | omega | (simp; done) | (simp; omega))).trans (by first | (with_reducible assumption) | (simp [go_sem]; done) | (simp [go_sem, *]; done) | assumption)
  go_wp2_with fail
  go_ret
  refine ⟨by first | rfl | (simp [*]; done), ?_⟩
  repeat (first | (with_reducible exact Below.refl _ _) | (with_reducible assumption) | (with_reducible refine bdrew ?_) | (with_reducible refine baa ?_ _) | (with_reducible refine bs ?_ (by first | exact Nat.le_refl _ | omega | (simp; done) | (simp; omega)) _) | (with_reducible refine bt ?_ (by with_reducible assumption)))
theorem UntilTells_walk (y n : Int) (l : Bool) (d z k : Int) (h : Bool) (f : Int) (unit : Int) (hy : I64 y) (hn : I64 n) (hd : I64 d) (hz : I64 z) (hk : I64 k) (hf : I64 f) (hu : I64 unit) (w : World) (hT : Tab w 8 kevCells) (hL : Tab w 6 lenCells) :
    Calls Tryz.prog 7 #[.agg #[.int .i64 (y), .int .i64 (n), .bool (l), .int .i64 (d)], .agg #[.int .i64 (z), .int .i64 (k), .bool (h), .int .i64 (f)], .int .i64 unit] w fun e w' => e = .returned (.bool true) ∧ Below w.heap.size w w' := by
  obtain ⟨va, vb, vc, vq, er, hres⟩ := U17.d_some y n l d z k h f unit
  exact UntilTells_go y n l d z k h f unit va vb vc vq er w hT hL (Lib.hid (fun w hT hL => until_Date y n l d z k h f unit w hy hz hT hL va vb vc vq er (Lib.hid hres))) (Lib.hid (fun w => ref17_Date y n l d z k h f unit w hy hz va vb vc vq er (Lib.hid hres)))
end Go.Proofs.YtafenpgafmdenaaGreatDoor
