/- Layer 14: its laws. -/
import Derived.Test.YtagmdglmflcegaaGreatDoorName6
import Derived.Test.YtagmdglmflcegaaGreatDoorHebR
namespace Go.Proofs.YtagmdglmflcegaaGreatDoor
open Go.ChangeShapes Go.WideShapes Go.ChangeAt Go.RowKit
set_option linter.unusedVariables false
set_option maxRecDepth 100000
namespace D14
theorem num_of (v : Int) (k : Nat) (l : List UInt8) (hl : l.length = k + 1) (ha : l.all isDig = true) (hh : ¬ l.head? = some 48) (hv : numFold l = v) : num v = ⟨l.toArray⟩ := by
  obtain ⟨g1, g2⟩ := dd_inv k l hl ha hh
  unfold num
  rw [itoa_dd (by omega), ← hv, g2]
theorem parts_of (a b : List UInt8) (mt : ByteArray) (ha : ∀ x ∈ a, ¬ x = 32) (hb : ∀ x ∈ b, ¬ x = 32) : Parts ⟨(a ++ 32 :: (mt.data.toList ++ 32 :: b)).toArray⟩ ⟨a.toArray⟩ mt ⟨b.toArray⟩ := ⟨by simp, by simpa using ha, by simpa using hb⟩
theorem parts_a : Parts ⟨#[51, 48, 32, 65, 100, 97, 114, 32, 73, 32, 53, 55, 56, 52]⟩ ⟨#[51, 48]⟩ ⟨#[65, 100, 97, 114, 32, 73]⟩ ⟨#[53, 55, 56, 52]⟩ := parts_of [51, 48] [53, 55, 56, 52] ⟨#[65, 100, 97, 114, 32, 73]⟩ (by decide) (by decide)
theorem parts_b : Parts ⟨#[51, 48, 32, 65, 100, 97, 114, 32, 73, 32, 53, 55, 56, 53]⟩ ⟨#[51, 48]⟩ ⟨#[65, 100, 97, 114, 32, 73]⟩ ⟨#[53, 55, 56, 53]⟩ := parts_of [51, 48] [53, 55, 56, 53] ⟨#[65, 100, 97, 114, 32, 73]⟩ (by decide) (by decide)
theorem words_a : wordsV 5784 5 true 30 = ⟨#[51, 48, 32, 65, 100, 97, 114, 32, 73, 32, 53, 55, 56, 52]⟩ := by
  have h1 : num 30 = ⟨#[51, 48]⟩ := num_of 30 1 [51, 48] rfl (by decide) (by decide) (by decide)
  have h2 : num 5784 = ⟨#[53, 55, 56, 52]⟩ := num_of 5784 3 [53, 55, 56, 52] rfl (by decide) (by decide) (by decide)
  have : wordsV 5784 5 true 30 = num 30 ++ ⟨#[32]⟩ ++ nameV 5784 5 true ++ ⟨#[32]⟩ ++ num 5784 := rfl
  rw [this, h1, h2]
  rfl
theorem row_a : isRow ⟨#[65, 100, 97, 114, 32, 73]⟩ 5 true := by simp [isRow, rows]
end D14
theorem read_a (w : World) (hT : Tab w 2 kevCells) (hL : Tab w 3 lenCells) (hN : Tab w 0 nameCells) (hI : Lib.TabIs Tryz.prog w "internal/strconv.uint64pow10" .u64 Lib.pow10Tab) (m : Int) (hm : MaxAt w m) : Calls Tryz.prog 13 #[.string ⟨#[51, 48, 32, 65, 100, 97, 114, 32, 73, 32, 53, 55, 56, 52]⟩] w fun e w' => e = .returned (.tuple #[.agg #[.int .i64 (5784), .int .i64 (5), .bool (true), .int .i64 (30)], .int .i64 (0)]) ∧ Below w.heap.size w w' := by
  obtain ⟨ry, rn, rl, rd, er, hR, hc⟩ := name_Read ⟨#[51, 48, 32, 65, 100, 97, 114, 32, 73, 32, 53, 55, 56, 52]⟩ (by decide) m
  rcases hR.parts D14.parts_a (by decide) (by decide) D14.row_a with ⟨_, _, _, _, _, h⟩ | ⟨rfl, rfl, rfl, rfl, rfl, _⟩
  · exact absurd ⟨by decide +kernel, .inl (by decide +kernel)⟩ h
  · exact hc w hT hL hN hm
theorem read_b (w : World) (hT : Tab w 2 kevCells) (hL : Tab w 3 lenCells) (hN : Tab w 0 nameCells) (hI : Lib.TabIs Tryz.prog w "internal/strconv.uint64pow10" .u64 Lib.pow10Tab) (m : Int) (hm : MaxAt w m) : Calls Tryz.prog 13 #[.string ⟨#[51, 48, 32, 65, 100, 97, 114, 32, 73, 32, 53, 55, 56, 53]⟩] w fun e w' => e = .returned (.tuple #[.agg #[.int .i64 (0), .int .i64 (0), .bool (false), .int .i64 (0)], .int .i64 (2)]) ∧ Below w.heap.size w w' := by
  obtain ⟨ry, rn, rl, rd, er, hR, hc⟩ := name_Read ⟨#[51, 48, 32, 65, 100, 97, 114, 32, 73, 32, 53, 55, 56, 53]⟩ (by decide) m
  rcases hR.parts D14.parts_b (by decide) (by decide) D14.row_a with ⟨rfl, rfl, rfl, rfl, rfl, h⟩ | ⟨_, _, _, _, _, h, _⟩
  · exact hc w hT hL hN hm
  · exact absurd h (by decide +kernel)
theorem print_a (w : World) (hT : Tab w 2 kevCells) (hL : Tab w 3 lenCells) (hN : Tab w 0 nameCells) (hI : Lib.TabIs Tryz.prog w "internal/strconv.uint64pow10" .u64 Lib.pow10Tab) (m : Int) (hm : MaxAt w m) : Calls Tryz.prog 11 #[.agg #[.int .i64 (5784), .int .i64 (5), .bool (true), .int .i64 (30)]] w fun e w' => e = .returned (.tuple #[.string ⟨#[51, 48, 32, 65, 100, 97, 114, 32, 73, 32, 53, 55, 56, 52]⟩, .int .i64 0]) ∧ Below w.heap.size w w' := by
  have h := name_Print 5784 5 true 30 w ⟨by omega, by omega⟩ ⟨by omega, by omega⟩ hT hL hN hI
  rw [show D10.dateE 5784 5 true 30 = 0 by decide +kernel, if_pos rfl, D14.words_a] at h
  exact h
set_option maxHeartbeats 2000000 in
theorem awake14 (w : World) (hT : Tab w 2 kevCells) (hL : Tab w 3 lenCells) (hN : Tab w 0 nameCells) (hI : Lib.TabIs Tryz.prog w "internal/strconv.uint64pow10" .u64 Lib.pow10Tab) (m : Int) (hm : MaxAt w m) : Calls Tryz.prog 8 #[] w fun e w' => e = .returned (.bool true) ∧ Below w.heap.size w w' := by
  go_enter Tryz.func8, Tryz.ntmps8
  go_wp2_with fail
  refine (read_a _ (Tab.below hT (by repeat (first | (with_reducible exact Below.refl _ _) | (with_reducible assumption) | (with_reducible refine bdrew ?_) | (with_reducible refine baa ?_ _) | (with_reducible refine bs ?_ (by first | exact Nat.le_refl _ | omega | (simp; done) | (simp; omega)) _) | (with_reducible refine bt ?_ (by with_reducible assumption))))) (Tab.below hL (by repeat (first | (with_reducible exact Below.refl _ _) | (with_reducible assumption) | (with_reducible refine bdrew ?_) | (with_reducible refine baa ?_ _) | (with_reducible refine bs ?_ (by first | exact Nat.le_refl _ | omega | (simp; done) | (simp; omega)) _) | (with_reducible refine bt ?_ (by with_reducible assumption))))) (Tab.below hN (by repeat (first | (with_reducible exact Below.refl _ _) | (with_reducible assumption) | (with_reducible refine bdrew ?_) | (with_reducible refine baa ?_ _) | (with_reducible refine bs ?_ (by first | exact Nat.le_refl _ | omega | (simp; done) | (simp; omega)) _) | (with_reducible refine bt ?_ (by with_reducible assumption))))) (pow_stays hI (by repeat (first | (with_reducible exact Below.refl _ _) | (with_reducible assumption) | (with_reducible refine bdrew ?_) | (with_reducible refine baa ?_ _) | (with_reducible refine bs ?_ (by first | exact Nat.le_refl _ | omega | (simp; done) | (simp; omega)) _) | (with_reducible refine bt ?_ (by with_reducible assumption))))) m (MaxAt.below hm (by repeat (first | (with_reducible exact Below.refl _ _) | (with_reducible assumption) | (with_reducible refine bdrew ?_) | (with_reducible refine baa ?_ _) | (with_reducible refine bs ?_ (by first | exact Nat.le_refl _ | omega | (simp; done) | (simp; omega)) _) | (with_reducible refine bt ?_ (by with_reducible assumption)))))).mono ?_
  rintro e w1 ⟨rfl, hb1⟩
  obtain ⟨hc1, hf1⟩ := bcell hb1
  have hz1 := hb1.size
  try simp at hz1
  go_wp2_with fail
  refine (print_a _ (Tab.below hT (by repeat (first | (with_reducible exact Below.refl _ _) | (with_reducible assumption) | (with_reducible refine bdrew ?_) | (with_reducible refine baa ?_ _) | (with_reducible refine bs ?_ (by first | exact Nat.le_refl _ | omega | (simp; done) | (simp; omega)) _) | (with_reducible refine bt ?_ (by with_reducible assumption))))) (Tab.below hL (by repeat (first | (with_reducible exact Below.refl _ _) | (with_reducible assumption) | (with_reducible refine bdrew ?_) | (with_reducible refine baa ?_ _) | (with_reducible refine bs ?_ (by first | exact Nat.le_refl _ | omega | (simp; done) | (simp; omega)) _) | (with_reducible refine bt ?_ (by with_reducible assumption))))) (Tab.below hN (by repeat (first | (with_reducible exact Below.refl _ _) | (with_reducible assumption) | (with_reducible refine bdrew ?_) | (with_reducible refine baa ?_ _) | (with_reducible refine bs ?_ (by first | exact Nat.le_refl _ | omega | (simp; done) | (simp; omega)) _) | (with_reducible refine bt ?_ (by with_reducible assumption))))) (pow_stays hI (by repeat (first | (with_reducible exact Below.refl _ _) | (with_reducible assumption) | (with_reducible refine bdrew ?_) | (with_reducible refine baa ?_ _) | (with_reducible refine bs ?_ (by first | exact Nat.le_refl _ | omega | (simp; done) | (simp; omega)) _) | (with_reducible refine bt ?_ (by with_reducible assumption))))) m (MaxAt.below hm (by repeat (first | (with_reducible exact Below.refl _ _) | (with_reducible assumption) | (with_reducible refine bdrew ?_) | (with_reducible refine baa ?_ _) | (with_reducible refine bs ?_ (by first | exact Nat.le_refl _ | omega | (simp; done) | (simp; omega)) _) | (with_reducible refine bt ?_ (by with_reducible assumption)))))).mono ?_
  rintro e w2 ⟨rfl, hb2⟩
  obtain ⟨hc2, hf2⟩ := bcell hb2
  have hz2 := hb2.size
  try simp at hz2
  have hl2w1 : w1.heap.size < w2.heap.size := by omega
  have hm2w1 : w1.heap.size ≤ w2.heap.size := by omega
  have g2x0 : w2.cell? ⟨w1.heap.size, 0, none⟩ = some (.int .i64 (5784)) := (hc2 _ _ (by first | omega | (simp; done) | (simp; omega))).trans (by first | (with_reducible assumption) | (simp [go_sem]; done) | (simp [go_sem, *]; done) | assumption)
  have g2x1 : w2.cell? ⟨w1.heap.size, 1, none⟩ = some (.int .i64 (5)) := (hc2 _ _ (by first | omega | (simp; done) | (simp; omega))).trans (by first | (with_reducible assumption) | (simp [go_sem]; done) | (simp [go_sem, *]; done) | assumption)
  have g2x2 : w2.cell? ⟨w1.heap.size, 2, none⟩ = some (.bool (true)) := (hc2 _ _ (by first | omega | (simp; done) | (simp; omega))).trans (by first | (with_reducible assumption) | (simp [go_sem]; done) | (simp [go_sem, *]; done) | assumption)
  have g2x3 : w2.cell? ⟨w1.heap.size, 3, none⟩ = some (.int .i64 (30)) := (hc2 _ _ (by first | omega | (simp; done) | (simp; omega))).trans (by first | (with_reducible assumption) | (simp [go_sem]; done) | (simp [go_sem, *]; done) | assumption)
  go_wp2_with fail
  refine (read_b _ (Tab.below hT (by repeat (first | (with_reducible exact Below.refl _ _) | (with_reducible assumption) | (with_reducible refine bdrew ?_) | (with_reducible refine baa ?_ _) | (with_reducible refine bs ?_ (by first | exact Nat.le_refl _ | omega | (simp; done) | (simp; omega)) _) | (with_reducible refine bt ?_ (by with_reducible assumption))))) (Tab.below hL (by repeat (first | (with_reducible exact Below.refl _ _) | (with_reducible assumption) | (with_reducible refine bdrew ?_) | (with_reducible refine baa ?_ _) | (with_reducible refine bs ?_ (by first | exact Nat.le_refl _ | omega | (simp; done) | (simp; omega)) _) | (with_reducible refine bt ?_ (by with_reducible assumption))))) (Tab.below hN (by repeat (first | (with_reducible exact Below.refl _ _) | (with_reducible assumption) | (with_reducible refine bdrew ?_) | (with_reducible refine baa ?_ _) | (with_reducible refine bs ?_ (by first | exact Nat.le_refl _ | omega | (simp; done) | (simp; omega)) _) | (with_reducible refine bt ?_ (by with_reducible assumption))))) (pow_stays hI (by repeat (first | (with_reducible exact Below.refl _ _) | (with_reducible assumption) | (with_reducible refine bdrew ?_) | (with_reducible refine baa ?_ _) | (with_reducible refine bs ?_ (by first | exact Nat.le_refl _ | omega | (simp; done) | (simp; omega)) _) | (with_reducible refine bt ?_ (by with_reducible assumption))))) m (MaxAt.below hm (by repeat (first | (with_reducible exact Below.refl _ _) | (with_reducible assumption) | (with_reducible refine bdrew ?_) | (with_reducible refine baa ?_ _) | (with_reducible refine bs ?_ (by first | exact Nat.le_refl _ | omega | (simp; done) | (simp; omega)) _) | (with_reducible refine bt ?_ (by with_reducible assumption)))))).mono ?_
  rintro e w3 ⟨rfl, hb3⟩
  obtain ⟨hc3, hf3⟩ := bcell hb3
  have hz3 := hb3.size
  try simp at hz3
  have hl3w1 : w1.heap.size < w3.heap.size := by omega
  have hm3w1 : w1.heap.size ≤ w3.heap.size := by omega
  have g3x0 : w3.cell? ⟨w1.heap.size, 0, none⟩ = some (.int .i64 (5784)) := (hc3 _ _ (by first | omega | (simp; done) | (simp; omega))).trans (by first | (with_reducible assumption) | (simp [go_sem]; done) | (simp [go_sem, *]; done) | assumption)
  have g3x1 : w3.cell? ⟨w1.heap.size, 1, none⟩ = some (.int .i64 (5)) := (hc3 _ _ (by first | omega | (simp; done) | (simp; omega))).trans (by first | (with_reducible assumption) | (simp [go_sem]; done) | (simp [go_sem, *]; done) | assumption)
  have g3x2 : w3.cell? ⟨w1.heap.size, 2, none⟩ = some (.bool (true)) := (hc3 _ _ (by first | omega | (simp; done) | (simp; omega))).trans (by first | (with_reducible assumption) | (simp [go_sem]; done) | (simp [go_sem, *]; done) | assumption)
  have g3x3 : w3.cell? ⟨w1.heap.size, 3, none⟩ = some (.int .i64 (30)) := (hc3 _ _ (by first | omega | (simp; done) | (simp; omega))).trans (by first | (with_reducible assumption) | (simp [go_sem]; done) | (simp [go_sem, *]; done) | assumption)
  go_wp2_with fail
  go_ret
  refine ⟨by first | rfl | (simp [*]; done), ?_⟩
  repeat (first | (with_reducible exact Below.refl _ _) | (with_reducible assumption) | (with_reducible refine bdrew ?_) | (with_reducible refine baa ?_ _) | (with_reducible refine bs ?_ (by first | exact Nat.le_refl _ | omega | (simp; done) | (simp; omega)) _) | (with_reducible refine bt ?_ (by with_reducible assumption)))
end Go.Proofs.YtagmdglmflcegaaGreatDoor
