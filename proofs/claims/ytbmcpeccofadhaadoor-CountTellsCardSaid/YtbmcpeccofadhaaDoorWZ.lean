/- Merged: W27, W27t. -/
import Derived.Test.YtbmcpeccofadhaaDoorCount2
import Derived.Test.YtbmcpeccofadhaaDoorHebR
import Derived.Test.YtbmcpeccofadhaaDoorCountM
/- Layer 27: CountBack. -/
namespace Go.Proofs.YtbmcpeccofadhaaDoor
open Go.ChangeShapes Go.WideShapes Go.ChangeAt Go.RowKit
set_option linter.unusedVariables false
set_option maxRecDepth 100000
theorem count_a (w : World) (hT : Tab w 1 kevCells) (hL : Tab w 0 lenCells) : Calls Tryd.prog 12 #[.agg #[.int .i64 (5784), .int .i64 (12), .bool (false), .int .i64 (29)]] w fun e w' => e = .returned (.tuple #[.agg #[.int .i64 (5785), .int .i64 (1), .bool (false), .int .i64 (1)], .int .i64 (0)]) ∧ Below w.heap.size w w' :=
  count_Next 5784 12 false 29 w ⟨by omega, by omega⟩ hT hL 5785 1 false 1 0 (.inr (.inr ⟨by decide +kernel, rfl, by decide +kernel, by decide +kernel⟩))
theorem count_b (w : World) (hT : Tab w 1 kevCells) (hL : Tab w 0 lenCells) : Calls Tryd.prog 14 #[.agg #[.int .i64 (5785), .int .i64 (1), .bool (false), .int .i64 (1)]] w fun e w' => e = .returned (.tuple #[.agg #[.int .i64 (5784), .int .i64 (12), .bool (false), .int .i64 (29)], .int .i64 (0)]) ∧ Below w.heap.size w w' :=
  count_Ahead 5785 1 false 1 w ⟨by omega, by omega⟩ hT hL 5784 12 false 29 0 (.inr (.inr ⟨by decide +kernel, rfl, by decide +kernel, by decide +kernel⟩))
theorem count_c (w : World) (hT : Tab w 1 kevCells) (hL : Tab w 0 lenCells) : Calls Tryd.prog 12 #[.agg #[.int .i64 (9999), .int .i64 (12), .bool (false), .int .i64 (29)]] w fun e w' => e = .returned (.tuple #[.agg #[.int .i64 (0), .int .i64 (0), .bool (false), .int .i64 (0)], .int .i64 (2)]) ∧ Below w.heap.size w w' :=
  count_Next 9999 12 false 29 w ⟨by omega, by omega⟩ hT hL 0 0 false 0 2 (.inr (.inl ⟨by decide +kernel, by decide +kernel, rfl, rfl, rfl, rfl, rfl⟩))
set_option maxHeartbeats 2000000 in
theorem awake27 (w : World) (hT : Tab w 1 kevCells) (hL : Tab w 0 lenCells) : Calls Tryd.prog 20 #[] w fun e w' => e = .returned (.bool true) ∧ Below w.heap.size w w' := by
  go_enter Tryd.func20, Tryd.ntmps20
  go_wp2_with fail
  refine (count_a _ (Tab.below hT (by repeat (first | (with_reducible exact Below.refl _ _) | (with_reducible assumption) | (with_reducible refine bdrew ?_) | (with_reducible refine baa ?_ _) | (with_reducible refine bs ?_ (by first | exact Nat.le_refl _ | omega | (simp; done) | (simp; omega)) _) | (with_reducible refine bt ?_ (by with_reducible assumption))))) (Tab.below hL (by repeat (first | (with_reducible exact Below.refl _ _) | (with_reducible assumption) | (with_reducible refine bdrew ?_) | (with_reducible refine baa ?_ _) | (with_reducible refine bs ?_ (by first | exact Nat.le_refl _ | omega | (simp; done) | (simp; omega)) _) | (with_reducible refine bt ?_ (by with_reducible assumption)))))).mono ?_
  rintro e w1 ⟨rfl, hb1⟩
  obtain ⟨hc1, hf1⟩ := bcell hb1
  have hz1 := hb1.size
  try simp at hz1
  have hs1x0 : w.heap.size < w1.heap.size := by omega
  have g1x0 : w1.cell? ⟨w.heap.size, 0, none⟩ = some (.int .i64 (5784)) := (hc1 _ _ (by first | omega | (simp; done) | (simp; omega))).trans (by first | (with_reducible assumption) | (simp [go_sem]; done) | (simp [go_sem, *]; done) | assumption)
  have g1x1 : w1.cell? ⟨w.heap.size, 1, none⟩ = some (.int .i64 (12)) := (hc1 _ _ (by first | omega | (simp; done) | (simp; omega))).trans (by first | (with_reducible assumption) | (simp [go_sem]; done) | (simp [go_sem, *]; done) | assumption)
  have g1x2 : w1.cell? ⟨w.heap.size, 2, none⟩ = some (.bool (false)) := (hc1 _ _ (by first | omega | (simp; done) | (simp; omega))).trans (by first | (with_reducible assumption) | (simp [go_sem]; done) | (simp [go_sem, *]; done) | assumption)
  have g1x3 : w1.cell? ⟨w.heap.size, 3, none⟩ = some (.int .i64 (29)) := (hc1 _ _ (by first | omega | (simp; done) | (simp; omega))).trans (by first | (with_reducible assumption) | (simp [go_sem]; done) | (simp [go_sem, *]; done) | assumption)
  go_wp2_with fail
  refine (count_b _ (Tab.below hT (by repeat (first | (with_reducible exact Below.refl _ _) | (with_reducible assumption) | (with_reducible refine bdrew ?_) | (with_reducible refine baa ?_ _) | (with_reducible refine bs ?_ (by first | exact Nat.le_refl _ | omega | (simp; done) | (simp; omega)) _) | (with_reducible refine bt ?_ (by with_reducible assumption))))) (Tab.below hL (by repeat (first | (with_reducible exact Below.refl _ _) | (with_reducible assumption) | (with_reducible refine bdrew ?_) | (with_reducible refine baa ?_ _) | (with_reducible refine bs ?_ (by first | exact Nat.le_refl _ | omega | (simp; done) | (simp; omega)) _) | (with_reducible refine bt ?_ (by with_reducible assumption)))))).mono ?_
  rintro e w2 ⟨rfl, hb2⟩
  obtain ⟨hc2, hf2⟩ := bcell hb2
  have hz2 := hb2.size
  try simp at hz2
  have hl2w1 : w1.heap.size < w2.heap.size := by omega
  have hm2w1 : w1.heap.size ≤ w2.heap.size := by omega
  have hs2x0 : w.heap.size < w2.heap.size := by omega
  have g2x0 : w2.cell? ⟨w.heap.size, 0, none⟩ = some (.int .i64 (5784)) := (hc2 _ _ (by first | omega | (simp; done) | (simp; omega))).trans (by first | (with_reducible assumption) | (simp [go_sem]; done) | (simp [go_sem, *]; done) | assumption)
  have g2x1 : w2.cell? ⟨w.heap.size, 1, none⟩ = some (.int .i64 (12)) := (hc2 _ _ (by first | omega | (simp; done) | (simp; omega))).trans (by first | (with_reducible assumption) | (simp [go_sem]; done) | (simp [go_sem, *]; done) | assumption)
  have g2x2 : w2.cell? ⟨w.heap.size, 2, none⟩ = some (.bool (false)) := (hc2 _ _ (by first | omega | (simp; done) | (simp; omega))).trans (by first | (with_reducible assumption) | (simp [go_sem]; done) | (simp [go_sem, *]; done) | assumption)
  have g2x3 : w2.cell? ⟨w.heap.size, 3, none⟩ = some (.int .i64 (29)) := (hc2 _ _ (by first | omega | (simp; done) | (simp; omega))).trans (by first | (with_reducible assumption) | (simp [go_sem]; done) | (simp [go_sem, *]; done) | assumption)
  have g2x4 : w2.cell? ⟨w1.heap.size, 0, none⟩ = some (.int .i64 (5785)) := (hc2 _ _ (by first | omega | (simp; done) | (simp; omega))).trans (by first | (with_reducible assumption) | (simp [go_sem]; done) | (simp [go_sem, *]; done) | assumption)
  have g2x5 : w2.cell? ⟨w1.heap.size, 1, none⟩ = some (.int .i64 (1)) := (hc2 _ _ (by first | omega | (simp; done) | (simp; omega))).trans (by first | (with_reducible assumption) | (simp [go_sem]; done) | (simp [go_sem, *]; done) | assumption)
  have g2x6 : w2.cell? ⟨w1.heap.size, 2, none⟩ = some (.bool (false)) := (hc2 _ _ (by first | omega | (simp; done) | (simp; omega))).trans (by first | (with_reducible assumption) | (simp [go_sem]; done) | (simp [go_sem, *]; done) | assumption)
  have g2x7 : w2.cell? ⟨w1.heap.size, 3, none⟩ = some (.int .i64 (1)) := (hc2 _ _ (by first | omega | (simp; done) | (simp; omega))).trans (by first | (with_reducible assumption) | (simp [go_sem]; done) | (simp [go_sem, *]; done) | assumption)
  go_wp2_with fail
  refine (count_c _ (Tab.below hT (by repeat (first | (with_reducible exact Below.refl _ _) | (with_reducible assumption) | (with_reducible refine bdrew ?_) | (with_reducible refine baa ?_ _) | (with_reducible refine bs ?_ (by first | exact Nat.le_refl _ | omega | (simp; done) | (simp; omega)) _) | (with_reducible refine bt ?_ (by with_reducible assumption))))) (Tab.below hL (by repeat (first | (with_reducible exact Below.refl _ _) | (with_reducible assumption) | (with_reducible refine bdrew ?_) | (with_reducible refine baa ?_ _) | (with_reducible refine bs ?_ (by first | exact Nat.le_refl _ | omega | (simp; done) | (simp; omega)) _) | (with_reducible refine bt ?_ (by with_reducible assumption)))))).mono ?_
  rintro e w3 ⟨rfl, hb3⟩
  obtain ⟨hc3, hf3⟩ := bcell hb3
  have hz3 := hb3.size
  try simp at hz3
  have hl3w1 : w1.heap.size < w3.heap.size := by omega
  have hm3w1 : w1.heap.size ≤ w3.heap.size := by omega
  have hl3w2 : w2.heap.size < w3.heap.size := by omega
  have hm3w2 : w2.heap.size ≤ w3.heap.size := by omega
  have hs3x0 : w.heap.size < w3.heap.size := by omega
  have g3x0 : w3.cell? ⟨w.heap.size, 0, none⟩ = some (.int .i64 (5784)) := (hc3 _ _ (by first | omega | (simp; done) | (simp; omega))).trans (by first | (with_reducible assumption) | (simp [go_sem]; done) | (simp [go_sem, *]; done) | assumption)
  have g3x1 : w3.cell? ⟨w.heap.size, 1, none⟩ = some (.int .i64 (12)) := (hc3 _ _ (by first | omega | (simp; done) | (simp; omega))).trans (by first | (with_reducible assumption) | (simp [go_sem]; done) | (simp [go_sem, *]; done) | assumption)
  have g3x2 : w3.cell? ⟨w.heap.size, 2, none⟩ = some (.bool (false)) := (hc3 _ _ (by first | omega | (simp; done) | (simp; omega))).trans (by first | (with_reducible assumption) | (simp [go_sem]; done) | (simp [go_sem, *]; done) | assumption)
  have g3x3 : w3.cell? ⟨w.heap.size, 3, none⟩ = some (.int .i64 (29)) := (hc3 _ _ (by first | omega | (simp; done) | (simp; omega))).trans (by first | (with_reducible assumption) | (simp [go_sem]; done) | (simp [go_sem, *]; done) | assumption)
  have g3x4 : w3.cell? ⟨w1.heap.size, 0, none⟩ = some (.int .i64 (5785)) := (hc3 _ _ (by first | omega | (simp; done) | (simp; omega))).trans (by first | (with_reducible assumption) | (simp [go_sem]; done) | (simp [go_sem, *]; done) | assumption)
  have g3x5 : w3.cell? ⟨w1.heap.size, 1, none⟩ = some (.int .i64 (1)) := (hc3 _ _ (by first | omega | (simp; done) | (simp; omega))).trans (by first | (with_reducible assumption) | (simp [go_sem]; done) | (simp [go_sem, *]; done) | assumption)
  have g3x6 : w3.cell? ⟨w1.heap.size, 2, none⟩ = some (.bool (false)) := (hc3 _ _ (by first | omega | (simp; done) | (simp; omega))).trans (by first | (with_reducible assumption) | (simp [go_sem]; done) | (simp [go_sem, *]; done) | assumption)
  have g3x7 : w3.cell? ⟨w1.heap.size, 3, none⟩ = some (.int .i64 (1)) := (hc3 _ _ (by first | omega | (simp; done) | (simp; omega))).trans (by first | (with_reducible assumption) | (simp [go_sem]; done) | (simp [go_sem, *]; done) | assumption)
  have g3x8 : w3.cell? ⟨w2.heap.size, 0, none⟩ = some (.int .i64 (5784)) := (hc3 _ _ (by first | omega | (simp; done) | (simp; omega))).trans (by first | (with_reducible assumption) | (simp [go_sem]; done) | (simp [go_sem, *]; done) | assumption)
  have g3x9 : w3.cell? ⟨w2.heap.size, 1, none⟩ = some (.int .i64 (12)) := (hc3 _ _ (by first | omega | (simp; done) | (simp; omega))).trans (by first | (with_reducible assumption) | (simp [go_sem]; done) | (simp [go_sem, *]; done) | assumption)
  have g3x10 : w3.cell? ⟨w2.heap.size, 2, none⟩ = some (.bool (false)) := (hc3 _ _ (by first | omega | (simp; done) | (simp; omega))).trans (by first | (with_reducible assumption) | (simp [go_sem]; done) | (simp [go_sem, *]; done) | assumption)
  have g3x11 : w3.cell? ⟨w2.heap.size, 3, none⟩ = some (.int .i64 (29)) := (hc3 _ _ (by first | omega | (simp; done) | (simp; omega))).trans (by first | (with_reducible assumption) | (simp [go_sem]; done) | (simp [go_sem, *]; done) | assumption)
  go_wp2_with fail
  go_ret
  refine ⟨by first | rfl | (simp [*]; done), ?_⟩
  repeat (first | (with_reducible exact Below.refl _ _) | (with_reducible assumption) | (with_reducible refine bdrew ?_) | (with_reducible refine baa ?_ _) | (with_reducible refine bs ?_ (by first | exact Nat.le_refl _ | omega | (simp; done) | (simp; omega)) _) | (with_reducible refine bt ?_ (by with_reducible assumption)))
end Go.Proofs.YtbmcpeccofadhaaDoor
/- Layer 27: CountTells. -/
namespace Go.Proofs.YtbmcpeccofadhaaDoor
open Go.ChangeShapes Go.WideShapes Go.ChangeAt Go.RowKit
set_option linter.unusedVariables false
set_option maxRecDepth 100000
set_option maxHeartbeats 8000000 in
theorem CountTells_go (ay an : Int) (al : Bool) (ad : Int) (by_ bn : Int) (bl : Bool) (bd : Int) (cy cn : Int) (cl : Bool) (cd : Int) (xy xn : Int) (xl : Bool) (xd : Int) (sy sn : Int) (sl : Bool) (sd : Int) (n e1 e2 e3 k e4 : Int) (w : World) (hT : Tab w 1 kevCells) (hL : Tab w 0 lenCells) 
    (HN : Hid (∀ w : World, Tab w 1 kevCells → Tab w 0 lenCells → Calls Tryd.prog 12 #[.agg #[.int .i64 (ay), .int .i64 (an), .bool (al), .int .i64 (ad)]] w fun e w' => e = .returned (.tuple #[.agg #[.int .i64 (cy), .int .i64 (cn), .bool (cl), .int .i64 (cd)], .int .i64 (e1)]) ∧ Below w.heap.size w w')) (RNx : Hid (∀ w : World, Calls Tryd.prog 13 #[.agg #[.int .i64 (ay), .int .i64 (an), .bool (al), .int .i64 (ad)]] w fun e w' => e = .returned (.tuple #[.agg #[.int .i64 (cy), .int .i64 (cn), .bool (cl), .int .i64 (cd)], .int .i64 (e1)]) ∧ Below w.heap.size w w')) (HA : Hid (∀ w : World, Tab w 1 kevCells → Tab w 0 lenCells → Calls Tryd.prog 14 #[.agg #[.int .i64 (ay), .int .i64 (an), .bool (al), .int .i64 (ad)]] w fun e w' => e = .returned (.tuple #[.agg #[.int .i64 (xy), .int .i64 (xn), .bool (xl), .int .i64 (xd)], .int .i64 (e2)]) ∧ Below w.heap.size w w')) (RAx : Hid (∀ w : World, Calls Tryd.prog 15 #[.agg #[.int .i64 (ay), .int .i64 (an), .bool (al), .int .i64 (ad)]] w fun e w' => e = .returned (.tuple #[.agg #[.int .i64 (xy), .int .i64 (xn), .bool (xl), .int .i64 (xd)], .int .i64 (e2)]) ∧ Below w.heap.size w w')) 
    (HS : Hid (∀ w : World, Tab w 1 kevCells → Tab w 0 lenCells → Calls Tryd.prog 16 #[.agg #[.int .i64 (ay), .int .i64 (an), .bool (al), .int .i64 (ad)], .int .i64 n] w fun e w' => e = .returned (.tuple #[.agg #[.int .i64 (sy), .int .i64 (sn), .bool (sl), .int .i64 (sd)], .int .i64 (e3)]) ∧ Below w.heap.size w w')) (RSx : Hid (∀ w : World, Calls Tryd.prog 17 #[.agg #[.int .i64 (ay), .int .i64 (an), .bool (al), .int .i64 (ad)], .int .i64 n] w fun e w' => e = .returned (.tuple #[.agg #[.int .i64 (sy), .int .i64 (sn), .bool (sl), .int .i64 (sd)], .int .i64 (e3)]) ∧ Below w.heap.size w w')) (HB : Hid (∀ w : World, Tab w 1 kevCells → Tab w 0 lenCells → Calls Tryd.prog 18 #[.agg #[.int .i64 (ay), .int .i64 (an), .bool (al), .int .i64 (ad)], .agg #[.int .i64 (by_), .int .i64 (bn), .bool (bl), .int .i64 (bd)], .int .i64 n] w fun e w' => e = .returned (.tuple #[.int .i64 k, .int .i64 e4]) ∧ Below w.heap.size w w')) (RBx : Hid (∀ w : World, Calls Tryd.prog 19 #[.agg #[.int .i64 (ay), .int .i64 (an), .bool (al), .int .i64 (ad)], .agg #[.int .i64 (by_), .int .i64 (bn), .bool (bl), .int .i64 (bd)], .int .i64 n] w fun e w' => e = .returned (.tuple #[.int .i64 k, .int .i64 e4]) ∧ Below w.heap.size w w')) :
    Calls Tryd.prog 5 #[.agg #[.int .i64 (ay), .int .i64 (an), .bool (al), .int .i64 (ad)], .agg #[.int .i64 (by_), .int .i64 (bn), .bool (bl), .int .i64 (bd)], .int .i64 n] w fun e w' => e = .returned (.bool true) ∧ Below w.heap.size w w' := by
  go_enter Tryd.func5, Tryd.ntmps5
  go_wp2_with fail
  refine (HN.out _ (Tab.below hT (by repeat (first | (with_reducible exact Below.refl _ _) | (with_reducible assumption) | (with_reducible refine bdrew ?_) | (with_reducible refine baa ?_ _) | (with_reducible refine bs ?_ (by first | exact Nat.le_refl _ | omega | (simp; done) | (simp; omega)) _) | (with_reducible refine bt ?_ (by with_reducible assumption))))) (Tab.below hL (by repeat (first | (with_reducible exact Below.refl _ _) | (with_reducible assumption) | (with_reducible refine bdrew ?_) | (with_reducible refine baa ?_ _) | (with_reducible refine bs ?_ (by first | exact Nat.le_refl _ | omega | (simp; done) | (simp; omega)) _) | (with_reducible refine bt ?_ (by with_reducible assumption)))))).mono ?_
  rintro e w1 ⟨rfl, hb1⟩
  obtain ⟨hc1, hf1⟩ := bcell hb1
  have hz1 := hb1.size
  try simp at hz1
  have hs1x0 : w.heap.size < w1.heap.size := by omega
  have hs1x1 : (w.heap.size + 1) < w1.heap.size := by omega
  have g1x0 : w1.cell? ⟨w.heap.size, 0, none⟩ = some (.int .i64 (ay)) := (hc1 _ _ (by first | omega | (simp; done) | (simp; omega))).trans (by first | (with_reducible assumption) | (simp [go_sem]; done) | (simp [go_sem, *]; done) | assumption)
  have g1x1 : w1.cell? ⟨w.heap.size, 1, none⟩ = some (.int .i64 (an)) := (hc1 _ _ (by first | omega | (simp; done) | (simp; omega))).trans (by first | (with_reducible assumption) | (simp [go_sem]; done) | (simp [go_sem, *]; done) | assumption)
  have g1x2 : w1.cell? ⟨w.heap.size, 2, none⟩ = some (.bool (al)) := (hc1 _ _ (by first | omega | (simp; done) | (simp; omega))).trans (by first | (with_reducible assumption) | (simp [go_sem]; done) | (simp [go_sem, *]; done) | assumption)
  have g1x3 : w1.cell? ⟨w.heap.size, 3, none⟩ = some (.int .i64 (ad)) := (hc1 _ _ (by first | omega | (simp; done) | (simp; omega))).trans (by first | (with_reducible assumption) | (simp [go_sem]; done) | (simp [go_sem, *]; done) | assumption)
  have g1x4 : w1.cell? ⟨(w.heap.size + 1), 0, none⟩ = some (.int .i64 (by_)) := (hc1 _ _ (by first | omega | (simp; done) | (simp; omega))).trans (by first | (with_reducible assumption) | (simp [go_sem]; done) | (simp [go_sem, *]; done) | assumption)
  have g1x5 : w1.cell? ⟨(w.heap.size + 1), 1, none⟩ = some (.int .i64 (bn)) := (hc1 _ _ (by first | omega | (simp; done) | (simp; omega))).trans (by first | (with_reducible assumption) | (simp [go_sem]; done) | (simp [go_sem, *]; done) | assumption)
  have g1x6 : w1.cell? ⟨(w.heap.size + 1), 2, none⟩ = some (.bool (bl)) := (hc1 _ _ (by first | omega | (simp; done) | (simp; omega))).trans (by first | (with_reducible assumption) | (simp [go_sem]; done) | (simp [go_sem, *]; done) | assumption)
  have g1x7 : w1.cell? ⟨(w.heap.size + 1), 3, none⟩ = some (.int .i64 (bd)) := (hc1 _ _ (by first | omega | (simp; done) | (simp; omega))).trans (by first | (with_reducible assumption) | (simp [go_sem]; done) | (simp [go_sem, *]; done) | assumption)
  go_wp2_with fail
  refine (RNx.out _).mono ?_
  rintro e w2 ⟨rfl, hb2⟩
  obtain ⟨hc2, hf2⟩ := bcell hb2
  have hz2 := hb2.size
  try simp at hz2
  have hl2w1 : w1.heap.size < w2.heap.size := by omega
  have hm2w1 : w1.heap.size ≤ w2.heap.size := by omega
  have hs2x0 : w.heap.size < w2.heap.size := by omega
  have hs2x1 : (w.heap.size + 1) < w2.heap.size := by omega
  have g2x0 : w2.cell? ⟨w.heap.size, 0, none⟩ = some (.int .i64 (ay)) := (hc2 _ _ (by first | omega | (simp; done) | (simp; omega))).trans (by first | (with_reducible assumption) | (simp [go_sem]; done) | (simp [go_sem, *]; done) | assumption)
  have g2x1 : w2.cell? ⟨w.heap.size, 1, none⟩ = some (.int .i64 (an)) := (hc2 _ _ (by first | omega | (simp; done) | (simp; omega))).trans (by first | (with_reducible assumption) | (simp [go_sem]; done) | (simp [go_sem, *]; done) | assumption)
  have g2x2 : w2.cell? ⟨w.heap.size, 2, none⟩ = some (.bool (al)) := (hc2 _ _ (by first | omega | (simp; done) | (simp; omega))).trans (by first | (with_reducible assumption) | (simp [go_sem]; done) | (simp [go_sem, *]; done) | assumption)
  have g2x3 : w2.cell? ⟨w.heap.size, 3, none⟩ = some (.int .i64 (ad)) := (hc2 _ _ (by first | omega | (simp; done) | (simp; omega))).trans (by first | (with_reducible assumption) | (simp [go_sem]; done) | (simp [go_sem, *]; done) | assumption)
  have g2x4 : w2.cell? ⟨(w.heap.size + 1), 0, none⟩ = some (.int .i64 (by_)) := (hc2 _ _ (by first | omega | (simp; done) | (simp; omega))).trans (by first | (with_reducible assumption) | (simp [go_sem]; done) | (simp [go_sem, *]; done) | assumption)
  have g2x5 : w2.cell? ⟨(w.heap.size + 1), 1, none⟩ = some (.int .i64 (bn)) := (hc2 _ _ (by first | omega | (simp; done) | (simp; omega))).trans (by first | (with_reducible assumption) | (simp [go_sem]; done) | (simp [go_sem, *]; done) | assumption)
  have g2x6 : w2.cell? ⟨(w.heap.size + 1), 2, none⟩ = some (.bool (bl)) := (hc2 _ _ (by first | omega | (simp; done) | (simp; omega))).trans (by first | (with_reducible assumption) | (simp [go_sem]; done) | (simp [go_sem, *]; done) | assumption)
  have g2x7 : w2.cell? ⟨(w.heap.size + 1), 3, none⟩ = some (.int .i64 (bd)) := (hc2 _ _ (by first | omega | (simp; done) | (simp; omega))).trans (by first | (with_reducible assumption) | (simp [go_sem]; done) | (simp [go_sem, *]; done) | assumption)
  have g2x8 : w2.cell? ⟨w1.heap.size, 0, none⟩ = some (.int .i64 (cy)) := (hc2 _ _ (by first | omega | (simp; done) | (simp; omega))).trans (by first | (with_reducible assumption) | (simp [go_sem]; done) | (simp [go_sem, *]; done) | assumption)
  have g2x9 : w2.cell? ⟨w1.heap.size, 1, none⟩ = some (.int .i64 (cn)) := (hc2 _ _ (by first | omega | (simp; done) | (simp; omega))).trans (by first | (with_reducible assumption) | (simp [go_sem]; done) | (simp [go_sem, *]; done) | assumption)
  have g2x10 : w2.cell? ⟨w1.heap.size, 2, none⟩ = some (.bool (cl)) := (hc2 _ _ (by first | omega | (simp; done) | (simp; omega))).trans (by first | (with_reducible assumption) | (simp [go_sem]; done) | (simp [go_sem, *]; done) | assumption)
  have g2x11 : w2.cell? ⟨w1.heap.size, 3, none⟩ = some (.int .i64 (cd)) := (hc2 _ _ (by first | omega | (simp; done) | (simp; omega))).trans (by first | (with_reducible assumption) | (simp [go_sem]; done) | (simp [go_sem, *]; done) | assumption)
  have z2x0 : w2.frozen? ⟨w1.heap.size, 0, none⟩ = false := (hf2 _ _ (by first | omega | (simp; done) | (simp; omega))).trans (by first | (with_reducible assumption) | (simp [go_sem]; done) | (simp [go_sem, *]; done))
  have z2x1 : w2.frozen? ⟨w1.heap.size, 1, none⟩ = false := (hf2 _ _ (by first | omega | (simp; done) | (simp; omega))).trans (by first | (with_reducible assumption) | (simp [go_sem]; done) | (simp [go_sem, *]; done))
  have z2x2 : w2.frozen? ⟨w1.heap.size, 2, none⟩ = false := (hf2 _ _ (by first | omega | (simp; done) | (simp; omega))).trans (by first | (with_reducible assumption) | (simp [go_sem]; done) | (simp [go_sem, *]; done))
  have z2x3 : w2.frozen? ⟨w1.heap.size, 3, none⟩ = false := (hf2 _ _ (by first | omega | (simp; done) | (simp; omega))).trans (by first | (with_reducible assumption) | (simp [go_sem]; done) | (simp [go_sem, *]; done))
  go_wp2_with fail
  refine (HA.out _ (Tab.below hT (by repeat (first | (with_reducible exact Below.refl _ _) | (with_reducible assumption) | (with_reducible refine bdrew ?_) | (with_reducible refine baa ?_ _) | (with_reducible refine bs ?_ (by first | exact Nat.le_refl _ | omega | (simp; done) | (simp; omega)) _) | (with_reducible refine bt ?_ (by with_reducible assumption))))) (Tab.below hL (by repeat (first | (with_reducible exact Below.refl _ _) | (with_reducible assumption) | (with_reducible refine bdrew ?_) | (with_reducible refine baa ?_ _) | (with_reducible refine bs ?_ (by first | exact Nat.le_refl _ | omega | (simp; done) | (simp; omega)) _) | (with_reducible refine bt ?_ (by with_reducible assumption)))))).mono ?_
  rintro e w3 ⟨rfl, hb3⟩
  obtain ⟨hc3, hf3⟩ := bcell hb3
  have hz3 := hb3.size
  try simp at hz3
  have hl3w1 : w1.heap.size < w3.heap.size := by omega
  have hm3w1 : w1.heap.size ≤ w3.heap.size := by omega
  have hl3w2 : w2.heap.size < w3.heap.size := by omega
  have hm3w2 : w2.heap.size ≤ w3.heap.size := by omega
  have hs3x0 : w.heap.size < w3.heap.size := by omega
  have hs3x1 : (w.heap.size + 1) < w3.heap.size := by omega
  have g3x0 : w3.cell? ⟨w.heap.size, 0, none⟩ = some (.int .i64 (ay)) := (hc3 _ _ (by first | omega | (simp; done) | (simp; omega))).trans (by first | (with_reducible assumption) | (simp [go_sem]; done) | (simp [go_sem, *]; done) | assumption)
  have g3x1 : w3.cell? ⟨w.heap.size, 1, none⟩ = some (.int .i64 (an)) := (hc3 _ _ (by first | omega | (simp; done) | (simp; omega))).trans (by first | (with_reducible assumption) | (simp [go_sem]; done) | (simp [go_sem, *]; done) | assumption)
  have g3x2 : w3.cell? ⟨w.heap.size, 2, none⟩ = some (.bool (al)) := (hc3 _ _ (by first | omega | (simp; done) | (simp; omega))).trans (by first | (with_reducible assumption) | (simp [go_sem]; done) | (simp [go_sem, *]; done) | assumption)
  have g3x3 : w3.cell? ⟨w.heap.size, 3, none⟩ = some (.int .i64 (ad)) := (hc3 _ _ (by first | omega | (simp; done) | (simp; omega))).trans (by first | (with_reducible assumption) | (simp [go_sem]; done) | (simp [go_sem, *]; done) | assumption)
  have g3x4 : w3.cell? ⟨(w.heap.size + 1), 0, none⟩ = some (.int .i64 (by_)) := (hc3 _ _ (by first | omega | (simp; done) | (simp; omega))).trans (by first | (with_reducible assumption) | (simp [go_sem]; done) | (simp [go_sem, *]; done) | assumption)
  have g3x5 : w3.cell? ⟨(w.heap.size + 1), 1, none⟩ = some (.int .i64 (bn)) := (hc3 _ _ (by first | omega | (simp; done) | (simp; omega))).trans (by first | (with_reducible assumption) | (simp [go_sem]; done) | (simp [go_sem, *]; done) | assumption)
  have g3x6 : w3.cell? ⟨(w.heap.size + 1), 2, none⟩ = some (.bool (bl)) := (hc3 _ _ (by first | omega | (simp; done) | (simp; omega))).trans (by first | (with_reducible assumption) | (simp [go_sem]; done) | (simp [go_sem, *]; done) | assumption)
  have g3x7 : w3.cell? ⟨(w.heap.size + 1), 3, none⟩ = some (.int .i64 (bd)) := (hc3 _ _ (by first | omega | (simp; done) | (simp; omega))).trans (by first | (with_reducible assumption) | (simp [go_sem]; done) | (simp [go_sem, *]; done) | assumption)
  have g3x8 : w3.cell? ⟨w1.heap.size, 0, none⟩ = some (.int .i64 (cy)) := (hc3 _ _ (by first | omega | (simp; done) | (simp; omega))).trans (by first | (with_reducible assumption) | (simp [go_sem]; done) | (simp [go_sem, *]; done) | assumption)
  have g3x9 : w3.cell? ⟨w1.heap.size, 1, none⟩ = some (.int .i64 (cn)) := (hc3 _ _ (by first | omega | (simp; done) | (simp; omega))).trans (by first | (with_reducible assumption) | (simp [go_sem]; done) | (simp [go_sem, *]; done) | assumption)
  have g3x10 : w3.cell? ⟨w1.heap.size, 2, none⟩ = some (.bool (cl)) := (hc3 _ _ (by first | omega | (simp; done) | (simp; omega))).trans (by first | (with_reducible assumption) | (simp [go_sem]; done) | (simp [go_sem, *]; done) | assumption)
  have g3x11 : w3.cell? ⟨w1.heap.size, 3, none⟩ = some (.int .i64 (cd)) := (hc3 _ _ (by first | omega | (simp; done) | (simp; omega))).trans (by first | (with_reducible assumption) | (simp [go_sem]; done) | (simp [go_sem, *]; done) | assumption)
  have g3x12 : w3.cell? ⟨w2.heap.size, 0, none⟩ = some (.int .i64 (cy)) := (hc3 _ _ (by first | omega | (simp; done) | (simp; omega))).trans (by first | (with_reducible assumption) | (simp [go_sem]; done) | (simp [go_sem, *]; done) | assumption)
  have g3x13 : w3.cell? ⟨w2.heap.size, 1, none⟩ = some (.int .i64 (cn)) := (hc3 _ _ (by first | omega | (simp; done) | (simp; omega))).trans (by first | (with_reducible assumption) | (simp [go_sem]; done) | (simp [go_sem, *]; done) | assumption)
  have g3x14 : w3.cell? ⟨w2.heap.size, 2, none⟩ = some (.bool (cl)) := (hc3 _ _ (by first | omega | (simp; done) | (simp; omega))).trans (by first | (with_reducible assumption) | (simp [go_sem]; done) | (simp [go_sem, *]; done) | assumption)
  have g3x15 : w3.cell? ⟨w2.heap.size, 3, none⟩ = some (.int .i64 (cd)) := (hc3 _ _ (by first | omega | (simp; done) | (simp; omega))).trans (by first | (with_reducible assumption) | (simp [go_sem]; done) | (simp [go_sem, *]; done) | assumption)
  have z3x0 : w3.frozen? ⟨w1.heap.size, 0, none⟩ = false := (hf3 _ _ (by first | omega | (simp; done) | (simp; omega))).trans (by first | (with_reducible assumption) | (simp [go_sem]; done) | (simp [go_sem, *]; done))
  have z3x1 : w3.frozen? ⟨w1.heap.size, 1, none⟩ = false := (hf3 _ _ (by first | omega | (simp; done) | (simp; omega))).trans (by first | (with_reducible assumption) | (simp [go_sem]; done) | (simp [go_sem, *]; done))
  have z3x2 : w3.frozen? ⟨w1.heap.size, 2, none⟩ = false := (hf3 _ _ (by first | omega | (simp; done) | (simp; omega))).trans (by first | (with_reducible assumption) | (simp [go_sem]; done) | (simp [go_sem, *]; done))
  have z3x3 : w3.frozen? ⟨w1.heap.size, 3, none⟩ = false := (hf3 _ _ (by first | omega | (simp; done) | (simp; omega))).trans (by first | (with_reducible assumption) | (simp [go_sem]; done) | (simp [go_sem, *]; done))
  have z3x4 : w3.frozen? ⟨w2.heap.size, 0, none⟩ = false := (hf3 _ _ (by first | omega | (simp; done) | (simp; omega))).trans (by first | (with_reducible assumption) | (simp [go_sem]; done) | (simp [go_sem, *]; done))
  have z3x5 : w3.frozen? ⟨w2.heap.size, 1, none⟩ = false := (hf3 _ _ (by first | omega | (simp; done) | (simp; omega))).trans (by first | (with_reducible assumption) | (simp [go_sem]; done) | (simp [go_sem, *]; done))
  have z3x6 : w3.frozen? ⟨w2.heap.size, 2, none⟩ = false := (hf3 _ _ (by first | omega | (simp; done) | (simp; omega))).trans (by first | (with_reducible assumption) | (simp [go_sem]; done) | (simp [go_sem, *]; done))
  have z3x7 : w3.frozen? ⟨w2.heap.size, 3, none⟩ = false := (hf3 _ _ (by first | omega | (simp; done) | (simp; omega))).trans (by first | (with_reducible assumption) | (simp [go_sem]; done) | (simp [go_sem, *]; done))
  go_wp2_with fail
  refine (RAx.out _).mono ?_
  rintro e w4 ⟨rfl, hb4⟩
  obtain ⟨hc4, hf4⟩ := bcell hb4
  have hz4 := hb4.size
  try simp at hz4
  have hl4w1 : w1.heap.size < w4.heap.size := by omega
  have hm4w1 : w1.heap.size ≤ w4.heap.size := by omega
  have hl4w2 : w2.heap.size < w4.heap.size := by omega
  have hm4w2 : w2.heap.size ≤ w4.heap.size := by omega
  have hl4w3 : w3.heap.size < w4.heap.size := by omega
  have hm4w3 : w3.heap.size ≤ w4.heap.size := by omega
  have hs4x0 : w.heap.size < w4.heap.size := by omega
  have hs4x1 : (w.heap.size + 1) < w4.heap.size := by omega
  have g4x0 : w4.cell? ⟨w.heap.size, 0, none⟩ = some (.int .i64 (ay)) := (hc4 _ _ (by first | omega | (simp; done) | (simp; omega))).trans (by first | (with_reducible assumption) | (simp [go_sem]; done) | (simp [go_sem, *]; done) | assumption)
  have g4x1 : w4.cell? ⟨w.heap.size, 1, none⟩ = some (.int .i64 (an)) := (hc4 _ _ (by first | omega | (simp; done) | (simp; omega))).trans (by first | (with_reducible assumption) | (simp [go_sem]; done) | (simp [go_sem, *]; done) | assumption)
  have g4x2 : w4.cell? ⟨w.heap.size, 2, none⟩ = some (.bool (al)) := (hc4 _ _ (by first | omega | (simp; done) | (simp; omega))).trans (by first | (with_reducible assumption) | (simp [go_sem]; done) | (simp [go_sem, *]; done) | assumption)
  have g4x3 : w4.cell? ⟨w.heap.size, 3, none⟩ = some (.int .i64 (ad)) := (hc4 _ _ (by first | omega | (simp; done) | (simp; omega))).trans (by first | (with_reducible assumption) | (simp [go_sem]; done) | (simp [go_sem, *]; done) | assumption)
  have g4x4 : w4.cell? ⟨(w.heap.size + 1), 0, none⟩ = some (.int .i64 (by_)) := (hc4 _ _ (by first | omega | (simp; done) | (simp; omega))).trans (by first | (with_reducible assumption) | (simp [go_sem]; done) | (simp [go_sem, *]; done) | assumption)
  have g4x5 : w4.cell? ⟨(w.heap.size + 1), 1, none⟩ = some (.int .i64 (bn)) := (hc4 _ _ (by first | omega | (simp; done) | (simp; omega))).trans (by first | (with_reducible assumption) | (simp [go_sem]; done) | (simp [go_sem, *]; done) | assumption)
  have g4x6 : w4.cell? ⟨(w.heap.size + 1), 2, none⟩ = some (.bool (bl)) := (hc4 _ _ (by first | omega | (simp; done) | (simp; omega))).trans (by first | (with_reducible assumption) | (simp [go_sem]; done) | (simp [go_sem, *]; done) | assumption)
  have g4x7 : w4.cell? ⟨(w.heap.size + 1), 3, none⟩ = some (.int .i64 (bd)) := (hc4 _ _ (by first | omega | (simp; done) | (simp; omega))).trans (by first | (with_reducible assumption) | (simp [go_sem]; done) | (simp [go_sem, *]; done) | assumption)
  have g4x8 : w4.cell? ⟨w1.heap.size, 0, none⟩ = some (.int .i64 (cy)) := (hc4 _ _ (by first | omega | (simp; done) | (simp; omega))).trans (by first | (with_reducible assumption) | (simp [go_sem]; done) | (simp [go_sem, *]; done) | assumption)
  have g4x9 : w4.cell? ⟨w1.heap.size, 1, none⟩ = some (.int .i64 (cn)) := (hc4 _ _ (by first | omega | (simp; done) | (simp; omega))).trans (by first | (with_reducible assumption) | (simp [go_sem]; done) | (simp [go_sem, *]; done) | assumption)
  have g4x10 : w4.cell? ⟨w1.heap.size, 2, none⟩ = some (.bool (cl)) := (hc4 _ _ (by first | omega | (simp; done) | (simp; omega))).trans (by first | (with_reducible assumption) | (simp [go_sem]; done) | (simp [go_sem, *]; done) | assumption)
  have g4x11 : w4.cell? ⟨w1.heap.size, 3, none⟩ = some (.int .i64 (cd)) := (hc4 _ _ (by first | omega | (simp; done) | (simp; omega))).trans (by first | (with_reducible assumption) | (simp [go_sem]; done) | (simp [go_sem, *]; done) | assumption)
  have g4x12 : w4.cell? ⟨w2.heap.size, 0, none⟩ = some (.int .i64 (cy)) := (hc4 _ _ (by first | omega | (simp; done) | (simp; omega))).trans (by first | (with_reducible assumption) | (simp [go_sem]; done) | (simp [go_sem, *]; done) | assumption)
  have g4x13 : w4.cell? ⟨w2.heap.size, 1, none⟩ = some (.int .i64 (cn)) := (hc4 _ _ (by first | omega | (simp; done) | (simp; omega))).trans (by first | (with_reducible assumption) | (simp [go_sem]; done) | (simp [go_sem, *]; done) | assumption)
  have g4x14 : w4.cell? ⟨w2.heap.size, 2, none⟩ = some (.bool (cl)) := (hc4 _ _ (by first | omega | (simp; done) | (simp; omega))).trans (by first | (with_reducible assumption) | (simp [go_sem]; done) | (simp [go_sem, *]; done) | assumption)
  have g4x15 : w4.cell? ⟨w2.heap.size, 3, none⟩ = some (.int .i64 (cd)) := (hc4 _ _ (by first | omega | (simp; done) | (simp; omega))).trans (by first | (with_reducible assumption) | (simp [go_sem]; done) | (simp [go_sem, *]; done) | assumption)
  have g4x16 : w4.cell? ⟨w3.heap.size, 0, none⟩ = some (.int .i64 (xy)) := (hc4 _ _ (by first | omega | (simp; done) | (simp; omega))).trans (by first | (with_reducible assumption) | (simp [go_sem]; done) | (simp [go_sem, *]; done) | assumption)
  have g4x17 : w4.cell? ⟨w3.heap.size, 1, none⟩ = some (.int .i64 (xn)) := (hc4 _ _ (by first | omega | (simp; done) | (simp; omega))).trans (by first | (with_reducible assumption) | (simp [go_sem]; done) | (simp [go_sem, *]; done) | assumption)
  have g4x18 : w4.cell? ⟨w3.heap.size, 2, none⟩ = some (.bool (xl)) := (hc4 _ _ (by first | omega | (simp; done) | (simp; omega))).trans (by first | (with_reducible assumption) | (simp [go_sem]; done) | (simp [go_sem, *]; done) | assumption)
  have g4x19 : w4.cell? ⟨w3.heap.size, 3, none⟩ = some (.int .i64 (xd)) := (hc4 _ _ (by first | omega | (simp; done) | (simp; omega))).trans (by first | (with_reducible assumption) | (simp [go_sem]; done) | (simp [go_sem, *]; done) | assumption)
  have z4x0 : w4.frozen? ⟨w1.heap.size, 0, none⟩ = false := (hf4 _ _ (by first | omega | (simp; done) | (simp; omega))).trans (by first | (with_reducible assumption) | (simp [go_sem]; done) | (simp [go_sem, *]; done))
  have z4x1 : w4.frozen? ⟨w1.heap.size, 1, none⟩ = false := (hf4 _ _ (by first | omega | (simp; done) | (simp; omega))).trans (by first | (with_reducible assumption) | (simp [go_sem]; done) | (simp [go_sem, *]; done))
  have z4x2 : w4.frozen? ⟨w1.heap.size, 2, none⟩ = false := (hf4 _ _ (by first | omega | (simp; done) | (simp; omega))).trans (by first | (with_reducible assumption) | (simp [go_sem]; done) | (simp [go_sem, *]; done))
  have z4x3 : w4.frozen? ⟨w1.heap.size, 3, none⟩ = false := (hf4 _ _ (by first | omega | (simp; done) | (simp; omega))).trans (by first | (with_reducible assumption) | (simp [go_sem]; done) | (simp [go_sem, *]; done))
  have z4x4 : w4.frozen? ⟨w2.heap.size, 0, none⟩ = false := (hf4 _ _ (by first | omega | (simp; done) | (simp; omega))).trans (by first | (with_reducible assumption) | (simp [go_sem]; done) | (simp [go_sem, *]; done))
  have z4x5 : w4.frozen? ⟨w2.heap.size, 1, none⟩ = false := (hf4 _ _ (by first | omega | (simp; done) | (simp; omega))).trans (by first | (with_reducible assumption) | (simp [go_sem]; done) | (simp [go_sem, *]; done))
  have z4x6 : w4.frozen? ⟨w2.heap.size, 2, none⟩ = false := (hf4 _ _ (by first | omega | (simp; done) | (simp; omega))).trans (by first | (with_reducible assumption) | (simp [go_sem]; done) | (simp [go_sem, *]; done))
  have z4x7 : w4.frozen? ⟨w2.heap.size, 3, none⟩ = false := (hf4 _ _ (by first | omega | (simp; done) | (simp; omega))).trans (by first | (with_reducible assumption) | (simp [go_sem]; done) | (simp [go_sem, *]; done))
  go_wp2_with fail
  refine (HS.out _ (Tab.below hT (by repeat (first | (with_reducible exact Below.refl _ _) | (with_reducible assumption) | (with_reducible refine bdrew ?_) | (with_reducible refine baa ?_ _) | (with_reducible refine bs ?_ (by first | exact Nat.le_refl _ | omega | (simp; done) | (simp; omega)) _) | (with_reducible refine bt ?_ (by with_reducible assumption))))) (Tab.below hL (by repeat (first | (with_reducible exact Below.refl _ _) | (with_reducible assumption) | (with_reducible refine bdrew ?_) | (with_reducible refine baa ?_ _) | (with_reducible refine bs ?_ (by first | exact Nat.le_refl _ | omega | (simp; done) | (simp; omega)) _) | (with_reducible refine bt ?_ (by with_reducible assumption)))))).mono ?_
  rintro e w5 ⟨rfl, hb5⟩
  obtain ⟨hc5, hf5⟩ := bcell hb5
  have hz5 := hb5.size
  try simp at hz5
  have hl5w1 : w1.heap.size < w5.heap.size := by omega
  have hm5w1 : w1.heap.size ≤ w5.heap.size := by omega
  have hl5w2 : w2.heap.size < w5.heap.size := by omega
  have hm5w2 : w2.heap.size ≤ w5.heap.size := by omega
  have hl5w3 : w3.heap.size < w5.heap.size := by omega
  have hm5w3 : w3.heap.size ≤ w5.heap.size := by omega
  have hl5w4 : w4.heap.size < w5.heap.size := by omega
  have hm5w4 : w4.heap.size ≤ w5.heap.size := by omega
  have hs5x0 : w.heap.size < w5.heap.size := by omega
  have hs5x1 : (w.heap.size + 1) < w5.heap.size := by omega
  have g5x0 : w5.cell? ⟨w.heap.size, 0, none⟩ = some (.int .i64 (ay)) := (hc5 _ _ (by first | omega | (simp; done) | (simp; omega))).trans (by first | (with_reducible assumption) | (simp [go_sem]; done) | (simp [go_sem, *]; done) | assumption)
  have g5x1 : w5.cell? ⟨w.heap.size, 1, none⟩ = some (.int .i64 (an)) := (hc5 _ _ (by first | omega | (simp; done) | (simp; omega))).trans (by first | (with_reducible assumption) | (simp [go_sem]; done) | (simp [go_sem, *]; done) | assumption)
  have g5x2 : w5.cell? ⟨w.heap.size, 2, none⟩ = some (.bool (al)) := (hc5 _ _ (by first | omega | (simp; done) | (simp; omega))).trans (by first | (with_reducible assumption) | (simp [go_sem]; done) | (simp [go_sem, *]; done) | assumption)
  have g5x3 : w5.cell? ⟨w.heap.size, 3, none⟩ = some (.int .i64 (ad)) := (hc5 _ _ (by first | omega | (simp; done) | (simp; omega))).trans (by first | (with_reducible assumption) | (simp [go_sem]; done) | (simp [go_sem, *]; done) | assumption)
  have g5x4 : w5.cell? ⟨(w.heap.size + 1), 0, none⟩ = some (.int .i64 (by_)) := (hc5 _ _ (by first | omega | (simp; done) | (simp; omega))).trans (by first | (with_reducible assumption) | (simp [go_sem]; done) | (simp [go_sem, *]; done) | assumption)
  have g5x5 : w5.cell? ⟨(w.heap.size + 1), 1, none⟩ = some (.int .i64 (bn)) := (hc5 _ _ (by first | omega | (simp; done) | (simp; omega))).trans (by first | (with_reducible assumption) | (simp [go_sem]; done) | (simp [go_sem, *]; done) | assumption)
  have g5x6 : w5.cell? ⟨(w.heap.size + 1), 2, none⟩ = some (.bool (bl)) := (hc5 _ _ (by first | omega | (simp; done) | (simp; omega))).trans (by first | (with_reducible assumption) | (simp [go_sem]; done) | (simp [go_sem, *]; done) | assumption)
  have g5x7 : w5.cell? ⟨(w.heap.size + 1), 3, none⟩ = some (.int .i64 (bd)) := (hc5 _ _ (by first | omega | (simp; done) | (simp; omega))).trans (by first | (with_reducible assumption) | (simp [go_sem]; done) | (simp [go_sem, *]; done) | assumption)
  have g5x8 : w5.cell? ⟨w1.heap.size, 0, none⟩ = some (.int .i64 (cy)) := (hc5 _ _ (by first | omega | (simp; done) | (simp; omega))).trans (by first | (with_reducible assumption) | (simp [go_sem]; done) | (simp [go_sem, *]; done) | assumption)
  have g5x9 : w5.cell? ⟨w1.heap.size, 1, none⟩ = some (.int .i64 (cn)) := (hc5 _ _ (by first | omega | (simp; done) | (simp; omega))).trans (by first | (with_reducible assumption) | (simp [go_sem]; done) | (simp [go_sem, *]; done) | assumption)
  have g5x10 : w5.cell? ⟨w1.heap.size, 2, none⟩ = some (.bool (cl)) := (hc5 _ _ (by first | omega | (simp; done) | (simp; omega))).trans (by first | (with_reducible assumption) | (simp [go_sem]; done) | (simp [go_sem, *]; done) | assumption)
  have g5x11 : w5.cell? ⟨w1.heap.size, 3, none⟩ = some (.int .i64 (cd)) := (hc5 _ _ (by first | omega | (simp; done) | (simp; omega))).trans (by first | (with_reducible assumption) | (simp [go_sem]; done) | (simp [go_sem, *]; done) | assumption)
  have g5x12 : w5.cell? ⟨w2.heap.size, 0, none⟩ = some (.int .i64 (cy)) := (hc5 _ _ (by first | omega | (simp; done) | (simp; omega))).trans (by first | (with_reducible assumption) | (simp [go_sem]; done) | (simp [go_sem, *]; done) | assumption)
  have g5x13 : w5.cell? ⟨w2.heap.size, 1, none⟩ = some (.int .i64 (cn)) := (hc5 _ _ (by first | omega | (simp; done) | (simp; omega))).trans (by first | (with_reducible assumption) | (simp [go_sem]; done) | (simp [go_sem, *]; done) | assumption)
  have g5x14 : w5.cell? ⟨w2.heap.size, 2, none⟩ = some (.bool (cl)) := (hc5 _ _ (by first | omega | (simp; done) | (simp; omega))).trans (by first | (with_reducible assumption) | (simp [go_sem]; done) | (simp [go_sem, *]; done) | assumption)
  have g5x15 : w5.cell? ⟨w2.heap.size, 3, none⟩ = some (.int .i64 (cd)) := (hc5 _ _ (by first | omega | (simp; done) | (simp; omega))).trans (by first | (with_reducible assumption) | (simp [go_sem]; done) | (simp [go_sem, *]; done) | assumption)
  have z5x0 : w5.frozen? ⟨w1.heap.size, 0, none⟩ = false := (hf5 _ _ (by first | omega | (simp; done) | (simp; omega))).trans (by first | (with_reducible assumption) | (simp [go_sem]; done) | (simp [go_sem, *]; done))
  have z5x1 : w5.frozen? ⟨w1.heap.size, 1, none⟩ = false := (hf5 _ _ (by first | omega | (simp; done) | (simp; omega))).trans (by first | (with_reducible assumption) | (simp [go_sem]; done) | (simp [go_sem, *]; done))
  have z5x2 : w5.frozen? ⟨w1.heap.size, 2, none⟩ = false := (hf5 _ _ (by first | omega | (simp; done) | (simp; omega))).trans (by first | (with_reducible assumption) | (simp [go_sem]; done) | (simp [go_sem, *]; done))
  have z5x3 : w5.frozen? ⟨w1.heap.size, 3, none⟩ = false := (hf5 _ _ (by first | omega | (simp; done) | (simp; omega))).trans (by first | (with_reducible assumption) | (simp [go_sem]; done) | (simp [go_sem, *]; done))
  have z5x4 : w5.frozen? ⟨w2.heap.size, 0, none⟩ = false := (hf5 _ _ (by first | omega | (simp; done) | (simp; omega))).trans (by first | (with_reducible assumption) | (simp [go_sem]; done) | (simp [go_sem, *]; done))
  have z5x5 : w5.frozen? ⟨w2.heap.size, 1, none⟩ = false := (hf5 _ _ (by first | omega | (simp; done) | (simp; omega))).trans (by first | (with_reducible assumption) | (simp [go_sem]; done) | (simp [go_sem, *]; done))
  have z5x6 : w5.frozen? ⟨w2.heap.size, 2, none⟩ = false := (hf5 _ _ (by first | omega | (simp; done) | (simp; omega))).trans (by first | (with_reducible assumption) | (simp [go_sem]; done) | (simp [go_sem, *]; done))
  have z5x7 : w5.frozen? ⟨w2.heap.size, 3, none⟩ = false := (hf5 _ _ (by first | omega | (simp; done) | (simp; omega))).trans (by first | (with_reducible assumption) | (simp [go_sem]; done) | (simp [go_sem, *]; done))
  go_wp2_with fail
  refine (RSx.out _).mono ?_
  rintro e w6 ⟨rfl, hb6⟩
  obtain ⟨hc6, hf6⟩ := bcell hb6
  have hz6 := hb6.size
  try simp at hz6
  have hl6w1 : w1.heap.size < w6.heap.size := by omega
  have hm6w1 : w1.heap.size ≤ w6.heap.size := by omega
  have hl6w2 : w2.heap.size < w6.heap.size := by omega
  have hm6w2 : w2.heap.size ≤ w6.heap.size := by omega
  have hs6x0 : w.heap.size < w6.heap.size := by omega
  have hs6x1 : (w.heap.size + 1) < w6.heap.size := by omega
  have g6x0 : w6.cell? ⟨w.heap.size, 0, none⟩ = some (.int .i64 (ay)) := (hc6 _ _ (by first | omega | (simp; done) | (simp; omega))).trans (by first | (with_reducible assumption) | (simp [go_sem]; done) | (simp [go_sem, *]; done) | assumption)
  have g6x1 : w6.cell? ⟨w.heap.size, 1, none⟩ = some (.int .i64 (an)) := (hc6 _ _ (by first | omega | (simp; done) | (simp; omega))).trans (by first | (with_reducible assumption) | (simp [go_sem]; done) | (simp [go_sem, *]; done) | assumption)
  have g6x2 : w6.cell? ⟨w.heap.size, 2, none⟩ = some (.bool (al)) := (hc6 _ _ (by first | omega | (simp; done) | (simp; omega))).trans (by first | (with_reducible assumption) | (simp [go_sem]; done) | (simp [go_sem, *]; done) | assumption)
  have g6x3 : w6.cell? ⟨w.heap.size, 3, none⟩ = some (.int .i64 (ad)) := (hc6 _ _ (by first | omega | (simp; done) | (simp; omega))).trans (by first | (with_reducible assumption) | (simp [go_sem]; done) | (simp [go_sem, *]; done) | assumption)
  have g6x4 : w6.cell? ⟨(w.heap.size + 1), 0, none⟩ = some (.int .i64 (by_)) := (hc6 _ _ (by first | omega | (simp; done) | (simp; omega))).trans (by first | (with_reducible assumption) | (simp [go_sem]; done) | (simp [go_sem, *]; done) | assumption)
  have g6x5 : w6.cell? ⟨(w.heap.size + 1), 1, none⟩ = some (.int .i64 (bn)) := (hc6 _ _ (by first | omega | (simp; done) | (simp; omega))).trans (by first | (with_reducible assumption) | (simp [go_sem]; done) | (simp [go_sem, *]; done) | assumption)
  have g6x6 : w6.cell? ⟨(w.heap.size + 1), 2, none⟩ = some (.bool (bl)) := (hc6 _ _ (by first | omega | (simp; done) | (simp; omega))).trans (by first | (with_reducible assumption) | (simp [go_sem]; done) | (simp [go_sem, *]; done) | assumption)
  have g6x7 : w6.cell? ⟨(w.heap.size + 1), 3, none⟩ = some (.int .i64 (bd)) := (hc6 _ _ (by first | omega | (simp; done) | (simp; omega))).trans (by first | (with_reducible assumption) | (simp [go_sem]; done) | (simp [go_sem, *]; done) | assumption)
  have g6x8 : w6.cell? ⟨w1.heap.size, 0, none⟩ = some (.int .i64 (sy)) := (hc6 _ _ (by first | omega | (simp; done) | (simp; omega))).trans (by first | (with_reducible assumption) | (simp [go_sem]; done) | (simp [go_sem, *]; done) | assumption)
  have g6x9 : w6.cell? ⟨w1.heap.size, 1, none⟩ = some (.int .i64 (sn)) := (hc6 _ _ (by first | omega | (simp; done) | (simp; omega))).trans (by first | (with_reducible assumption) | (simp [go_sem]; done) | (simp [go_sem, *]; done) | assumption)
  have g6x10 : w6.cell? ⟨w1.heap.size, 2, none⟩ = some (.bool (sl)) := (hc6 _ _ (by first | omega | (simp; done) | (simp; omega))).trans (by first | (with_reducible assumption) | (simp [go_sem]; done) | (simp [go_sem, *]; done) | assumption)
  have g6x11 : w6.cell? ⟨w1.heap.size, 3, none⟩ = some (.int .i64 (sd)) := (hc6 _ _ (by first | omega | (simp; done) | (simp; omega))).trans (by first | (with_reducible assumption) | (simp [go_sem]; done) | (simp [go_sem, *]; done) | assumption)
  have g6x12 : w6.cell? ⟨w2.heap.size, 0, none⟩ = some (.int .i64 (cy)) := (hc6 _ _ (by first | omega | (simp; done) | (simp; omega))).trans (by first | (with_reducible assumption) | (simp [go_sem]; done) | (simp [go_sem, *]; done) | assumption)
  have g6x13 : w6.cell? ⟨w2.heap.size, 1, none⟩ = some (.int .i64 (cn)) := (hc6 _ _ (by first | omega | (simp; done) | (simp; omega))).trans (by first | (with_reducible assumption) | (simp [go_sem]; done) | (simp [go_sem, *]; done) | assumption)
  have g6x14 : w6.cell? ⟨w2.heap.size, 2, none⟩ = some (.bool (cl)) := (hc6 _ _ (by first | omega | (simp; done) | (simp; omega))).trans (by first | (with_reducible assumption) | (simp [go_sem]; done) | (simp [go_sem, *]; done) | assumption)
  have g6x15 : w6.cell? ⟨w2.heap.size, 3, none⟩ = some (.int .i64 (cd)) := (hc6 _ _ (by first | omega | (simp; done) | (simp; omega))).trans (by first | (with_reducible assumption) | (simp [go_sem]; done) | (simp [go_sem, *]; done) | assumption)
  have z6x0 : w6.frozen? ⟨w2.heap.size, 0, none⟩ = false := (hf6 _ _ (by first | omega | (simp; done) | (simp; omega))).trans (by first | (with_reducible assumption) | (simp [go_sem]; done) | (simp [go_sem, *]; done))
  have z6x1 : w6.frozen? ⟨w2.heap.size, 1, none⟩ = false := (hf6 _ _ (by first | omega | (simp; done) | (simp; omega))).trans (by first | (with_reducible assumption) | (simp [go_sem]; done) | (simp [go_sem, *]; done))
  have z6x2 : w6.frozen? ⟨w2.heap.size, 2, none⟩ = false := (hf6 _ _ (by first | omega | (simp; done) | (simp; omega))).trans (by first | (with_reducible assumption) | (simp [go_sem]; done) | (simp [go_sem, *]; done))
  have z6x3 : w6.frozen? ⟨w2.heap.size, 3, none⟩ = false := (hf6 _ _ (by first | omega | (simp; done) | (simp; omega))).trans (by first | (with_reducible assumption) | (simp [go_sem]; done) | (simp [go_sem, *]; done))
  go_wp2_with fail
  refine (HB.out _ (Tab.below hT (by repeat (first | (with_reducible exact Below.refl _ _) | (with_reducible assumption) | (with_reducible refine bdrew ?_) | (with_reducible refine baa ?_ _) | (with_reducible refine bs ?_ (by first | exact Nat.le_refl _ | omega | (simp; done) | (simp; omega)) _) | (with_reducible refine bt ?_ (by with_reducible assumption))))) (Tab.below hL (by repeat (first | (with_reducible exact Below.refl _ _) | (with_reducible assumption) | (with_reducible refine bdrew ?_) | (with_reducible refine baa ?_ _) | (with_reducible refine bs ?_ (by first | exact Nat.le_refl _ | omega | (simp; done) | (simp; omega)) _) | (with_reducible refine bt ?_ (by with_reducible assumption)))))).mono ?_
  rintro e w7 ⟨rfl, hb7⟩
  obtain ⟨hc7, hf7⟩ := bcell hb7
  have hz7 := hb7.size
  try simp at hz7
  have hl7w1 : w1.heap.size < w7.heap.size := by omega
  have hm7w1 : w1.heap.size ≤ w7.heap.size := by omega
  have hl7w2 : w2.heap.size < w7.heap.size := by omega
  have hm7w2 : w2.heap.size ≤ w7.heap.size := by omega
  have hs7x0 : w.heap.size < w7.heap.size := by omega
  have hs7x1 : (w.heap.size + 1) < w7.heap.size := by omega
  have g7x0 : w7.cell? ⟨w.heap.size, 0, none⟩ = some (.int .i64 (ay)) := (hc7 _ _ (by first | omega | (simp; done) | (simp; omega))).trans (by first | (with_reducible assumption) | (simp [go_sem]; done) | (simp [go_sem, *]; done) | assumption)
  have g7x1 : w7.cell? ⟨w.heap.size, 1, none⟩ = some (.int .i64 (an)) := (hc7 _ _ (by first | omega | (simp; done) | (simp; omega))).trans (by first | (with_reducible assumption) | (simp [go_sem]; done) | (simp [go_sem, *]; done) | assumption)
  have g7x2 : w7.cell? ⟨w.heap.size, 2, none⟩ = some (.bool (al)) := (hc7 _ _ (by first | omega | (simp; done) | (simp; omega))).trans (by first | (with_reducible assumption) | (simp [go_sem]; done) | (simp [go_sem, *]; done) | assumption)
  have g7x3 : w7.cell? ⟨w.heap.size, 3, none⟩ = some (.int .i64 (ad)) := (hc7 _ _ (by first | omega | (simp; done) | (simp; omega))).trans (by first | (with_reducible assumption) | (simp [go_sem]; done) | (simp [go_sem, *]; done) | assumption)
  have g7x4 : w7.cell? ⟨(w.heap.size + 1), 0, none⟩ = some (.int .i64 (by_)) := (hc7 _ _ (by first | omega | (simp; done) | (simp; omega))).trans (by first | (with_reducible assumption) | (simp [go_sem]; done) | (simp [go_sem, *]; done) | assumption)
  have g7x5 : w7.cell? ⟨(w.heap.size + 1), 1, none⟩ = some (.int .i64 (bn)) := (hc7 _ _ (by first | omega | (simp; done) | (simp; omega))).trans (by first | (with_reducible assumption) | (simp [go_sem]; done) | (simp [go_sem, *]; done) | assumption)
  have g7x6 : w7.cell? ⟨(w.heap.size + 1), 2, none⟩ = some (.bool (bl)) := (hc7 _ _ (by first | omega | (simp; done) | (simp; omega))).trans (by first | (with_reducible assumption) | (simp [go_sem]; done) | (simp [go_sem, *]; done) | assumption)
  have g7x7 : w7.cell? ⟨(w.heap.size + 1), 3, none⟩ = some (.int .i64 (bd)) := (hc7 _ _ (by first | omega | (simp; done) | (simp; omega))).trans (by first | (with_reducible assumption) | (simp [go_sem]; done) | (simp [go_sem, *]; done) | assumption)
  have g7x8 : w7.cell? ⟨w1.heap.size, 0, none⟩ = some (.int .i64 (sy)) := (hc7 _ _ (by first | omega | (simp; done) | (simp; omega))).trans (by first | (with_reducible assumption) | (simp [go_sem]; done) | (simp [go_sem, *]; done) | assumption)
  have g7x9 : w7.cell? ⟨w1.heap.size, 1, none⟩ = some (.int .i64 (sn)) := (hc7 _ _ (by first | omega | (simp; done) | (simp; omega))).trans (by first | (with_reducible assumption) | (simp [go_sem]; done) | (simp [go_sem, *]; done) | assumption)
  have g7x10 : w7.cell? ⟨w1.heap.size, 2, none⟩ = some (.bool (sl)) := (hc7 _ _ (by first | omega | (simp; done) | (simp; omega))).trans (by first | (with_reducible assumption) | (simp [go_sem]; done) | (simp [go_sem, *]; done) | assumption)
  have g7x11 : w7.cell? ⟨w1.heap.size, 3, none⟩ = some (.int .i64 (sd)) := (hc7 _ _ (by first | omega | (simp; done) | (simp; omega))).trans (by first | (with_reducible assumption) | (simp [go_sem]; done) | (simp [go_sem, *]; done) | assumption)
  have g7x12 : w7.cell? ⟨w2.heap.size, 0, none⟩ = some (.int .i64 (sy)) := (hc7 _ _ (by first | omega | (simp; done) | (simp; omega))).trans (by first | (with_reducible assumption) | (simp [go_sem]; done) | (simp [go_sem, *]; done) | assumption)
  have g7x13 : w7.cell? ⟨w2.heap.size, 1, none⟩ = some (.int .i64 (sn)) := (hc7 _ _ (by first | omega | (simp; done) | (simp; omega))).trans (by first | (with_reducible assumption) | (simp [go_sem]; done) | (simp [go_sem, *]; done) | assumption)
  have g7x14 : w7.cell? ⟨w2.heap.size, 2, none⟩ = some (.bool (sl)) := (hc7 _ _ (by first | omega | (simp; done) | (simp; omega))).trans (by first | (with_reducible assumption) | (simp [go_sem]; done) | (simp [go_sem, *]; done) | assumption)
  have g7x15 : w7.cell? ⟨w2.heap.size, 3, none⟩ = some (.int .i64 (sd)) := (hc7 _ _ (by first | omega | (simp; done) | (simp; omega))).trans (by first | (with_reducible assumption) | (simp [go_sem]; done) | (simp [go_sem, *]; done) | assumption)
  go_wp2_with fail
  refine (RBx.out _).mono ?_
  rintro e w8 ⟨rfl, hb8⟩
  obtain ⟨hc8, hf8⟩ := bcell hb8
  have hz8 := hb8.size
  try simp at hz8
  have hl8w1 : w1.heap.size < w8.heap.size := by omega
  have hm8w1 : w1.heap.size ≤ w8.heap.size := by omega
  have hl8w2 : w2.heap.size < w8.heap.size := by omega
  have hm8w2 : w2.heap.size ≤ w8.heap.size := by omega
  have g8x0 : w8.cell? ⟨w1.heap.size, 0, none⟩ = some (.int .i64 (sy)) := (hc8 _ _ (by first | omega | (simp; done) | (simp; omega))).trans (by first | (with_reducible assumption) | (simp [go_sem]; done) | (simp [go_sem, *]; done) | assumption)
  have g8x1 : w8.cell? ⟨w1.heap.size, 1, none⟩ = some (.int .i64 (sn)) := (hc8 _ _ (by first | omega | (simp; done) | (simp; omega))).trans (by first | (with_reducible assumption) | (simp [go_sem]; done) | (simp [go_sem, *]; done) | assumption)
  have g8x2 : w8.cell? ⟨w1.heap.size, 2, none⟩ = some (.bool (sl)) := (hc8 _ _ (by first | omega | (simp; done) | (simp; omega))).trans (by first | (with_reducible assumption) | (simp [go_sem]; done) | (simp [go_sem, *]; done) | assumption)
  have g8x3 : w8.cell? ⟨w1.heap.size, 3, none⟩ = some (.int .i64 (sd)) := (hc8 _ _ (by first | omega | (simp; done) | (simp; omega))).trans (by first | (with_reducible assumption) | (simp [go_sem]; done) | (simp [go_sem, *]; done) | assumption)
  have g8x4 : w8.cell? ⟨w2.heap.size, 0, none⟩ = some (.int .i64 (sy)) := (hc8 _ _ (by first | omega | (simp; done) | (simp; omega))).trans (by first | (with_reducible assumption) | (simp [go_sem]; done) | (simp [go_sem, *]; done) | assumption)
  have g8x5 : w8.cell? ⟨w2.heap.size, 1, none⟩ = some (.int .i64 (sn)) := (hc8 _ _ (by first | omega | (simp; done) | (simp; omega))).trans (by first | (with_reducible assumption) | (simp [go_sem]; done) | (simp [go_sem, *]; done) | assumption)
  have g8x6 : w8.cell? ⟨w2.heap.size, 2, none⟩ = some (.bool (sl)) := (hc8 _ _ (by first | omega | (simp; done) | (simp; omega))).trans (by first | (with_reducible assumption) | (simp [go_sem]; done) | (simp [go_sem, *]; done) | assumption)
  have g8x7 : w8.cell? ⟨w2.heap.size, 3, none⟩ = some (.int .i64 (sd)) := (hc8 _ _ (by first | omega | (simp; done) | (simp; omega))).trans (by first | (with_reducible assumption) | (simp [go_sem]; done) | (simp [go_sem, *]; done) | assumption)
  go_wp2_with fail
  refine (awake27 _ (Tab.below hT (by repeat (first | (with_reducible exact Below.refl _ _) | (with_reducible assumption) | (with_reducible refine bdrew ?_) | (with_reducible refine baa ?_ _) | (with_reducible refine bs ?_ (by first | exact Nat.le_refl _ | omega | (simp; done) | (simp; omega)) _) | (with_reducible refine bt ?_ (by with_reducible assumption))))) (Tab.below hL (by repeat (first | (with_reducible exact Below.refl _ _) | (with_reducible assumption) | (with_reducible refine bdrew ?_) | (with_reducible refine baa ?_ _) | (with_reducible refine bs ?_ (by first | exact Nat.le_refl _ | omega | (simp; done) | (simp; omega)) _) | (with_reducible refine bt ?_ (by with_reducible assumption)))))).mono ?_
  rintro e w9 ⟨rfl, hb9⟩
  obtain ⟨hc9, hf9⟩ := bcell hb9
  have hz9 := hb9.size
  try simp at hz9
  have hl9w1 : w1.heap.size < w9.heap.size := by omega
  have hm9w1 : w1.heap.size ≤ w9.heap.size := by omega
  have hl9w2 : w2.heap.size < w9.heap.size := by omega
  have hm9w2 : w2.heap.size ≤ w9.heap.size := by omega
  have g9x0 : w9.cell? ⟨w1.heap.size, 0, none⟩ = some (.int .i64 (sy)) := (hc9 _ _ (by first | omega | (simp; done) | (simp; omega))).trans (by first | (with_reducible assumption) | (simp [go_sem]; done) | (simp [go_sem, *]; done) | assumption)
  have g9x1 : w9.cell? ⟨w1.heap.size, 1, none⟩ = some (.int .i64 (sn)) := (hc9 _ _ (by first | omega | (simp; done) | (simp; omega))).trans (by first | (with_reducible assumption) | (simp [go_sem]; done) | (simp [go_sem, *]; done) | assumption)
  have g9x2 : w9.cell? ⟨w1.heap.size, 2, none⟩ = some (.bool (sl)) := (hc9 _ _ (by first | omega | (simp; done) | (simp; omega))).trans (by first | (with_reducible assumption) | (simp [go_sem]; done) | (simp [go_sem, *]; done) | assumption)
  have g9x3 : w9.cell? ⟨w1.heap.size, 3, none⟩ = some (.int .i64 (sd)) := (hc9 _ _ (by first | omega | (simp; done) | (simp; omega))).trans (by first | (with_reducible assumption) | (simp [go_sem]; done) | (simp [go_sem, *]; done) | assumption)
  have g9x4 : w9.cell? ⟨w2.heap.size, 0, none⟩ = some (.int .i64 (sy)) := (hc9 _ _ (by first | omega | (simp; done) | (simp; omega))).trans (by first | (with_reducible assumption) | (simp [go_sem]; done) | (simp [go_sem, *]; done) | assumption)
  have g9x5 : w9.cell? ⟨w2.heap.size, 1, none⟩ = some (.int .i64 (sn)) := (hc9 _ _ (by first | omega | (simp; done) | (simp; omega))).trans (by first | (with_reducible assumption) | (simp [go_sem]; done) | (simp [go_sem, *]; done) | assumption)
  have g9x6 : w9.cell? ⟨w2.heap.size, 2, none⟩ = some (.bool (sl)) := (hc9 _ _ (by first | omega | (simp; done) | (simp; omega))).trans (by first | (with_reducible assumption) | (simp [go_sem]; done) | (simp [go_sem, *]; done) | assumption)
  have g9x7 : w9.cell? ⟨w2.heap.size, 3, none⟩ = some (.int .i64 (sd)) := (hc9 _ _ (by first | omega | (simp; done) | (simp; omega))).trans (by first | (with_reducible assumption) | (simp [go_sem]; done) | (simp [go_sem, *]; done) | assumption)
  go_wp2_with fail
  go_ret
  refine ⟨by first | rfl | (simp [*]; done), ?_⟩
  repeat (first | (with_reducible exact Below.refl _ _) | (with_reducible assumption) | (with_reducible refine bdrew ?_) | (with_reducible refine baa ?_ _) | (with_reducible refine bs ?_ (by first | exact Nat.le_refl _ | omega | (simp; done) | (simp; omega)) _) | (with_reducible refine bt ?_ (by with_reducible assumption)))
theorem CountTells_walk (ay an : Int) (al : Bool) (ad : Int) (by_ bn : Int) (bl : Bool) (bd : Int) (n : Int) (hay : I64 ay) (han : I64 an) (had : I64 ad) (hby : I64 by_) (hbn : I64 bn) (hbd : I64 bd) (hn : I64 n) (w : World) (hT : Tab w 1 kevCells) (hL : Tab w 0 lenCells) :
    Calls Tryd.prog 5 #[.agg #[.int .i64 (ay), .int .i64 (an), .bool (al), .int .i64 (ad)], .agg #[.int .i64 (by_), .int .i64 (bn), .bool (bl), .int .i64 (bd)], .int .i64 n] w fun e w' => e = .returned (.bool true) ∧ Below w.heap.size w w' := by
  obtain ⟨f, hf⟩ := D27.f_some
  obtain ⟨cy, cn, cl, cd, e1, hN⟩ := D27.next_some ay an al ad
  obtain ⟨xy, xn, xl, xd, e2, hA⟩ := D27.ahead_some ay an al ad
  exact CountTells_go ay an al ad by_ bn bl bd cy cn cl cd xy xn xl xd _ _ _ _ n e1 e2 _ _ _ w hT hL
    (Lib.hid (fun w hT hL => count_Next ay an al ad w hay hT hL cy cn cl cd e1 hN)) (Lib.hid (fun w => ref27_Next ay an al ad w hay cy cn cl cd e1 hN)) (Lib.hid (fun w hT hL => count_Ahead ay an al ad w hay hT hL xy xn xl xd e2 hA)) (Lib.hid (fun w => ref27_Ahead ay an al ad w hay xy xn xl xd e2 hA))
    (Lib.hid (fun w hT hL => count_Steps_any hf (ay, an, al, ad) n w hay hT hL)) (Lib.hid (fun w => ref27_Steps_any hf (ay, an, al, ad) n w hay)) (Lib.hid (fun w hT hL => count_Between_any hf (ay, an, al, ad) (by_, bn, bl, bd) n w hay hby hT hL)) (Lib.hid (fun w => ref27_Between_any hf (ay, an, al, ad) (by_, bn, bl, bd) n w hay hby))
end Go.Proofs.YtbmcpeccofadhaaDoor
