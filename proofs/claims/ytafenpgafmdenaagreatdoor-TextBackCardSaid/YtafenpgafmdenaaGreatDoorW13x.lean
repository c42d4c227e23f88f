/- Layer 13: the walk of TextBack, by its calls' contracts. -/
import Derived.Test.YtafenpgafmdenaaGreatDoorMaxA
import Derived.Test.YtafenpgafmdenaaGreatDoorW10
import Derived.Test.YtafenpgafmdenaaGreatDoorText
import Derived.Test.YtafenpgafmdenaaGreatDoorGreg
import Derived.RegionTactic
import Derived.Deep.Cut
namespace Go.Proofs.YtafenpgafmdenaaGreatDoor
open Go.ChangeShapes Go.WideShapes Go.ChangeAt Go.RowKit
set_option linter.unusedVariables false
set_option maxRecDepth 100000
set_option maxHeartbeats 4000000 in
theorem TextBack_long (y n : Int) (l : Bool) (d cy cm cd : Int) (s : ByteArray) (w : World) (hT : Tab w 8 kevCells) (hL : Tab w 6 lenCells) (hP : Tab w 1 powCells) (hG : Tab w 2 Gr.gregCells) (m : Int) (hm : MaxAt w m) (h100 : (100 : Int) < (s.size : Int)) (HW : Hid (∀ w : World, Tab w 8 kevCells → Tab w 6 lenCells → Tab w 1 powCells → Tab w 2 Gr.gregCells → MaxAt w m → Calls Tryz.prog 10 #[] w fun e w' => e = .returned (.bool true) ∧ Below w.heap.size w w')) :
    Calls Tryz.prog 4 #[.agg #[.int .i64 (y), .int .i64 (n), .bool (l), .int .i64 (d)], .agg #[.int .i64 (cy), .int .i64 (cm), .int .i64 (cd)], .string s] w fun e w' => e = .returned (.bool true) ∧ Below w.heap.size w w' := by
  go_enter Tryz.func4, Tryz.ntmps4
  go_wp2_with fail
  refine (HW.out _ (Tab.below hT (by repeat (first | (with_reducible exact Below.refl _ _) | (with_reducible assumption) | (with_reducible refine bdrew ?_) | (with_reducible refine baa ?_ _) | (with_reducible refine bs ?_ (by first | exact Nat.le_refl _ | omega | (simp; done) | (simp; omega)) _) | (with_reducible refine bt ?_ (by with_reducible assumption))))) (Tab.below hL (by repeat (first | (with_reducible exact Below.refl _ _) | (with_reducible assumption) | (with_reducible refine bdrew ?_) | (with_reducible refine baa ?_ _) | (with_reducible refine bs ?_ (by first | exact Nat.le_refl _ | omega | (simp; done) | (simp; omega)) _) | (with_reducible refine bt ?_ (by with_reducible assumption))))) (Tab.below hP (by repeat (first | (with_reducible exact Below.refl _ _) | (with_reducible assumption) | (with_reducible refine bdrew ?_) | (with_reducible refine baa ?_ _) | (with_reducible refine bs ?_ (by first | exact Nat.le_refl _ | omega | (simp; done) | (simp; omega)) _) | (with_reducible refine bt ?_ (by with_reducible assumption))))) (Tab.below hG (by repeat (first | (with_reducible exact Below.refl _ _) | (with_reducible assumption) | (with_reducible refine bdrew ?_) | (with_reducible refine baa ?_ _) | (with_reducible refine bs ?_ (by first | exact Nat.le_refl _ | omega | (simp; done) | (simp; omega)) _) | (with_reducible refine bt ?_ (by with_reducible assumption))))) (MaxAt.below hm (by repeat (first | (with_reducible exact Below.refl _ _) | (with_reducible assumption) | (with_reducible refine bdrew ?_) | (with_reducible refine baa ?_ _) | (with_reducible refine bs ?_ (by first | exact Nat.le_refl _ | omega | (simp; done) | (simp; omega)) _) | (with_reducible refine bt ?_ (by with_reducible assumption)))))).mono ?_
  rintro e w1 ⟨rfl, hb1⟩
  obtain ⟨hc1, hf1⟩ := bcell hb1
  have hz1 := hb1.size
  try simp at hz1
  go_wp2_with fail
  go_ret
  refine ⟨by first | rfl | (simp [*]; done), ?_⟩
  repeat (first | (with_reducible exact Below.refl _ _) | (with_reducible assumption) | (with_reducible refine bdrew ?_) | (with_reducible refine baa ?_ _) | (with_reducible refine bs ?_ (by first | exact Nat.le_refl _ | omega | (simp; done) | (simp; omega)) _) | (with_reducible refine bt ?_ (by with_reducible assumption)))
set_option maxHeartbeats 8000000 in
theorem TextBack_go (y n : Int) (l : Bool) (d cy cm cd : Int) (s a b t u : ByteArray) (e1 e2 e3 e4 f k hy hn : Int) (hl : Bool) (hd gy gm gd : Int) (w : World) (hT : Tab w 8 kevCells) (hL : Tab w 6 lenCells) (hP : Tab w 1 powCells) (hG : Tab w 2 Gr.gregCells) (m : Int) (hm : MaxAt w m) (h100 : ¬ (100 : Int) < (s.size : Int))
    (HW : Hid (∀ w : World, Tab w 8 kevCells → Tab w 6 lenCells → Tab w 1 powCells → Tab w 2 Gr.gregCells → MaxAt w m → Calls Tryz.prog 10 #[] w fun e w' => e = .returned (.bool true) ∧ Below w.heap.size w w'))
    (HA : Hid (∀ w : World, Tab w 8 kevCells → Tab w 6 lenCells → Tab w 1 powCells → Calls Tryz.prog 11 #[.agg #[.int .i64 (y), .int .i64 (n), .bool (l), .int .i64 (d)]] w fun e w' => e = .returned (.tuple #[.string a, .int .i64 (e1)]) ∧ Below w.heap.size w w')) (HCk : Hid (∀ w : World, Calls Tryz.prog 19 #[.agg #[.int .i64 (y), .int .i64 (n), .bool (l), .int .i64 (d)]] w fun e w' => e = .returned (.int .i64 e1) ∧ Below w.heap.size w w'))
    (HRA : Hid ((e1 == 0) = true → ∀ w : World, Tab w 8 kevCells → Tab w 6 lenCells → MaxAt w m → Calls Tryz.prog 15 #[.string a] w fun e w' => e = .returned (.tuple #[.agg #[.int .i64 (y), .int .i64 (n), .bool (l), .int .i64 (d)], .int .i64 (0)]) ∧ Below w.heap.size w w'))
    (HCv : Hid (∀ w : World, Tab w 2 Gr.gregCells → Tab w 1 powCells → Calls Tryz.prog 13 #[.agg #[.int .i64 (cy), .int .i64 (cm), .int .i64 (cd)]] w fun e w' => e = .returned (.tuple #[.string b, .int .i64 (e2)]) ∧ Below w.heap.size w w')) (HRB : Hid ((e2 == 0) = true → ∀ w : World, Tab w 2 Gr.gregCells → Calls Tryz.prog 17 #[.string b] w fun e w' => e = .returned (.tuple #[.agg #[.int .i64 (cy), .int .i64 (cm), .int .i64 (cd)], .int .i64 (0)]) ∧ Below w.heap.size w w'))
    (HRS : Hid (∀ w : World, Tab w 8 kevCells → Tab w 6 lenCells → MaxAt w m → Calls Tryz.prog 15 #[.string s] w fun e w' => e = .returned (.tuple #[.agg #[.int .i64 (hy), .int .i64 (hn), .bool (hl), .int .i64 (hd)], .int .i64 (f)]) ∧ Below w.heap.size w w')) (HHb : Hid (∀ w : World, Tab w 8 kevCells → Tab w 6 lenCells → Tab w 1 powCells → Calls Tryz.prog 11 #[.agg #[.int .i64 (hy), .int .i64 (hn), .bool (hl), .int .i64 (hd)]] w fun e w' => e = .returned (.tuple #[.string t, .int .i64 (e3)]) ∧ Below w.heap.size w w'))
    (HF : Hid ((f = 0 ∧ ∃ (k : Nat) (q3 q4 : ByteArray), t.size = k + 3 ∧ s.size = k + 3 ∧ 8 ≤ k ∧ t.extract 0 4 = q4 ∧ s.extract 0 4 = q4 ∧ t.extract k (k + 3) = q3 ∧ s.extract k (k + 3) = q3) ∨ f = 5 ∨ f = 2))
    (HRC : Hid (∀ w : World, Tab w 2 Gr.gregCells → Calls Tryz.prog 17 #[.string s] w fun e w' => e = .returned (.tuple #[.agg #[.int .i64 (gy), .int .i64 (gm), .int .i64 (gd)], .int .i64 (k)]) ∧ Below w.heap.size w w')) (HCg : Hid (∀ w : World, Tab w 2 Gr.gregCells → Tab w 1 powCells → Calls Tryz.prog 13 #[.agg #[.int .i64 (gy), .int .i64 (gm), .int .i64 (gd)]] w fun e w' => e = .returned (.tuple #[.string u, .int .i64 (e4)]) ∧ Below w.heap.size w w'))
    (HK : Hid ((k = 0 ∧ u = s) ∨ k = 5 ∨ k = 2)) :
    Calls Tryz.prog 4 #[.agg #[.int .i64 (y), .int .i64 (n), .bool (l), .int .i64 (d)], .agg #[.int .i64 (cy), .int .i64 (cm), .int .i64 (cd)], .string s] w fun e w' => e = .returned (.bool true) ∧ Below w.heap.size w w' := by
  go_enter Tryz.func4, Tryz.ntmps4
  go_wp2_with fail
  refine (HA.out _ (Tab.below hT (by repeat (first | (with_reducible exact Below.refl _ _) | (with_reducible assumption) | (with_reducible refine bdrew ?_) | (with_reducible refine baa ?_ _) | (with_reducible refine bs ?_ (by first | exact Nat.le_refl _ | omega | (simp; done) | (simp; omega)) _) | (with_reducible refine bt ?_ (by with_reducible assumption))))) (Tab.below hL (by repeat (first | (with_reducible exact Below.refl _ _) | (with_reducible assumption) | (with_reducible refine bdrew ?_) | (with_reducible refine baa ?_ _) | (with_reducible refine bs ?_ (by first | exact Nat.le_refl _ | omega | (simp; done) | (simp; omega)) _) | (with_reducible refine bt ?_ (by with_reducible assumption))))) (Tab.below hP (by repeat (first | (with_reducible exact Below.refl _ _) | (with_reducible assumption) | (with_reducible refine bdrew ?_) | (with_reducible refine baa ?_ _) | (with_reducible refine bs ?_ (by first | exact Nat.le_refl _ | omega | (simp; done) | (simp; omega)) _) | (with_reducible refine bt ?_ (by with_reducible assumption)))))).mono ?_
  rintro e w1 ⟨rfl, hb1⟩
  obtain ⟨hc1, hf1⟩ := bcell hb1
  have hz1 := hb1.size
  try simp at hz1
  have hl1w : w.heap.size < w1.heap.size := by omega
  have hm1w : w.heap.size ≤ w1.heap.size := by omega
  have hs1x1 : (w.heap.size + 1) < w1.heap.size := by omega
  have g1x0 : w1.cell? ⟨w.heap.size, 0, none⟩ = some (.int .i64 (y)) := (hc1 _ _ (by first | omega | (simp; done) | (simp; omega))).trans (by first | (with_reducible assumption) | (simp [go_sem]; done) | (simp [go_sem, *]; done) | assumption)
  have g1x1 : w1.cell? ⟨w.heap.size, 1, none⟩ = some (.int .i64 (n)) := (hc1 _ _ (by first | omega | (simp; done) | (simp; omega))).trans (by first | (with_reducible assumption) | (simp [go_sem]; done) | (simp [go_sem, *]; done) | assumption)
  have g1x2 : w1.cell? ⟨w.heap.size, 2, none⟩ = some (.bool (l)) := (hc1 _ _ (by first | omega | (simp; done) | (simp; omega))).trans (by first | (with_reducible assumption) | (simp [go_sem]; done) | (simp [go_sem, *]; done) | assumption)
  have g1x3 : w1.cell? ⟨w.heap.size, 3, none⟩ = some (.int .i64 (d)) := (hc1 _ _ (by first | omega | (simp; done) | (simp; omega))).trans (by first | (with_reducible assumption) | (simp [go_sem]; done) | (simp [go_sem, *]; done) | assumption)
  have g1x4 : w1.cell? ⟨(w.heap.size + 1), 0, none⟩ = some (.int .i64 (cy)) := (hc1 _ _ (by first | omega | (simp; done) | (simp; omega))).trans (by first | (with_reducible assumption) | (simp [go_sem]; done) | (simp [go_sem, *]; done) | assumption)
  have g1x5 : w1.cell? ⟨(w.heap.size + 1), 1, none⟩ = some (.int .i64 (cm)) := (hc1 _ _ (by first | omega | (simp; done) | (simp; omega))).trans (by first | (with_reducible assumption) | (simp [go_sem]; done) | (simp [go_sem, *]; done) | assumption)
  have g1x6 : w1.cell? ⟨(w.heap.size + 1), 2, none⟩ = some (.int .i64 (cd)) := (hc1 _ _ (by first | omega | (simp; done) | (simp; omega))).trans (by first | (with_reducible assumption) | (simp [go_sem]; done) | (simp [go_sem, *]; done) | assumption)
  go_wp2_with fail
  refine (HCk.out _).mono ?_
  rintro e w2 ⟨rfl, hb2⟩
  obtain ⟨hc2, hf2⟩ := bcell hb2
  have hz2 := hb2.size
  try simp at hz2
  have hl2w : w.heap.size < w2.heap.size := by omega
  have hm2w : w.heap.size ≤ w2.heap.size := by omega
  have hs2x1 : (w.heap.size + 1) < w2.heap.size := by omega
  have g2x0 : w2.cell? ⟨w.heap.size, 0, none⟩ = some (.int .i64 (y)) := (hc2 _ _ (by first | omega | (simp; done) | (simp; omega))).trans (by first | (with_reducible assumption) | (simp [go_sem]; done) | (simp [go_sem, *]; done) | assumption)
  have g2x1 : w2.cell? ⟨w.heap.size, 1, none⟩ = some (.int .i64 (n)) := (hc2 _ _ (by first | omega | (simp; done) | (simp; omega))).trans (by first | (with_reducible assumption) | (simp [go_sem]; done) | (simp [go_sem, *]; done) | assumption)
  have g2x2 : w2.cell? ⟨w.heap.size, 2, none⟩ = some (.bool (l)) := (hc2 _ _ (by first | omega | (simp; done) | (simp; omega))).trans (by first | (with_reducible assumption) | (simp [go_sem]; done) | (simp [go_sem, *]; done) | assumption)
  have g2x3 : w2.cell? ⟨w.heap.size, 3, none⟩ = some (.int .i64 (d)) := (hc2 _ _ (by first | omega | (simp; done) | (simp; omega))).trans (by first | (with_reducible assumption) | (simp [go_sem]; done) | (simp [go_sem, *]; done) | assumption)
  have g2x4 : w2.cell? ⟨(w.heap.size + 1), 0, none⟩ = some (.int .i64 (cy)) := (hc2 _ _ (by first | omega | (simp; done) | (simp; omega))).trans (by first | (with_reducible assumption) | (simp [go_sem]; done) | (simp [go_sem, *]; done) | assumption)
  have g2x5 : w2.cell? ⟨(w.heap.size + 1), 1, none⟩ = some (.int .i64 (cm)) := (hc2 _ _ (by first | omega | (simp; done) | (simp; omega))).trans (by first | (with_reducible assumption) | (simp [go_sem]; done) | (simp [go_sem, *]; done) | assumption)
  have g2x6 : w2.cell? ⟨(w.heap.size + 1), 2, none⟩ = some (.int .i64 (cd)) := (hc2 _ _ (by first | omega | (simp; done) | (simp; omega))).trans (by first | (with_reducible assumption) | (simp [go_sem]; done) | (simp [go_sem, *]; done) | assumption)
  go_upto_if 38 with (fail)
  go_cut [7, 8] from 22 (fun _ _ wx => wx.cell? ⟨w.heap.size, 0, none⟩ = some (.int .i64 (y)) ∧ wx.cell? ⟨w.heap.size, 1, none⟩ = some (.int .i64 (n)) ∧ wx.cell? ⟨w.heap.size, 2, none⟩ = some (.bool (l)) ∧ wx.cell? ⟨w.heap.size, 3, none⟩ = some (.int .i64 (d)) ∧ wx.cell? ⟨(w.heap.size + 1), 0, none⟩ = some (.int .i64 (cy)) ∧ wx.cell? ⟨(w.heap.size + 1), 1, none⟩ = some (.int .i64 (cm)) ∧ wx.cell? ⟨(w.heap.size + 1), 2, none⟩ = some (.int .i64 (cd)) ∧ w.heap.size < wx.heap.size ∧ w.heap.size + 1 < wx.heap.size ∧ Below w.heap.size w wx)
  case first =>
    cases hE : (e1 == 0) with
    | false =>
      go_wp2_with fail
      go_meet
      exact ⟨by with_reducible assumption, by with_reducible assumption, by with_reducible assumption, by with_reducible assumption, by with_reducible assumption, by with_reducible assumption, by with_reducible assumption, by omega, by omega, by repeat (first | (with_reducible exact Below.refl _ _) | (with_reducible assumption) | (with_reducible refine bdrew ?_) | (with_reducible refine baa ?_ _) | (with_reducible refine bs ?_ (by first | exact Nat.le_refl _ | omega | (simp; done) | (simp; omega)) _) | (with_reducible refine bt ?_ (by with_reducible assumption)))⟩
    | true =>
      go_wp2_with fail
      refine (HRA.out hE _ (Tab.below hT (by repeat (first | (with_reducible exact Below.refl _ _) | (with_reducible assumption) | (with_reducible refine bdrew ?_) | (with_reducible refine baa ?_ _) | (with_reducible refine bs ?_ (by first | exact Nat.le_refl _ | omega | (simp; done) | (simp; omega)) _) | (with_reducible refine bt ?_ (by with_reducible assumption))))) (Tab.below hL (by repeat (first | (with_reducible exact Below.refl _ _) | (with_reducible assumption) | (with_reducible refine bdrew ?_) | (with_reducible refine baa ?_ _) | (with_reducible refine bs ?_ (by first | exact Nat.le_refl _ | omega | (simp; done) | (simp; omega)) _) | (with_reducible refine bt ?_ (by with_reducible assumption))))) (MaxAt.below hm (by repeat (first | (with_reducible exact Below.refl _ _) | (with_reducible assumption) | (with_reducible refine bdrew ?_) | (with_reducible refine baa ?_ _) | (with_reducible refine bs ?_ (by first | exact Nat.le_refl _ | omega | (simp; done) | (simp; omega)) _) | (with_reducible refine bt ?_ (by with_reducible assumption)))))).mono ?_
      rintro e w3 ⟨rfl, hb3⟩
      obtain ⟨hc3, hf3⟩ := bcell hb3
      have hz3 := hb3.size
      try simp at hz3
      have hl3w : w.heap.size < w3.heap.size := by omega
      have hm3w : w.heap.size ≤ w3.heap.size := by omega
      have hs3x1 : (w.heap.size + 1) < w3.heap.size := by omega
      have g3x0 : w3.cell? ⟨w.heap.size, 0, none⟩ = some (.int .i64 (y)) := (hc3 _ _ (by first | omega | (simp; done) | (simp; omega))).trans (by first | (with_reducible assumption) | (simp [go_sem]; done) | (simp [go_sem, *]; done) | assumption)
      have g3x1 : w3.cell? ⟨w.heap.size, 1, none⟩ = some (.int .i64 (n)) := (hc3 _ _ (by first | omega | (simp; done) | (simp; omega))).trans (by first | (with_reducible assumption) | (simp [go_sem]; done) | (simp [go_sem, *]; done) | assumption)
      have g3x2 : w3.cell? ⟨w.heap.size, 2, none⟩ = some (.bool (l)) := (hc3 _ _ (by first | omega | (simp; done) | (simp; omega))).trans (by first | (with_reducible assumption) | (simp [go_sem]; done) | (simp [go_sem, *]; done) | assumption)
      have g3x3 : w3.cell? ⟨w.heap.size, 3, none⟩ = some (.int .i64 (d)) := (hc3 _ _ (by first | omega | (simp; done) | (simp; omega))).trans (by first | (with_reducible assumption) | (simp [go_sem]; done) | (simp [go_sem, *]; done) | assumption)
      have g3x4 : w3.cell? ⟨(w.heap.size + 1), 0, none⟩ = some (.int .i64 (cy)) := (hc3 _ _ (by first | omega | (simp; done) | (simp; omega))).trans (by first | (with_reducible assumption) | (simp [go_sem]; done) | (simp [go_sem, *]; done) | assumption)
      have g3x5 : w3.cell? ⟨(w.heap.size + 1), 1, none⟩ = some (.int .i64 (cm)) := (hc3 _ _ (by first | omega | (simp; done) | (simp; omega))).trans (by first | (with_reducible assumption) | (simp [go_sem]; done) | (simp [go_sem, *]; done) | assumption)
      have g3x6 : w3.cell? ⟨(w.heap.size + 1), 2, none⟩ = some (.int .i64 (cd)) := (hc3 _ _ (by first | omega | (simp; done) | (simp; omega))).trans (by first | (with_reducible assumption) | (simp [go_sem]; done) | (simp [go_sem, *]; done) | assumption)
      go_wp2_with fail
      go_meet
      refine ⟨?_, ?_, ?_, ?_, ?_, ?_, ?_, ?_, ?_, ?_⟩
      · first | (with_reducible assumption) | (simp [go_sem, *]; done)
      · first | (with_reducible assumption) | (simp [go_sem, *]; done)
      · first | (with_reducible assumption) | (simp [go_sem, *]; done)
      · first | (with_reducible assumption) | (simp [go_sem, *]; done)
      · first | (with_reducible assumption) | (simp [go_sem, *]; done)
      · first | (with_reducible assumption) | (simp [go_sem, *]; done)
      · first | (with_reducible assumption) | (simp [go_sem, *]; done)
      · simp; omega
      · simp; omega
      · repeat (first | (with_reducible exact Below.refl _ _) | (with_reducible assumption) | (with_reducible refine bdrew ?_) | (with_reducible refine baa ?_ _) | (with_reducible refine bs ?_ (by first | exact Nat.le_refl _ | omega | (simp; done) | (simp; omega)) _) | (with_reducible refine bt ?_ (by with_reducible assumption)))
  case rest =>
    obtain ⟨p3x0, p3x1, p3x2, p3x3, p3x4, p3x5, p3x6, p3s, p3t, hB3⟩ := hcut
    go_wp2_with fail
    refine (HCv.out _ (Tab.below hG (by repeat (first | (with_reducible exact Below.refl _ _) | (with_reducible assumption) | (with_reducible refine bdrew ?_) | (with_reducible refine baa ?_ _) | (with_reducible refine bs ?_ (by first | exact Nat.le_refl _ | omega | (simp; done) | (simp; omega)) _) | (with_reducible refine bt ?_ (by with_reducible assumption))))) (Tab.below hP (by repeat (first | (with_reducible exact Below.refl _ _) | (with_reducible assumption) | (with_reducible refine bdrew ?_) | (with_reducible refine baa ?_ _) | (with_reducible refine bs ?_ (by first | exact Nat.le_refl _ | omega | (simp; done) | (simp; omega)) _) | (with_reducible refine bt ?_ (by with_reducible assumption)))))).mono ?_
    rintro e w4 ⟨rfl, hb4⟩
    obtain ⟨hc4, hf4⟩ := bcell hb4
    have hz4 := hb4.size
    try simp at hz4
    have hl4w : w.heap.size < w4.heap.size := by omega
    have hm4w : w.heap.size ≤ w4.heap.size := by omega
    have hs4x1 : (w.heap.size + 1) < w4.heap.size := by omega
    have g4x0 : w4.cell? ⟨w.heap.size, 0, none⟩ = some (.int .i64 (y)) := (hc4 _ _ (by first | omega | (simp; done) | (simp; omega))).trans (by first | (with_reducible assumption) | (simp [go_sem]; done) | (simp [go_sem, *]; done) | assumption)
    have g4x1 : w4.cell? ⟨w.heap.size, 1, none⟩ = some (.int .i64 (n)) := (hc4 _ _ (by first | omega | (simp; done) | (simp; omega))).trans (by first | (with_reducible assumption) | (simp [go_sem]; done) | (simp [go_sem, *]; done) | assumption)
    have g4x2 : w4.cell? ⟨w.heap.size, 2, none⟩ = some (.bool (l)) := (hc4 _ _ (by first | omega | (simp; done) | (simp; omega))).trans (by first | (with_reducible assumption) | (simp [go_sem]; done) | (simp [go_sem, *]; done) | assumption)
    have g4x3 : w4.cell? ⟨w.heap.size, 3, none⟩ = some (.int .i64 (d)) := (hc4 _ _ (by first | omega | (simp; done) | (simp; omega))).trans (by first | (with_reducible assumption) | (simp [go_sem]; done) | (simp [go_sem, *]; done) | assumption)
    have g4x4 : w4.cell? ⟨(w.heap.size + 1), 0, none⟩ = some (.int .i64 (cy)) := (hc4 _ _ (by first | omega | (simp; done) | (simp; omega))).trans (by first | (with_reducible assumption) | (simp [go_sem]; done) | (simp [go_sem, *]; done) | assumption)
    have g4x5 : w4.cell? ⟨(w.heap.size + 1), 1, none⟩ = some (.int .i64 (cm)) := (hc4 _ _ (by first | omega | (simp; done) | (simp; omega))).trans (by first | (with_reducible assumption) | (simp [go_sem]; done) | (simp [go_sem, *]; done) | assumption)
    have g4x6 : w4.cell? ⟨(w.heap.size + 1), 2, none⟩ = some (.int .i64 (cd)) := (hc4 _ _ (by first | omega | (simp; done) | (simp; omega))).trans (by first | (with_reducible assumption) | (simp [go_sem]; done) | (simp [go_sem, *]; done) | assumption)
    go_upto_if 57 with (fail)
    go_cut [8, 11] from 22 (fun _ _ wx => wx.cell? ⟨w.heap.size, 0, none⟩ = some (.int .i64 (y)) ∧ wx.cell? ⟨w.heap.size, 1, none⟩ = some (.int .i64 (n)) ∧ wx.cell? ⟨w.heap.size, 2, none⟩ = some (.bool (l)) ∧ wx.cell? ⟨w.heap.size, 3, none⟩ = some (.int .i64 (d)) ∧ wx.cell? ⟨(w.heap.size + 1), 0, none⟩ = some (.int .i64 (cy)) ∧ wx.cell? ⟨(w.heap.size + 1), 1, none⟩ = some (.int .i64 (cm)) ∧ wx.cell? ⟨(w.heap.size + 1), 2, none⟩ = some (.int .i64 (cd)) ∧ w.heap.size < wx.heap.size ∧ w.heap.size + 1 < wx.heap.size ∧ Below w.heap.size w wx)
    case first =>
      cases hE : (e2 == 0) with
      | false =>
        go_wp2_with fail
        go_meet
        exact ⟨by with_reducible assumption, by with_reducible assumption, by with_reducible assumption, by with_reducible assumption, by with_reducible assumption, by with_reducible assumption, by with_reducible assumption, by omega, by omega, by repeat (first | (with_reducible exact Below.refl _ _) | (with_reducible assumption) | (with_reducible refine bdrew ?_) | (with_reducible refine baa ?_ _) | (with_reducible refine bs ?_ (by first | exact Nat.le_refl _ | omega | (simp; done) | (simp; omega)) _) | (with_reducible refine bt ?_ (by with_reducible assumption)))⟩
      | true =>
        go_wp2_with fail
        refine (HRB.out hE _ (Tab.below hG (by repeat (first | (with_reducible exact Below.refl _ _) | (with_reducible assumption) | (with_reducible refine bdrew ?_) | (with_reducible refine baa ?_ _) | (with_reducible refine bs ?_ (by first | exact Nat.le_refl _ | omega | (simp; done) | (simp; omega)) _) | (with_reducible refine bt ?_ (by with_reducible assumption)))))).mono ?_
        rintro e w5 ⟨rfl, hb5⟩
        obtain ⟨hc5, hf5⟩ := bcell hb5
        have hz5 := hb5.size
        try simp at hz5
        have hl5w : w.heap.size < w5.heap.size := by omega
        have hm5w : w.heap.size ≤ w5.heap.size := by omega
        have hs5x1 : (w.heap.size + 1) < w5.heap.size := by omega
        have g5x0 : w5.cell? ⟨w.heap.size, 0, none⟩ = some (.int .i64 (y)) := (hc5 _ _ (by first | omega | (simp; done) | (simp; omega))).trans (by first | (with_reducible assumption) | (simp [go_sem]; done) | (simp [go_sem, *]; done) | assumption)
        have g5x1 : w5.cell? ⟨w.heap.size, 1, none⟩ = some (.int .i64 (n)) := (hc5 _ _ (by first | omega | (simp; done) | (simp; omega))).trans (by first | (with_reducible assumption) | (simp [go_sem]; done) | (simp [go_sem, *]; done) | assumption)
        have g5x2 : w5.cell? ⟨w.heap.size, 2, none⟩ = some (.bool (l)) := (hc5 _ _ (by first | omega | (simp; done) | (simp; omega))).trans (by first | (with_reducible assumption) | (simp [go_sem]; done) | (simp [go_sem, *]; done) | assumption)
        have g5x3 : w5.cell? ⟨w.heap.size, 3, none⟩ = some (.int .i64 (d)) := (hc5 _ _ (by first | omega | (simp; done) | (simp; omega))).trans (by first | (with_reducible assumption) | (simp [go_sem]; done) | (simp [go_sem, *]; done) | assumption)
        have g5x4 : w5.cell? ⟨(w.heap.size + 1), 0, none⟩ = some (.int .i64 (cy)) := (hc5 _ _ (by first | omega | (simp; done) | (simp; omega))).trans (by first | (with_reducible assumption) | (simp [go_sem]; done) | (simp [go_sem, *]; done) | assumption)
        have g5x5 : w5.cell? ⟨(w.heap.size + 1), 1, none⟩ = some (.int .i64 (cm)) := (hc5 _ _ (by first | omega | (simp; done) | (simp; omega))).trans (by first | (with_reducible assumption) | (simp [go_sem]; done) | (simp [go_sem, *]; done) | assumption)
        have g5x6 : w5.cell? ⟨(w.heap.size + 1), 2, none⟩ = some (.int .i64 (cd)) := (hc5 _ _ (by first | omega | (simp; done) | (simp; omega))).trans (by first | (with_reducible assumption) | (simp [go_sem]; done) | (simp [go_sem, *]; done) | assumption)
        go_wp2_with fail
        go_meet
        refine ⟨?_, ?_, ?_, ?_, ?_, ?_, ?_, ?_, ?_, ?_⟩
        · first | (with_reducible assumption) | (simp [go_sem, *]; done)
        · first | (with_reducible assumption) | (simp [go_sem, *]; done)
        · first | (with_reducible assumption) | (simp [go_sem, *]; done)
        · first | (with_reducible assumption) | (simp [go_sem, *]; done)
        · first | (with_reducible assumption) | (simp [go_sem, *]; done)
        · first | (with_reducible assumption) | (simp [go_sem, *]; done)
        · first | (with_reducible assumption) | (simp [go_sem, *]; done)
        · simp; omega
        · simp; omega
        · repeat (first | (with_reducible exact Below.refl _ _) | (with_reducible assumption) | (with_reducible refine bdrew ?_) | (with_reducible refine baa ?_ _) | (with_reducible refine bs ?_ (by first | exact Nat.le_refl _ | omega | (simp; done) | (simp; omega)) _) | (with_reducible refine bt ?_ (by with_reducible assumption)))
    case rest =>
      obtain ⟨p5x0, p5x1, p5x2, p5x3, p5x4, p5x5, p5x6, p5s, p5t, hB5⟩ := hcut
      clear p5x0 p5x1 p5x2 p5x3 p5x4 p5x5 p5x6 p5s p5t
      go_wp2_with fail
      refine (HRS.out _ (Tab.below hT (by repeat (first | (with_reducible exact Below.refl _ _) | (with_reducible assumption) | (with_reducible refine bdrew ?_) | (with_reducible refine baa ?_ _) | (with_reducible refine bs ?_ (by first | exact Nat.le_refl _ | omega | (simp; done) | (simp; omega)) _) | (with_reducible refine bt ?_ (by with_reducible assumption))))) (Tab.below hL (by repeat (first | (with_reducible exact Below.refl _ _) | (with_reducible assumption) | (with_reducible refine bdrew ?_) | (with_reducible refine baa ?_ _) | (with_reducible refine bs ?_ (by first | exact Nat.le_refl _ | omega | (simp; done) | (simp; omega)) _) | (with_reducible refine bt ?_ (by with_reducible assumption))))) (MaxAt.below hm (by repeat (first | (with_reducible exact Below.refl _ _) | (with_reducible assumption) | (with_reducible refine bdrew ?_) | (with_reducible refine baa ?_ _) | (with_reducible refine bs ?_ (by first | exact Nat.le_refl _ | omega | (simp; done) | (simp; omega)) _) | (with_reducible refine bt ?_ (by with_reducible assumption)))))).mono ?_
      rintro e w6 ⟨rfl, hb6⟩
      obtain ⟨hc6, hf6⟩ := bcell hb6
      have hz6 := hb6.size
      try simp at hz6
      go_wp2_with fail
      refine (HHb.out _ (Tab.below hT (by repeat (first | (with_reducible exact Below.refl _ _) | (with_reducible assumption) | (with_reducible refine bdrew ?_) | (with_reducible refine baa ?_ _) | (with_reducible refine bs ?_ (by first | exact Nat.le_refl _ | omega | (simp; done) | (simp; omega)) _) | (with_reducible refine bt ?_ (by with_reducible assumption))))) (Tab.below hL (by repeat (first | (with_reducible exact Below.refl _ _) | (with_reducible assumption) | (with_reducible refine bdrew ?_) | (with_reducible refine baa ?_ _) | (with_reducible refine bs ?_ (by first | exact Nat.le_refl _ | omega | (simp; done) | (simp; omega)) _) | (with_reducible refine bt ?_ (by with_reducible assumption))))) (Tab.below hP (by repeat (first | (with_reducible exact Below.refl _ _) | (with_reducible assumption) | (with_reducible refine bdrew ?_) | (with_reducible refine baa ?_ _) | (with_reducible refine bs ?_ (by first | exact Nat.le_refl _ | omega | (simp; done) | (simp; omega)) _) | (with_reducible refine bt ?_ (by with_reducible assumption)))))).mono ?_
      rintro e w7 ⟨rfl, hb7⟩
      obtain ⟨hc7, hf7⟩ := bcell hb7
      have hz7 := hb7.size
      try simp at hz7
      go_upto_region 17 with (fail)
      have hB7 : Below w.heap.size w w7 := by repeat (first | (with_reducible exact Below.refl _ _) | (with_reducible assumption) | (with_reducible refine bdrew ?_) | (with_reducible refine baa ?_ _) | (with_reducible refine bs ?_ (by first | exact Nat.le_refl _ | omega | (simp; done) | (simp; omega)) _) | (with_reducible refine bt ?_ (by with_reducible assumption)))
      go_cut [120] from 22 (fun v wx => v = .bool false ∧ Below w.heap.size w wx)
      case first =>
        rcases HF.out with ⟨rfl, q, q3, q4, z1, z2, z3, z4, z5, z6, z7⟩ | rfl | rfl
        · have z8 : (q : Int) ≤ 97 := by omega
          have z9 : (8 : Int) ≤ (q : Int) := by omega
          refine wp_region_class (by kernel_rfl) (by kernel_rfl) (fun hall => ?_)
          repeat (first | go_big_quiet_skip | (go_big_quiet_want; first | (refine quiet_load1 _ _ _ rfl rfl ?_ ?_ ?_; (focus (intro _; simp; done)); (focus (first | assumption | omega | (simp; done) | (simp; omega))); apply Exists.intro; refine ⟨?_, ?_⟩; assumption; go_simp; go_big_quiet_on) | (refine quiet_load2 _ _ _ _ rfl rfl ?_ ?_ ?_ ?_; (focus (intro _; simp; done)); (focus (intro _; simp; done)); (focus (first | assumption | omega | (simp; done) | (simp; omega))); apply Exists.intro; apply Exists.intro; refine ⟨?_, ?_, ?_⟩; assumption; assumption; go_simp; go_big_quiet_on) | (refine quiet_load3 _ _ _ _ rfl rfl ?_ ?_ ?_ ?_; (focus (intro _; simp; done)); (focus (intro _; simp; done)); (focus (first | assumption | omega | (simp; done) | (simp; omega))); apply Exists.intro; apply Exists.intro; apply Exists.intro; refine ⟨?_, ?_, ?_, ?_⟩; assumption; assumption; assumption; go_simp; go_big_quiet_on) | (refine quiet_load4 _ _ _ _ rfl rfl ?_ ?_ ?_ ?_; (focus (intro _; simp; done)); (focus (intro _; simp; done)); (focus (first | assumption | omega | (simp; done) | (simp; omega))); apply Exists.intro; apply Exists.intro; apply Exists.intro; apply Exists.intro; refine ⟨?_, ?_, ?_, ?_, ?_⟩; assumption; assumption; assumption; assumption; go_simp; go_big_quiet_on) | (go_big_quiet_op; first | go_big_quiet_on | (apply Exists.intro; refine ⟨fun x hx => ?_, ?_⟩; (first | fail); go_big_quiet_on))))
          refine wpQuiet_nil ?_
          clear hall
          intro x17a hx17a
          go_wp2_with fail
          go_meet
          exact ⟨rfl, bt hB7 hx17a⟩
        · refine wp_region_class (by kernel_rfl) (by kernel_rfl) (fun hall => ?_)
          repeat (first | go_big_quiet_skip | (go_big_quiet_want; first | (refine quiet_load1 _ _ _ rfl rfl ?_ ?_ ?_; (focus (intro _; simp; done)); (focus (first | assumption | omega | (simp; done) | (simp; omega))); apply Exists.intro; refine ⟨?_, ?_⟩; assumption; go_simp; go_big_quiet_on) | (refine quiet_load2 _ _ _ _ rfl rfl ?_ ?_ ?_ ?_; (focus (intro _; simp; done)); (focus (intro _; simp; done)); (focus (first | assumption | omega | (simp; done) | (simp; omega))); apply Exists.intro; apply Exists.intro; refine ⟨?_, ?_, ?_⟩; assumption; assumption; go_simp; go_big_quiet_on) | (refine quiet_load3 _ _ _ _ rfl rfl ?_ ?_ ?_ ?_; (focus (intro _; simp; done)); (focus (intro _; simp; done)); (focus (first | assumption | omega | (simp; done) | (simp; omega))); apply Exists.intro; apply Exists.intro; apply Exists.intro; refine ⟨?_, ?_, ?_, ?_⟩; assumption; assumption; assumption; go_simp; go_big_quiet_on) | (refine quiet_load4 _ _ _ _ rfl rfl ?_ ?_ ?_ ?_; (focus (intro _; simp; done)); (focus (intro _; simp; done)); (focus (first | assumption | omega | (simp; done) | (simp; omega))); apply Exists.intro; apply Exists.intro; apply Exists.intro; apply Exists.intro; refine ⟨?_, ?_, ?_, ?_, ?_⟩; assumption; assumption; assumption; assumption; go_simp; go_big_quiet_on) | (go_big_quiet_op; first | go_big_quiet_on | (apply Exists.intro; refine ⟨fun x hx => ?_, ?_⟩; (first | fail); go_big_quiet_on))))
          refine wpQuiet_nil ?_
          clear hall
          intro x17b hx17b
          go_wp2_with fail
          go_meet
          exact ⟨rfl, bt hB7 hx17b⟩
        · refine wp_region_class (by kernel_rfl) (by kernel_rfl) (fun hall => ?_)
          repeat (first | go_big_quiet_skip | (go_big_quiet_want; first | (refine quiet_load1 _ _ _ rfl rfl ?_ ?_ ?_; (focus (intro _; simp; done)); (focus (first | assumption | omega | (simp; done) | (simp; omega))); apply Exists.intro; refine ⟨?_, ?_⟩; assumption; go_simp; go_big_quiet_on) | (refine quiet_load2 _ _ _ _ rfl rfl ?_ ?_ ?_ ?_; (focus (intro _; simp; done)); (focus (intro _; simp; done)); (focus (first | assumption | omega | (simp; done) | (simp; omega))); apply Exists.intro; apply Exists.intro; refine ⟨?_, ?_, ?_⟩; assumption; assumption; go_simp; go_big_quiet_on) | (refine quiet_load3 _ _ _ _ rfl rfl ?_ ?_ ?_ ?_; (focus (intro _; simp; done)); (focus (intro _; simp; done)); (focus (first | assumption | omega | (simp; done) | (simp; omega))); apply Exists.intro; apply Exists.intro; apply Exists.intro; refine ⟨?_, ?_, ?_, ?_⟩; assumption; assumption; assumption; go_simp; go_big_quiet_on) | (refine quiet_load4 _ _ _ _ rfl rfl ?_ ?_ ?_ ?_; (focus (intro _; simp; done)); (focus (intro _; simp; done)); (focus (first | assumption | omega | (simp; done) | (simp; omega))); apply Exists.intro; apply Exists.intro; apply Exists.intro; apply Exists.intro; refine ⟨?_, ?_, ?_, ?_, ?_⟩; assumption; assumption; assumption; assumption; go_simp; go_big_quiet_on) | (go_big_quiet_op; first | go_big_quiet_on | (apply Exists.intro; refine ⟨fun x hx => ?_, ?_⟩; (first | fail); go_big_quiet_on))))
          refine wpQuiet_nil ?_
          clear hall
          intro x17c hx17c
          go_wp2_with fail
          go_meet
          exact ⟨rfl, bt hB7 hx17c⟩
      case rest =>
        obtain ⟨rfl, hB8⟩ := hcut
        go_wp2_with fail
        refine (HRC.out _ (Tab.below hG (by repeat (first | (with_reducible exact Below.refl _ _) | (with_reducible assumption) | (with_reducible refine bdrew ?_) | (with_reducible refine baa ?_ _) | (with_reducible refine bs ?_ (by first | exact Nat.le_refl _ | omega | (simp; done) | (simp; omega)) _) | (with_reducible refine bt ?_ (by with_reducible assumption)))))).mono ?_
        rintro e w9 ⟨rfl, hb9⟩
        obtain ⟨hc9, hf9⟩ := bcell hb9
        have hz9 := hb9.size
        try simp at hz9
        go_wp2_with fail
        refine (HCg.out _ (Tab.below hG (by repeat (first | (with_reducible exact Below.refl _ _) | (with_reducible assumption) | (with_reducible refine bdrew ?_) | (with_reducible refine baa ?_ _) | (with_reducible refine bs ?_ (by first | exact Nat.le_refl _ | omega | (simp; done) | (simp; omega)) _) | (with_reducible refine bt ?_ (by with_reducible assumption))))) (Tab.below hP (by repeat (first | (with_reducible exact Below.refl _ _) | (with_reducible assumption) | (with_reducible refine bdrew ?_) | (with_reducible refine baa ?_ _) | (with_reducible refine bs ?_ (by first | exact Nat.le_refl _ | omega | (simp; done) | (simp; omega)) _) | (with_reducible refine bt ?_ (by with_reducible assumption)))))).mono ?_
        rintro e w10 ⟨rfl, hb10⟩
        obtain ⟨hc10, hf10⟩ := bcell hb10
        have hz10 := hb10.size
        try simp at hz10
        go_wp2_with fail
        rcases HK.out with ⟨rfl, rfl⟩ | rfl | rfl
        · refine (HW.out _ (Tab.below hT (by repeat (first | (with_reducible exact Below.refl _ _) | (with_reducible assumption) | (with_reducible refine bdrew ?_) | (with_reducible refine baa ?_ _) | (with_reducible refine bs ?_ (by first | exact Nat.le_refl _ | omega | (simp; done) | (simp; omega)) _) | (with_reducible refine bt ?_ (by with_reducible assumption))))) (Tab.below hL (by repeat (first | (with_reducible exact Below.refl _ _) | (with_reducible assumption) | (with_reducible refine bdrew ?_) | (with_reducible refine baa ?_ _) | (with_reducible refine bs ?_ (by first | exact Nat.le_refl _ | omega | (simp; done) | (simp; omega)) _) | (with_reducible refine bt ?_ (by with_reducible assumption))))) (Tab.below hP (by repeat (first | (with_reducible exact Below.refl _ _) | (with_reducible assumption) | (with_reducible refine bdrew ?_) | (with_reducible refine baa ?_ _) | (with_reducible refine bs ?_ (by first | exact Nat.le_refl _ | omega | (simp; done) | (simp; omega)) _) | (with_reducible refine bt ?_ (by with_reducible assumption))))) (Tab.below hG (by repeat (first | (with_reducible exact Below.refl _ _) | (with_reducible assumption) | (with_reducible refine bdrew ?_) | (with_reducible refine baa ?_ _) | (with_reducible refine bs ?_ (by first | exact Nat.le_refl _ | omega | (simp; done) | (simp; omega)) _) | (with_reducible refine bt ?_ (by with_reducible assumption))))) (MaxAt.below hm (by repeat (first | (with_reducible exact Below.refl _ _) | (with_reducible assumption) | (with_reducible refine bdrew ?_) | (with_reducible refine baa ?_ _) | (with_reducible refine bs ?_ (by first | exact Nat.le_refl _ | omega | (simp; done) | (simp; omega)) _) | (with_reducible refine bt ?_ (by with_reducible assumption)))))).mono ?_
          rintro e w11 ⟨rfl, hb11⟩
          obtain ⟨hc11, hf11⟩ := bcell hb11
          have hz11 := hb11.size
          try simp at hz11
          go_wp2_with fail
          go_ret
          refine ⟨by first | rfl | (simp [*]; done), ?_⟩
          repeat (first | (with_reducible exact Below.refl _ _) | (with_reducible assumption) | (with_reducible refine bdrew ?_) | (with_reducible refine baa ?_ _) | (with_reducible refine bs ?_ (by first | exact Nat.le_refl _ | omega | (simp; done) | (simp; omega)) _) | (with_reducible refine bt ?_ (by with_reducible assumption)))
        · refine (HW.out _ (Tab.below hT (by repeat (first | (with_reducible exact Below.refl _ _) | (with_reducible assumption) | (with_reducible refine bdrew ?_) | (with_reducible refine baa ?_ _) | (with_reducible refine bs ?_ (by first | exact Nat.le_refl _ | omega | (simp; done) | (simp; omega)) _) | (with_reducible refine bt ?_ (by with_reducible assumption))))) (Tab.below hL (by repeat (first | (with_reducible exact Below.refl _ _) | (with_reducible assumption) | (with_reducible refine bdrew ?_) | (with_reducible refine baa ?_ _) | (with_reducible refine bs ?_ (by first | exact Nat.le_refl _ | omega | (simp; done) | (simp; omega)) _) | (with_reducible refine bt ?_ (by with_reducible assumption))))) (Tab.below hP (by repeat (first | (with_reducible exact Below.refl _ _) | (with_reducible assumption) | (with_reducible refine bdrew ?_) | (with_reducible refine baa ?_ _) | (with_reducible refine bs ?_ (by first | exact Nat.le_refl _ | omega | (simp; done) | (simp; omega)) _) | (with_reducible refine bt ?_ (by with_reducible assumption))))) (Tab.below hG (by repeat (first | (with_reducible exact Below.refl _ _) | (with_reducible assumption) | (with_reducible refine bdrew ?_) | (with_reducible refine baa ?_ _) | (with_reducible refine bs ?_ (by first | exact Nat.le_refl _ | omega | (simp; done) | (simp; omega)) _) | (with_reducible refine bt ?_ (by with_reducible assumption))))) (MaxAt.below hm (by repeat (first | (with_reducible exact Below.refl _ _) | (with_reducible assumption) | (with_reducible refine bdrew ?_) | (with_reducible refine baa ?_ _) | (with_reducible refine bs ?_ (by first | exact Nat.le_refl _ | omega | (simp; done) | (simp; omega)) _) | (with_reducible refine bt ?_ (by with_reducible assumption)))))).mono ?_
          rintro e w11 ⟨rfl, hb11⟩
          obtain ⟨hc11, hf11⟩ := bcell hb11
          have hz11 := hb11.size
          try simp at hz11
          go_wp2_with fail
          go_ret
          refine ⟨by first | rfl | (simp [*]; done), ?_⟩
          repeat (first | (with_reducible exact Below.refl _ _) | (with_reducible assumption) | (with_reducible refine bdrew ?_) | (with_reducible refine baa ?_ _) | (with_reducible refine bs ?_ (by first | exact Nat.le_refl _ | omega | (simp; done) | (simp; omega)) _) | (with_reducible refine bt ?_ (by with_reducible assumption)))
        · refine (HW.out _ (Tab.below hT (by repeat (first | (with_reducible exact Below.refl _ _) | (with_reducible assumption) | (with_reducible refine bdrew ?_) | (with_reducible refine baa ?_ _) | (with_reducible refine bs ?_ (by first | exact Nat.le_refl _ | omega | (simp; done) | (simp; omega)) _) | (with_reducible refine bt ?_ (by with_reducible assumption))))) (Tab.below hL (by repeat (first | (with_reducible exact Below.refl _ _) | (with_reducible assumption) | (with_reducible refine bdrew ?_) | (with_reducible refine baa ?_ _) | (with_reducible refine bs ?_ (by first | exact Nat.le_refl _ | omega | (simp; done) | (simp; omega)) _) | (with_reducible refine bt ?_ (by with_reducible assumption))))) (Tab.below hP (by repeat (first | (with_reducible exact Below.refl _ _) | (with_reducible assumption) | (with_reducible refine bdrew ?_) | (with_reducible refine baa ?_ _) | (with_reducible refine bs ?_ (by first | exact Nat.le_refl _ | omega | (simp; done) | (simp; omega)) _) | (with_reducible refine bt ?_ (by with_reducible assumption))))) (Tab.below hG (by repeat (first | (with_reducible exact Below.refl _ _) | (with_reducible assumption) | (with_reducible refine bdrew ?_) | (with_reducible refine baa ?_ _) | (with_reducible refine bs ?_ (by first | exact Nat.le_refl _ | omega | (simp; done) | (simp; omega)) _) | (with_reducible refine bt ?_ (by with_reducible assumption))))) (MaxAt.below hm (by repeat (first | (with_reducible exact Below.refl _ _) | (with_reducible assumption) | (with_reducible refine bdrew ?_) | (with_reducible refine baa ?_ _) | (with_reducible refine bs ?_ (by first | exact Nat.le_refl _ | omega | (simp; done) | (simp; omega)) _) | (with_reducible refine bt ?_ (by with_reducible assumption)))))).mono ?_
          rintro e w11 ⟨rfl, hb11⟩
          obtain ⟨hc11, hf11⟩ := bcell hb11
          have hz11 := hb11.size
          try simp at hz11
          go_wp2_with fail
          go_ret
          refine ⟨by first | rfl | (simp [*]; done), ?_⟩
          repeat (first | (with_reducible exact Below.refl _ _) | (with_reducible assumption) | (with_reducible refine bdrew ?_) | (with_reducible refine baa ?_ _) | (with_reducible refine bs ?_ (by first | exact Nat.le_refl _ | omega | (simp; done) | (simp; omega)) _) | (with_reducible refine bt ?_ (by with_reducible assumption)))
end Go.Proofs.YtafenpgafmdenaaGreatDoor
