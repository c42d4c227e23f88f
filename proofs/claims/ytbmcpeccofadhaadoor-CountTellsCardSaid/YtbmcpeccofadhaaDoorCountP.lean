/- Layer 27: the document's steps, and the days between two dates. -/
import Derived.Test.YtbmcpeccofadhaaDoorCountQ
import Derived.Test.YtbmcpeccofadhaaDoorCountI
import Derived.LoopTactic
namespace Go.Proofs.YtbmcpeccofadhaaDoor
open Go.ChangeShapes Go.WideShapes Go.ChangeAt Go.RowKit
set_option linter.unusedVariables false
set_option maxRecDepth 100000
set_option maxHeartbeats 8000000 in
theorem ref27_Steps_up (s : Nat → Dt) (N : Nat) (hN : N ≤ 4000000) (n : Int) (w : World) (hn : 0 ≤ n ∧ n ≤ 3000) (HC : Hid (∀ w : World, Calls Tryd.prog 32 #[.agg #[.int .i64 (s 0).1, .int .i64 (s 0).2.1, .bool (s 0).2.2.1, .int .i64 (s 0).2.2.2]] w fun e w' => e = .returned (.int .i64 0) ∧ Below w.heap.size w w'))
    (HS : Hid (∀ k, k < N → ∀ W : World, Calls Tryd.prog 13 #[.agg #[.int .i64 (s k).1, .int .i64 (s k).2.1, .bool (s k).2.2.1, .int .i64 (s k).2.2.2]] W fun e w' => e = .returned (.tuple #[.agg #[.int .i64 (s (k + 1)).1, .int .i64 (s (k + 1)).2.1, .bool (s (k + 1)).2.2.1, .int .i64 (s (k + 1)).2.2.2], .int .i64 0]) ∧ Below W.heap.size W w'))
    (HE : Hid (∀ W : World, Calls Tryd.prog 13 #[.agg #[.int .i64 (s N).1, .int .i64 (s N).2.1, .bool (s N).2.2.1, .int .i64 (s N).2.2.2]] W fun e w' => e = .returned (.tuple #[.agg #[.int .i64 0, .int .i64 0, .bool false, .int .i64 0], .int .i64 2]) ∧ Below W.heap.size W w')) (q : Nat) (hq : (q : Int) = n) (R : Dt) (er : Int) (hR : (q ≤ N → R = s q ∧ er = 0) ∧ (¬ q ≤ N → R = (0, 0, false, 0) ∧ er = 2)) :
    Calls Tryd.prog 17 #[.agg #[.int .i64 (s 0).1, .int .i64 (s 0).2.1, .bool (s 0).2.2.1, .int .i64 (s 0).2.2.2], .int .i64 n] w fun e w' => e = .returned (.tuple #[.agg #[.int .i64 (R).1, .int .i64 (R).2.1, .bool (R).2.2.1, .int .i64 (R).2.2.2], .int .i64 er]) ∧ Below w.heap.size w w' := by
  obtain ⟨n1, n2⟩ := hn
  have hn0 : Hid (n = (q : Int) - ((0 : Nat) : Int)) := Lib.hid (by omega)
  have N1 : ¬ n < -3000 := by omega
  have N2 : ¬ 3000 < n := by omega
  have M1 : decide (n < -3000) = false := by simpa using N1
  have M2 : decide (3000 < n) = false := by simpa using N2
  have q3 : q ≤ 3000 := by omega
  clear hq
  go_enter Tryd.func17, Tryd.ntmps17
  go_wp2_with fail
  refine (HC.out _).mono ?_
  rintro e w1 ⟨rfl, hb1⟩
  obtain ⟨hc1, hf1⟩ := bcell hb1
  have hz1 := hb1.size
  simp at hz1
  have d0 : w1.cell? ⟨w.heap.size, 0, none⟩ = some (.int .i64 (s 0).1) := (hc1 _ _ (by first | (simp; done) | (simp; omega))).trans (by simp [go_sem])
  have d1 : w1.cell? ⟨w.heap.size, 1, none⟩ = some (.int .i64 (s 0).2.1) := (hc1 _ _ (by first | (simp; done) | (simp; omega))).trans (by simp [go_sem])
  have d2 : w1.cell? ⟨w.heap.size, 2, none⟩ = some (.bool (s 0).2.2.1) := (hc1 _ _ (by first | (simp; done) | (simp; omega))).trans (by simp [go_sem])
  have d3 : w1.cell? ⟨w.heap.size, 3, none⟩ = some (.int .i64 (s 0).2.2.2) := (hc1 _ _ (by first | (simp; done) | (simp; omega))).trans (by simp [go_sem])
  have r0 : w1.cell? ⟨w.heap.size + 1, 0, none⟩ = some (.int .i64 0) := (hc1 _ _ (by first | (simp; done) | (simp; omega))).trans (by simp [go_sem])
  have z0 : w1.frozen? ⟨w.heap.size + 1, 0, none⟩ = false := (hf1 _ _ (by first | (simp; done) | (simp; omega))).trans (by simp [go_sem])
  have y0 : w1.frozen? ⟨w.heap.size, 0, none⟩ = false := (hf1 _ _ (by first | (simp; done) | (simp; omega))).trans (by simp [go_sem])
  have r1 : w1.cell? ⟨w.heap.size + 1, 1, none⟩ = some (.int .i64 0) := (hc1 _ _ (by first | (simp; done) | (simp; omega))).trans (by simp [go_sem])
  have z1 : w1.frozen? ⟨w.heap.size + 1, 1, none⟩ = false := (hf1 _ _ (by first | (simp; done) | (simp; omega))).trans (by simp [go_sem])
  have y1 : w1.frozen? ⟨w.heap.size, 1, none⟩ = false := (hf1 _ _ (by first | (simp; done) | (simp; omega))).trans (by simp [go_sem])
  have r2 : w1.cell? ⟨w.heap.size + 1, 2, none⟩ = some (.bool false) := (hc1 _ _ (by first | (simp; done) | (simp; omega))).trans (by simp [go_sem])
  have z2 : w1.frozen? ⟨w.heap.size + 1, 2, none⟩ = false := (hf1 _ _ (by first | (simp; done) | (simp; omega))).trans (by simp [go_sem])
  have y2 : w1.frozen? ⟨w.heap.size, 2, none⟩ = false := (hf1 _ _ (by first | (simp; done) | (simp; omega))).trans (by simp [go_sem])
  have r3 : w1.cell? ⟨w.heap.size + 1, 3, none⟩ = some (.int .i64 0) := (hc1 _ _ (by first | (simp; done) | (simp; omega))).trans (by simp [go_sem])
  have z3 : w1.frozen? ⟨w.heap.size + 1, 3, none⟩ = false := (hf1 _ _ (by first | (simp; done) | (simp; omega))).trans (by simp [go_sem])
  have y3 : w1.frozen? ⟨w.heap.size, 3, none⟩ = false := (hf1 _ _ (by first | (simp; done) | (simp; omega))).trans (by simp [go_sem])
  have hB1 : Below w.heap.size w w1 := by repeat (first | (with_reducible exact Below.refl _ _) | (with_reducible assumption) | (with_reducible refine bdrew ?_) | (with_reducible refine baa ?_ _) | (with_reducible refine bs ?_ (by first | exact Nat.le_refl _ | omega | (simp; done) | (simp; omega)) _) | (with_reducible refine bt ?_ (by with_reducible assumption)))
  have l1 : w.heap.size + 1 < w1.heap.size := by omega
  clear hb1 hc1 hf1 HC
  go_wp2_with fail
  go_loopw [1, 6] (fun nv ev wr => ((wr.cell? ⟨w.heap.size + 1, 0, none⟩ = some (.int .i64 0) ∧ wr.cell? ⟨w.heap.size + 1, 1, none⟩ = some (.int .i64 0) ∧ wr.cell? ⟨w.heap.size + 1, 2, none⟩ = some (.bool false) ∧ wr.cell? ⟨w.heap.size + 1, 3, none⟩ = some (.int .i64 0)) ∧ (wr.frozen? ⟨w.heap.size + 1, 0, none⟩ = false ∧ wr.frozen? ⟨w.heap.size + 1, 1, none⟩ = false ∧ wr.frozen? ⟨w.heap.size + 1, 2, none⟩ = false ∧ wr.frozen? ⟨w.heap.size + 1, 3, none⟩ = false) ∧ (wr.frozen? ⟨w.heap.size, 0, none⟩ = false ∧ wr.frozen? ⟨w.heap.size, 1, none⟩ = false ∧ wr.frozen? ⟨w.heap.size, 2, none⟩ = false ∧ wr.frozen? ⟨w.heap.size, 3, none⟩ = false) ∧ w.heap.size + 1 < wr.heap.size ∧ Below w.heap.size w wr) ∧ ((∃ k : Nat, k ≤ q ∧ k ≤ N ∧ nv = .int .i64 ((q : Int) - k) ∧ ev = .int .i64 0 ∧ wr.cell? ⟨w.heap.size, 0, none⟩ = some (.int .i64 (s k).1) ∧ wr.cell? ⟨w.heap.size, 1, none⟩ = some (.int .i64 (s k).2.1) ∧ wr.cell? ⟨w.heap.size, 2, none⟩ = some (.bool (s k).2.2.1) ∧ wr.cell? ⟨w.heap.size, 3, none⟩ = some (.int .i64 (s k).2.2.2)) ∨ (N < q ∧ nv = .int .i64 ((q : Int) - (N + 1)) ∧ ev = .int .i64 2 ∧ wr.cell? ⟨w.heap.size, 0, none⟩ = some (.int .i64 0) ∧ wr.cell? ⟨w.heap.size, 1, none⟩ = some (.int .i64 0) ∧ wr.cell? ⟨w.heap.size, 2, none⟩ = some (.bool false) ∧ wr.cell? ⟨w.heap.size, 3, none⟩ = some (.int .i64 0)))) (fun nv ev _ => (intOf nv).toNat)
  case atStart => exact ⟨⟨⟨r0, r1, r2, r3⟩, ⟨z0, z1, z2, z3⟩, ⟨y0, y1, y2, y3⟩, l1, hB1⟩, .inl ⟨0, Nat.zero_le _, Nat.zero_le _, by rw [hn0.out], rfl, d0, d1, d2, d3⟩⟩
  case round =>
    obtain ⟨⟨⟨r0, r1, r2, r3⟩, ⟨z0, z1, z2, z3⟩, ⟨y0, y1, y2, y3⟩, l1, hB⟩, hst⟩ := hrel
    rcases hst with ⟨k, kq, kN, rfl, rfl, d0, d1, d2, d3⟩ | ⟨kq, rfl, rfl, d0, d1, d2, d3⟩
    · have l0 : w.heap.size < wr.heap.size := by omega
      by_cases hlt : k < q
      · have g1 : (0 : Int) < (q : Int) - k := by omega
        have g2 : decide ((0 : Int) < (q : Int) - k) = true := by simpa using g1
        have g3 : (q : Int) - k ≤ 3000 := by omega
        by_cases hN2 : k < N
        · have HX := Lib.hid (HS.out k hN2)
          go_wp2_with fail
          refine (HX.out _).mono ?_
          rintro e w5 ⟨rfl, hb5⟩
          have R0 := (hb5.cell (p := ⟨w.heap.size + 1, 0, none⟩) l1).trans r0
          have Z0 := (hb5.frozen (p := ⟨w.heap.size + 1, 0, none⟩) l1).trans z0
          have Y0 := (hb5.frozen (p := ⟨w.heap.size, 0, none⟩) l0).trans y0
          have E0 := (hb5.cell (p := ⟨w.heap.size, 0, none⟩) l0).trans d0
          have R1 := (hb5.cell (p := ⟨w.heap.size + 1, 1, none⟩) l1).trans r1
          have Z1 := (hb5.frozen (p := ⟨w.heap.size + 1, 1, none⟩) l1).trans z1
          have Y1 := (hb5.frozen (p := ⟨w.heap.size, 1, none⟩) l0).trans y1
          have E1 := (hb5.cell (p := ⟨w.heap.size, 1, none⟩) l0).trans d1
          have R2 := (hb5.cell (p := ⟨w.heap.size + 1, 2, none⟩) l1).trans r2
          have Z2 := (hb5.frozen (p := ⟨w.heap.size + 1, 2, none⟩) l1).trans z2
          have Y2 := (hb5.frozen (p := ⟨w.heap.size, 2, none⟩) l0).trans y2
          have E2 := (hb5.cell (p := ⟨w.heap.size, 2, none⟩) l0).trans d2
          have R3 := (hb5.cell (p := ⟨w.heap.size + 1, 3, none⟩) l1).trans r3
          have Z3 := (hb5.frozen (p := ⟨w.heap.size + 1, 3, none⟩) l1).trans z3
          have Y3 := (hb5.frozen (p := ⟨w.heap.size, 3, none⟩) l0).trans y3
          have E3 := (hb5.cell (p := ⟨w.heap.size, 3, none⟩) l0).trans d3
          have hs5 := hb5.size
          have hB5 : Below w.heap.size w w5 := bt hB hb5
          clear r0 z0 y0 d0 r1 z1 y1 d1 r2 z2 y2 d2 r3 z3 y3 d3
          go_wp2_with fail
          go_roundw
          case rel => exact ⟨⟨⟨by simp [go_sem, *], by simp [go_sem, *], by simp [go_sem, *], by simp [go_sem, *]⟩, ⟨by simp [go_sem, *], by simp [go_sem, *], by simp [go_sem, *], by simp [go_sem, *]⟩, ⟨by simp [go_sem, *], by simp [go_sem, *], by simp [go_sem, *], by simp [go_sem, *]⟩, by simp; omega, by repeat (first | (with_reducible exact Below.refl _ _) | (with_reducible assumption) | (with_reducible refine bdrew ?_) | (with_reducible refine baa ?_ _) | (with_reducible refine bs ?_ (by first | exact Nat.le_refl _ | omega | (simp; done) | (simp; omega)) _) | (with_reducible refine bt ?_ (by with_reducible assumption)))⟩, .inl ⟨k + 1, by omega, by omega, by go_num, rfl, by simp [go_sem, *], by simp [go_sem, *], by simp [go_sem, *], by simp [go_sem, *]⟩⟩
          case measure => simp [intOf]; omega
        · obtain rfl : k = N := by omega
          go_wp2_with fail
          refine (HE.out _).mono ?_
          rintro e w5 ⟨rfl, hb5⟩
          have R0 := (hb5.cell (p := ⟨w.heap.size + 1, 0, none⟩) l1).trans r0
          have Z0 := (hb5.frozen (p := ⟨w.heap.size + 1, 0, none⟩) l1).trans z0
          have Y0 := (hb5.frozen (p := ⟨w.heap.size, 0, none⟩) l0).trans y0
          have E0 := (hb5.cell (p := ⟨w.heap.size, 0, none⟩) l0).trans d0
          have R1 := (hb5.cell (p := ⟨w.heap.size + 1, 1, none⟩) l1).trans r1
          have Z1 := (hb5.frozen (p := ⟨w.heap.size + 1, 1, none⟩) l1).trans z1
          have Y1 := (hb5.frozen (p := ⟨w.heap.size, 1, none⟩) l0).trans y1
          have E1 := (hb5.cell (p := ⟨w.heap.size, 1, none⟩) l0).trans d1
          have R2 := (hb5.cell (p := ⟨w.heap.size + 1, 2, none⟩) l1).trans r2
          have Z2 := (hb5.frozen (p := ⟨w.heap.size + 1, 2, none⟩) l1).trans z2
          have Y2 := (hb5.frozen (p := ⟨w.heap.size, 2, none⟩) l0).trans y2
          have E2 := (hb5.cell (p := ⟨w.heap.size, 2, none⟩) l0).trans d2
          have R3 := (hb5.cell (p := ⟨w.heap.size + 1, 3, none⟩) l1).trans r3
          have Z3 := (hb5.frozen (p := ⟨w.heap.size + 1, 3, none⟩) l1).trans z3
          have Y3 := (hb5.frozen (p := ⟨w.heap.size, 3, none⟩) l0).trans y3
          have E3 := (hb5.cell (p := ⟨w.heap.size, 3, none⟩) l0).trans d3
          have hs5 := hb5.size
          have hB5 : Below w.heap.size w w5 := bt hB hb5
          clear r0 z0 y0 d0 r1 z1 y1 d1 r2 z2 y2 d2 r3 z3 y3 d3
          go_wp2_with fail
          go_roundw
          case rel => exact ⟨⟨⟨by simp [go_sem, *], by simp [go_sem, *], by simp [go_sem, *], by simp [go_sem, *]⟩, ⟨by simp [go_sem, *], by simp [go_sem, *], by simp [go_sem, *], by simp [go_sem, *]⟩, ⟨by simp [go_sem, *], by simp [go_sem, *], by simp [go_sem, *], by simp [go_sem, *]⟩, by simp; omega, by repeat (first | (with_reducible exact Below.refl _ _) | (with_reducible assumption) | (with_reducible refine bdrew ?_) | (with_reducible refine baa ?_ _) | (with_reducible refine bs ?_ (by first | exact Nat.le_refl _ | omega | (simp; done) | (simp; omega)) _) | (with_reducible refine bt ?_ (by with_reducible assumption)))⟩, .inr ⟨by omega, by go_num, rfl, by simp [go_sem, *], by simp [go_sem, *], by simp [go_sem, *], by simp [go_sem, *]⟩⟩
          case measure => simp [intOf]; omega
      · obtain rfl : k = q := by omega
        obtain ⟨hR1, hR2⟩ := hR.1 kN
        rw [show ((k : Int) - k) = 0 by omega]
        go_wp2_with fail
        go_loopw [1, 6] (fun a b ws => a = .int .i64 (0) ∧ b = .int .i64 0 ∧ ws = wr) (fun _ _ _ => 0)
        case atStart => exact ⟨by simp, rfl, rfl⟩
        case round =>
          obtain ⟨rfl, rfl, rfl⟩ := hrel
          go_wp2_with fail
          refine bodyPost_ret (v := .tuple #[.agg #[.int .i64 (R).1, .int .i64 (R).2.1, .bool (R).2.2.1, .int .i64 (R).2.2.2], .int .i64 er]) (by simp [results, Tryd.results17, go_sem, *]) rfl ⟨by first | rfl | (simp [hR1, hR2]; done), by repeat (first | (with_reducible exact Below.refl _ _) | (with_reducible assumption) | (with_reducible refine bdrew ?_) | (with_reducible refine baa ?_ _) | (with_reducible refine bs ?_ (by first | exact Nat.le_refl _ | omega | (simp; done) | (simp; omega)) _) | (with_reducible refine bt ?_ (by with_reducible assumption)))⟩
    · have l0 : w.heap.size < wr.heap.size := by omega
      obtain ⟨hR1, hR2⟩ := hR.2 (by omega)
      have g1 : ¬ (q : Int) - (N + 1) < 0 := by omega
      by_cases hsg : (0 : Int) < (q : Int) - (N + 1)
      · have hsg2 : decide ((0 : Int) < (q : Int) - (N + 1)) = true := by simpa using hsg
        go_wp2_with fail
        go_loopw [1, 6] (fun a b ws => a = .int .i64 ((q : Int) - (N + 1)) ∧ b = .int .i64 2 ∧ ws = wr) (fun _ _ _ => 0)
        case atStart => exact ⟨by simp, rfl, rfl⟩
        case round =>
          obtain ⟨rfl, rfl, rfl⟩ := hrel
          go_wp2_with fail
          refine bodyPost_ret (v := .tuple #[.agg #[.int .i64 (R).1, .int .i64 (R).2.1, .bool (R).2.2.1, .int .i64 (R).2.2.2], .int .i64 er]) (by simp [results, Tryd.results17, go_sem, *]) rfl ⟨by first | rfl | (simp [hR1, hR2]; done), by repeat (first | (with_reducible exact Below.refl _ _) | (with_reducible assumption) | (with_reducible refine bdrew ?_) | (with_reducible refine baa ?_ _) | (with_reducible refine bs ?_ (by first | exact Nat.le_refl _ | omega | (simp; done) | (simp; omega)) _) | (with_reducible refine bt ?_ (by with_reducible assumption)))⟩
      · have hsg2 : decide ((0 : Int) < (q : Int) - (N + 1)) = false := by simpa using hsg
        go_wp2_with fail
        go_loopw [1, 6] (fun a b ws => a = .int .i64 ((q : Int) - (N + 1)) ∧ b = .int .i64 2 ∧ ws = wr) (fun _ _ _ => 0)
        case atStart => exact ⟨by simp, rfl, rfl⟩
        case round =>
          obtain ⟨rfl, rfl, rfl⟩ := hrel
          go_wp2_with fail
          refine bodyPost_ret (v := .tuple #[.agg #[.int .i64 (R).1, .int .i64 (R).2.1, .bool (R).2.2.1, .int .i64 (R).2.2.2], .int .i64 er]) (by simp [results, Tryd.results17, go_sem, *]) rfl ⟨by first | rfl | (simp [hR1, hR2]; done), by repeat (first | (with_reducible exact Below.refl _ _) | (with_reducible assumption) | (with_reducible refine bdrew ?_) | (with_reducible refine baa ?_ _) | (with_reducible refine bs ?_ (by first | exact Nat.le_refl _ | omega | (simp; done) | (simp; omega)) _) | (with_reducible refine bt ?_ (by with_reducible assumption)))⟩
set_option maxHeartbeats 8000000 in
theorem ref27_Steps_down (s : Nat → Dt) (N : Nat) (hN : N ≤ 4000000) (n : Int) (w : World) (hn : -3000 ≤ n ∧ n < 0) (HC : Hid (∀ w : World, Calls Tryd.prog 32 #[.agg #[.int .i64 (s 0).1, .int .i64 (s 0).2.1, .bool (s 0).2.2.1, .int .i64 (s 0).2.2.2]] w fun e w' => e = .returned (.int .i64 0) ∧ Below w.heap.size w w'))
    (HS : Hid (∀ k, k < N → ∀ W : World, Calls Tryd.prog 15 #[.agg #[.int .i64 (s k).1, .int .i64 (s k).2.1, .bool (s k).2.2.1, .int .i64 (s k).2.2.2]] W fun e w' => e = .returned (.tuple #[.agg #[.int .i64 (s (k + 1)).1, .int .i64 (s (k + 1)).2.1, .bool (s (k + 1)).2.2.1, .int .i64 (s (k + 1)).2.2.2], .int .i64 0]) ∧ Below W.heap.size W w'))
    (HE : Hid (∀ W : World, Calls Tryd.prog 15 #[.agg #[.int .i64 (s N).1, .int .i64 (s N).2.1, .bool (s N).2.2.1, .int .i64 (s N).2.2.2]] W fun e w' => e = .returned (.tuple #[.agg #[.int .i64 0, .int .i64 0, .bool false, .int .i64 0], .int .i64 2]) ∧ Below W.heap.size W w')) (q : Nat) (hq : (q : Int) = -n) (R : Dt) (er : Int) (hR : (q ≤ N → R = s q ∧ er = 0) ∧ (¬ q ≤ N → R = (0, 0, false, 0) ∧ er = 2)) :
    Calls Tryd.prog 17 #[.agg #[.int .i64 (s 0).1, .int .i64 (s 0).2.1, .bool (s 0).2.2.1, .int .i64 (s 0).2.2.2], .int .i64 n] w fun e w' => e = .returned (.tuple #[.agg #[.int .i64 (R).1, .int .i64 (R).2.1, .bool (R).2.2.1, .int .i64 (R).2.2.2], .int .i64 er]) ∧ Below w.heap.size w w' := by
  obtain ⟨n1, n2⟩ := hn
  have hn0 : Hid (n = ((0 : Nat) : Int) - q) := Lib.hid (by omega)
  have N1 : ¬ n < -3000 := by omega
  have N2 : ¬ 3000 < n := by omega
  have M1 : decide (n < -3000) = false := by simpa using N1
  have M2 : decide (3000 < n) = false := by simpa using N2
  have q3 : q ≤ 3000 := by omega
  clear hq
  go_enter Tryd.func17, Tryd.ntmps17
  go_wp2_with fail
  refine (HC.out _).mono ?_
  rintro e w1 ⟨rfl, hb1⟩
  obtain ⟨hc1, hf1⟩ := bcell hb1
  have hz1 := hb1.size
  simp at hz1
  have d0 : w1.cell? ⟨w.heap.size, 0, none⟩ = some (.int .i64 (s 0).1) := (hc1 _ _ (by first | (simp; done) | (simp; omega))).trans (by simp [go_sem])
  have d1 : w1.cell? ⟨w.heap.size, 1, none⟩ = some (.int .i64 (s 0).2.1) := (hc1 _ _ (by first | (simp; done) | (simp; omega))).trans (by simp [go_sem])
  have d2 : w1.cell? ⟨w.heap.size, 2, none⟩ = some (.bool (s 0).2.2.1) := (hc1 _ _ (by first | (simp; done) | (simp; omega))).trans (by simp [go_sem])
  have d3 : w1.cell? ⟨w.heap.size, 3, none⟩ = some (.int .i64 (s 0).2.2.2) := (hc1 _ _ (by first | (simp; done) | (simp; omega))).trans (by simp [go_sem])
  have r0 : w1.cell? ⟨w.heap.size + 1, 0, none⟩ = some (.int .i64 0) := (hc1 _ _ (by first | (simp; done) | (simp; omega))).trans (by simp [go_sem])
  have z0 : w1.frozen? ⟨w.heap.size + 1, 0, none⟩ = false := (hf1 _ _ (by first | (simp; done) | (simp; omega))).trans (by simp [go_sem])
  have y0 : w1.frozen? ⟨w.heap.size, 0, none⟩ = false := (hf1 _ _ (by first | (simp; done) | (simp; omega))).trans (by simp [go_sem])
  have r1 : w1.cell? ⟨w.heap.size + 1, 1, none⟩ = some (.int .i64 0) := (hc1 _ _ (by first | (simp; done) | (simp; omega))).trans (by simp [go_sem])
  have z1 : w1.frozen? ⟨w.heap.size + 1, 1, none⟩ = false := (hf1 _ _ (by first | (simp; done) | (simp; omega))).trans (by simp [go_sem])
  have y1 : w1.frozen? ⟨w.heap.size, 1, none⟩ = false := (hf1 _ _ (by first | (simp; done) | (simp; omega))).trans (by simp [go_sem])
  have r2 : w1.cell? ⟨w.heap.size + 1, 2, none⟩ = some (.bool false) := (hc1 _ _ (by first | (simp; done) | (simp; omega))).trans (by simp [go_sem])
  have z2 : w1.frozen? ⟨w.heap.size + 1, 2, none⟩ = false := (hf1 _ _ (by first | (simp; done) | (simp; omega))).trans (by simp [go_sem])
  have y2 : w1.frozen? ⟨w.heap.size, 2, none⟩ = false := (hf1 _ _ (by first | (simp; done) | (simp; omega))).trans (by simp [go_sem])
  have r3 : w1.cell? ⟨w.heap.size + 1, 3, none⟩ = some (.int .i64 0) := (hc1 _ _ (by first | (simp; done) | (simp; omega))).trans (by simp [go_sem])
  have z3 : w1.frozen? ⟨w.heap.size + 1, 3, none⟩ = false := (hf1 _ _ (by first | (simp; done) | (simp; omega))).trans (by simp [go_sem])
  have y3 : w1.frozen? ⟨w.heap.size, 3, none⟩ = false := (hf1 _ _ (by first | (simp; done) | (simp; omega))).trans (by simp [go_sem])
  have hB1 : Below w.heap.size w w1 := by repeat (first | (with_reducible exact Below.refl _ _) | (with_reducible assumption) | (with_reducible refine bdrew ?_) | (with_reducible refine baa ?_ _) | (with_reducible refine bs ?_ (by first | exact Nat.le_refl _ | omega | (simp; done) | (simp; omega)) _) | (with_reducible refine bt ?_ (by with_reducible assumption)))
  have l1 : w.heap.size + 1 < w1.heap.size := by omega
  clear hb1 hc1 hf1 HC
  go_wp2_with fail
  go_loopw [1, 6] (fun a b ws => a = .int .i64 n ∧ b = .int .i64 0 ∧ ws = w1) (fun _ _ _ => 0)
  case atStart => exact ⟨rfl, rfl, rfl⟩
  case round =>
    obtain ⟨rfl, rfl, rfl⟩ := hrel
    have g0 : ¬ 0 < n := by omega
    have g00 : decide (0 < n) = false := by simpa using g0
    go_wp2_with fail
    go_loopw [1, 6] (fun nv ev wr => ((wr.cell? ⟨w.heap.size + 1, 0, none⟩ = some (.int .i64 0) ∧ wr.cell? ⟨w.heap.size + 1, 1, none⟩ = some (.int .i64 0) ∧ wr.cell? ⟨w.heap.size + 1, 2, none⟩ = some (.bool false) ∧ wr.cell? ⟨w.heap.size + 1, 3, none⟩ = some (.int .i64 0)) ∧ (wr.frozen? ⟨w.heap.size + 1, 0, none⟩ = false ∧ wr.frozen? ⟨w.heap.size + 1, 1, none⟩ = false ∧ wr.frozen? ⟨w.heap.size + 1, 2, none⟩ = false ∧ wr.frozen? ⟨w.heap.size + 1, 3, none⟩ = false) ∧ (wr.frozen? ⟨w.heap.size, 0, none⟩ = false ∧ wr.frozen? ⟨w.heap.size, 1, none⟩ = false ∧ wr.frozen? ⟨w.heap.size, 2, none⟩ = false ∧ wr.frozen? ⟨w.heap.size, 3, none⟩ = false) ∧ w.heap.size + 1 < wr.heap.size ∧ Below w.heap.size w wr) ∧ ((∃ k : Nat, k ≤ q ∧ k ≤ N ∧ nv = .int .i64 ((k : Int) - q) ∧ ev = .int .i64 0 ∧ wr.cell? ⟨w.heap.size, 0, none⟩ = some (.int .i64 (s k).1) ∧ wr.cell? ⟨w.heap.size, 1, none⟩ = some (.int .i64 (s k).2.1) ∧ wr.cell? ⟨w.heap.size, 2, none⟩ = some (.bool (s k).2.2.1) ∧ wr.cell? ⟨w.heap.size, 3, none⟩ = some (.int .i64 (s k).2.2.2)) ∨ (N < q ∧ nv = .int .i64 ((N : Int) + 1 - q) ∧ ev = .int .i64 2 ∧ wr.cell? ⟨w.heap.size, 0, none⟩ = some (.int .i64 0) ∧ wr.cell? ⟨w.heap.size, 1, none⟩ = some (.int .i64 0) ∧ wr.cell? ⟨w.heap.size, 2, none⟩ = some (.bool false) ∧ wr.cell? ⟨w.heap.size, 3, none⟩ = some (.int .i64 0)))) (fun nv ev _ => (- intOf nv).toNat)
    case atStart => exact ⟨⟨⟨r0, r1, r2, r3⟩, ⟨z0, z1, z2, z3⟩, ⟨y0, y1, y2, y3⟩, l1, hB1⟩, .inl ⟨0, Nat.zero_le _, Nat.zero_le _, by rw [hn0.out], rfl, d0, d1, d2, d3⟩⟩
    case round =>
      obtain ⟨⟨⟨r0, r1, r2, r3⟩, ⟨z0, z1, z2, z3⟩, ⟨y0, y1, y2, y3⟩, l1, hB⟩, hst⟩ := hrel
      rcases hst with ⟨k, kq, kN, rfl, rfl, d0, d1, d2, d3⟩ | ⟨kq, rfl, rfl, d0, d1, d2, d3⟩
      · have l0 : w.heap.size < wr.heap.size := by omega
        by_cases hlt : k < q
        · have g1 : (k : Int) - q < 0 := by omega
          have g2 : decide ((k : Int) - q < 0) = true := by simpa using g1
          have g3 : -3000 ≤ (k : Int) - q := by omega
          by_cases hN2 : k < N
          · have HX := Lib.hid (HS.out k hN2)
            go_wp2_with fail
            refine (HX.out _).mono ?_
            rintro e w5 ⟨rfl, hb5⟩
            have R0 := (hb5.cell (p := ⟨w.heap.size + 1, 0, none⟩) l1).trans r0
            have Z0 := (hb5.frozen (p := ⟨w.heap.size + 1, 0, none⟩) l1).trans z0
            have Y0 := (hb5.frozen (p := ⟨w.heap.size, 0, none⟩) l0).trans y0
            have E0 := (hb5.cell (p := ⟨w.heap.size, 0, none⟩) l0).trans d0
            have R1 := (hb5.cell (p := ⟨w.heap.size + 1, 1, none⟩) l1).trans r1
            have Z1 := (hb5.frozen (p := ⟨w.heap.size + 1, 1, none⟩) l1).trans z1
            have Y1 := (hb5.frozen (p := ⟨w.heap.size, 1, none⟩) l0).trans y1
            have E1 := (hb5.cell (p := ⟨w.heap.size, 1, none⟩) l0).trans d1
            have R2 := (hb5.cell (p := ⟨w.heap.size + 1, 2, none⟩) l1).trans r2
            have Z2 := (hb5.frozen (p := ⟨w.heap.size + 1, 2, none⟩) l1).trans z2
            have Y2 := (hb5.frozen (p := ⟨w.heap.size, 2, none⟩) l0).trans y2
            have E2 := (hb5.cell (p := ⟨w.heap.size, 2, none⟩) l0).trans d2
            have R3 := (hb5.cell (p := ⟨w.heap.size + 1, 3, none⟩) l1).trans r3
            have Z3 := (hb5.frozen (p := ⟨w.heap.size + 1, 3, none⟩) l1).trans z3
            have Y3 := (hb5.frozen (p := ⟨w.heap.size, 3, none⟩) l0).trans y3
            have E3 := (hb5.cell (p := ⟨w.heap.size, 3, none⟩) l0).trans d3
            have hs5 := hb5.size
            have hB5 : Below w.heap.size w w5 := bt hB hb5
            clear r0 z0 y0 d0 r1 z1 y1 d1 r2 z2 y2 d2 r3 z3 y3 d3
            go_wp2_with fail
            go_roundw
            case rel => exact ⟨⟨⟨by simp [go_sem, *], by simp [go_sem, *], by simp [go_sem, *], by simp [go_sem, *]⟩, ⟨by simp [go_sem, *], by simp [go_sem, *], by simp [go_sem, *], by simp [go_sem, *]⟩, ⟨by simp [go_sem, *], by simp [go_sem, *], by simp [go_sem, *], by simp [go_sem, *]⟩, by simp; omega, by repeat (first | (with_reducible exact Below.refl _ _) | (with_reducible assumption) | (with_reducible refine bdrew ?_) | (with_reducible refine baa ?_ _) | (with_reducible refine bs ?_ (by first | exact Nat.le_refl _ | omega | (simp; done) | (simp; omega)) _) | (with_reducible refine bt ?_ (by with_reducible assumption)))⟩, .inl ⟨k + 1, by omega, by omega, by go_num, rfl, by simp [go_sem, *], by simp [go_sem, *], by simp [go_sem, *], by simp [go_sem, *]⟩⟩
            case measure => simp [intOf]; omega
          · obtain rfl : k = N := by omega
            go_wp2_with fail
            refine (HE.out _).mono ?_
            rintro e w5 ⟨rfl, hb5⟩
            have R0 := (hb5.cell (p := ⟨w.heap.size + 1, 0, none⟩) l1).trans r0
            have Z0 := (hb5.frozen (p := ⟨w.heap.size + 1, 0, none⟩) l1).trans z0
            have Y0 := (hb5.frozen (p := ⟨w.heap.size, 0, none⟩) l0).trans y0
            have E0 := (hb5.cell (p := ⟨w.heap.size, 0, none⟩) l0).trans d0
            have R1 := (hb5.cell (p := ⟨w.heap.size + 1, 1, none⟩) l1).trans r1
            have Z1 := (hb5.frozen (p := ⟨w.heap.size + 1, 1, none⟩) l1).trans z1
            have Y1 := (hb5.frozen (p := ⟨w.heap.size, 1, none⟩) l0).trans y1
            have E1 := (hb5.cell (p := ⟨w.heap.size, 1, none⟩) l0).trans d1
            have R2 := (hb5.cell (p := ⟨w.heap.size + 1, 2, none⟩) l1).trans r2
            have Z2 := (hb5.frozen (p := ⟨w.heap.size + 1, 2, none⟩) l1).trans z2
            have Y2 := (hb5.frozen (p := ⟨w.heap.size, 2, none⟩) l0).trans y2
            have E2 := (hb5.cell (p := ⟨w.heap.size, 2, none⟩) l0).trans d2
            have R3 := (hb5.cell (p := ⟨w.heap.size + 1, 3, none⟩) l1).trans r3
            have Z3 := (hb5.frozen (p := ⟨w.heap.size + 1, 3, none⟩) l1).trans z3
            have Y3 := (hb5.frozen (p := ⟨w.heap.size, 3, none⟩) l0).trans y3
            have E3 := (hb5.cell (p := ⟨w.heap.size, 3, none⟩) l0).trans d3
            have hs5 := hb5.size
            have hB5 : Below w.heap.size w w5 := bt hB hb5
            clear r0 z0 y0 d0 r1 z1 y1 d1 r2 z2 y2 d2 r3 z3 y3 d3
            go_wp2_with fail
            go_roundw
            case rel => exact ⟨⟨⟨by simp [go_sem, *], by simp [go_sem, *], by simp [go_sem, *], by simp [go_sem, *]⟩, ⟨by simp [go_sem, *], by simp [go_sem, *], by simp [go_sem, *], by simp [go_sem, *]⟩, ⟨by simp [go_sem, *], by simp [go_sem, *], by simp [go_sem, *], by simp [go_sem, *]⟩, by simp; omega, by repeat (first | (with_reducible exact Below.refl _ _) | (with_reducible assumption) | (with_reducible refine bdrew ?_) | (with_reducible refine baa ?_ _) | (with_reducible refine bs ?_ (by first | exact Nat.le_refl _ | omega | (simp; done) | (simp; omega)) _) | (with_reducible refine bt ?_ (by with_reducible assumption)))⟩, .inr ⟨by omega, by go_num, rfl, by simp [go_sem, *], by simp [go_sem, *], by simp [go_sem, *], by simp [go_sem, *]⟩⟩
            case measure => simp [intOf]; omega
        · obtain rfl : k = q := by omega
          obtain ⟨hR1, hR2⟩ := hR.1 kN
          rw [show ((k : Int) - k) = 0 by omega]
          go_wp2_with fail
          refine bodyPost_ret (v := .tuple #[.agg #[.int .i64 (R).1, .int .i64 (R).2.1, .bool (R).2.2.1, .int .i64 (R).2.2.2], .int .i64 er]) (by simp [results, Tryd.results17, go_sem, *]) rfl ⟨by first | rfl | (simp [hR1, hR2]; done), by repeat (first | (with_reducible exact Below.refl _ _) | (with_reducible assumption) | (with_reducible refine bdrew ?_) | (with_reducible refine baa ?_ _) | (with_reducible refine bs ?_ (by first | exact Nat.le_refl _ | omega | (simp; done) | (simp; omega)) _) | (with_reducible refine bt ?_ (by with_reducible assumption)))⟩
      · have l0 : w.heap.size < wr.heap.size := by omega
        obtain ⟨hR1, hR2⟩ := hR.2 (by omega)
        have g1 : (N : Int) + 1 - q ≤ 0 := by omega
        by_cases hsg : (N : Int) + 1 - q < 0
        · have hsg2 : decide ((N : Int) + 1 - q < 0) = true := by simpa using hsg
          go_wp2_with fail
          refine bodyPost_ret (v := .tuple #[.agg #[.int .i64 (R).1, .int .i64 (R).2.1, .bool (R).2.2.1, .int .i64 (R).2.2.2], .int .i64 er]) (by simp [results, Tryd.results17, go_sem, *]) rfl ⟨by first | rfl | (simp [hR1, hR2]; done), by repeat (first | (with_reducible exact Below.refl _ _) | (with_reducible assumption) | (with_reducible refine bdrew ?_) | (with_reducible refine baa ?_ _) | (with_reducible refine bs ?_ (by first | exact Nat.le_refl _ | omega | (simp; done) | (simp; omega)) _) | (with_reducible refine bt ?_ (by with_reducible assumption)))⟩
        · have hsg2 : decide ((N : Int) + 1 - q < 0) = false := by simpa using hsg
          go_wp2_with fail
          refine bodyPost_ret (v := .tuple #[.agg #[.int .i64 (R).1, .int .i64 (R).2.1, .bool (R).2.2.1, .int .i64 (R).2.2.2], .int .i64 er]) (by simp [results, Tryd.results17, go_sem, *]) rfl ⟨by first | rfl | (simp [hR1, hR2]; done), by repeat (first | (with_reducible exact Below.refl _ _) | (with_reducible assumption) | (with_reducible refine bdrew ?_) | (with_reducible refine baa ?_ _) | (with_reducible refine bs ?_ (by first | exact Nat.le_refl _ | omega | (simp; done) | (simp; omega)) _) | (with_reducible refine bt ?_ (by with_reducible assumption)))⟩
end Go.Proofs.YtbmcpeccofadhaaDoor
