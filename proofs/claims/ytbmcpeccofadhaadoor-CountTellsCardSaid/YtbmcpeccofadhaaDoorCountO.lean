/- Layer 27: the document's days between two dates. -/
import Derived.Test.YtbmcpeccofadhaaDoorCountP
namespace Go.Proofs.YtbmcpeccofadhaaDoor
open Go.ChangeShapes Go.WideShapes Go.ChangeAt Go.RowKit
set_option linter.unusedVariables false
set_option maxRecDepth 100000
set_option maxHeartbeats 8000000 in
theorem ref27_Between_go (s : Nat → Dt) (N : Nat) (hN : N ≤ 4000000) (ya yb : Int) (yc : Bool) (yd : Int) (mo : Int) (w : World) (m : Nat) (hm : (m : Int) = mo) (hm2 : m ≤ 3000) (HC : Hid (∀ w : World, Calls Tryd.prog 32 #[.agg #[.int .i64 (s 0).1, .int .i64 (s 0).2.1, .bool (s 0).2.2.1, .int .i64 (s 0).2.2.2]] w fun e w' => e = .returned (.int .i64 0) ∧ Below w.heap.size w w')) (HD : Hid (∀ w : World, Calls Tryd.prog 32 #[.agg #[.int .i64 ya, .int .i64 yb, .bool yc, .int .i64 yd]] w fun e w' => e = .returned (.int .i64 0) ∧ Below w.heap.size w w'))
    (HS : Hid (∀ k, k < N → ∀ W : World, Calls Tryd.prog 13 #[.agg #[.int .i64 (s k).1, .int .i64 (s k).2.1, .bool (s k).2.2.1, .int .i64 (s k).2.2.2]] W fun e w' => e = .returned (.tuple #[.agg #[.int .i64 (s (k + 1)).1, .int .i64 (s (k + 1)).2.1, .bool (s (k + 1)).2.2.1, .int .i64 (s (k + 1)).2.2.2], .int .i64 0]) ∧ Below W.heap.size W w'))
    (HE : Hid (∀ W : World, Calls Tryd.prog 13 #[.agg #[.int .i64 (s N).1, .int .i64 (s N).2.1, .bool (s N).2.2.1, .int .i64 (s N).2.2.2]] W fun e w' => e = .returned (.tuple #[.agg #[.int .i64 0, .int .i64 0, .bool false, .int .i64 0], .int .i64 2]) ∧ Below W.heap.size W w'))
    (R er : Int) (hR : (∀ q : Nat, q ≤ N → q ≤ m → s q = (ya, yb, yc, yd) → R = (q : Int) ∧ er = 0) ∧ ((∀ q : Nat, q ≤ N → q ≤ m → ¬ s q = (ya, yb, yc, yd)) → R = 0 ∧ er = 2)) :
    Calls Tryd.prog 19 #[.agg #[.int .i64 (s 0).1, .int .i64 (s 0).2.1, .bool (s 0).2.2.1, .int .i64 (s 0).2.2.2], .agg #[.int .i64 ya, .int .i64 yb, .bool yc, .int .i64 yd], .int .i64 mo] w fun e w' => e = .returned (.tuple #[.int .i64 R, .int .i64 er]) ∧ Below w.heap.size w w' := by
  subst hm
  have N1 : ¬ (m : Int) < 0 := by omega
  have N2 : ¬ 3000 < (m : Int) := by omega
  have M1 : decide ((m : Int) < 0) = false := by simp
  have M2 : decide (3000 < (m : Int)) = false := by simpa using N2
  go_enter Tryd.func19, Tryd.ntmps19
  go_wp2_with fail
  refine (HC.out _).mono ?_
  rintro e w1 ⟨rfl, hb1⟩
  obtain ⟨hc1, hf1⟩ := bcell hb1
  have hz1 := hb1.size
  simp at hz1
  have d0 : w1.cell? ⟨w.heap.size, 0, none⟩ = some (.int .i64 (s 0).1) := (hc1 _ _ (by first | (simp; done) | (simp; omega))).trans (by simp [go_sem])
  have d1 : w1.cell? ⟨w.heap.size, 1, none⟩ = some (.int .i64 (s 0).2.1) := (hc1 _ _ (by first | (simp; done) | (simp; omega))).trans (by simp [go_sem])
  have d2 : w1.cell? ⟨w.heap.size, 2, none⟩ = some (.bool (s 0).2.2.1) := (hc1 _ _ (by first | (simp; done) | (simp; omega))).trans (by simp [go_sem])
  have d3 : w1.cell? ⟨w.heap.size, 3, none⟩ = some (.int .i64 (s 0).2.2.2) := (hc1 _ _ (by first | (simp; done) | (simp; omega))).trans (by simp [go_sem])
  have r0 : w1.cell? ⟨w.heap.size + 1, 0, none⟩ = some (.int .i64 ya) := (hc1 _ _ (by first | (simp; done) | (simp; omega))).trans (by simp [go_sem])
  have y0 : w1.frozen? ⟨w.heap.size, 0, none⟩ = false := (hf1 _ _ (by first | (simp; done) | (simp; omega))).trans (by simp [go_sem])
  have r1 : w1.cell? ⟨w.heap.size + 1, 1, none⟩ = some (.int .i64 yb) := (hc1 _ _ (by first | (simp; done) | (simp; omega))).trans (by simp [go_sem])
  have y1 : w1.frozen? ⟨w.heap.size, 1, none⟩ = false := (hf1 _ _ (by first | (simp; done) | (simp; omega))).trans (by simp [go_sem])
  have r2 : w1.cell? ⟨w.heap.size + 1, 2, none⟩ = some (.bool yc) := (hc1 _ _ (by first | (simp; done) | (simp; omega))).trans (by simp [go_sem])
  have y2 : w1.frozen? ⟨w.heap.size, 2, none⟩ = false := (hf1 _ _ (by first | (simp; done) | (simp; omega))).trans (by simp [go_sem])
  have r3 : w1.cell? ⟨w.heap.size + 1, 3, none⟩ = some (.int .i64 yd) := (hc1 _ _ (by first | (simp; done) | (simp; omega))).trans (by simp [go_sem])
  have y3 : w1.frozen? ⟨w.heap.size, 3, none⟩ = false := (hf1 _ _ (by first | (simp; done) | (simp; omega))).trans (by simp [go_sem])
  have hB : Below w.heap.size w w1 := by repeat (first | (with_reducible exact Below.refl _ _) | (with_reducible assumption) | (with_reducible refine bdrew ?_) | (with_reducible refine baa ?_ _) | (with_reducible refine bs ?_ (by first | exact Nat.le_refl _ | omega | (simp; done) | (simp; omega)) _) | (with_reducible refine bt ?_ (by with_reducible assumption)))
  have l1 : w.heap.size + 1 < w1.heap.size := by omega
  have l0 : w.heap.size < w1.heap.size := by omega
  clear hb1 hc1 hf1 HC
  go_wp2_with fail
  refine (HD.out _).mono ?_
  rintro e w5 ⟨rfl, hb5⟩
  have R0 := (hb5.cell (p := ⟨w.heap.size + 1, 0, none⟩) l1).trans r0
  have Y0 := (hb5.frozen (p := ⟨w.heap.size, 0, none⟩) l0).trans y0
  have E0 := (hb5.cell (p := ⟨w.heap.size, 0, none⟩) l0).trans d0
  have R1 := (hb5.cell (p := ⟨w.heap.size + 1, 1, none⟩) l1).trans r1
  have Y1 := (hb5.frozen (p := ⟨w.heap.size, 1, none⟩) l0).trans y1
  have E1 := (hb5.cell (p := ⟨w.heap.size, 1, none⟩) l0).trans d1
  have R2 := (hb5.cell (p := ⟨w.heap.size + 1, 2, none⟩) l1).trans r2
  have Y2 := (hb5.frozen (p := ⟨w.heap.size, 2, none⟩) l0).trans y2
  have E2 := (hb5.cell (p := ⟨w.heap.size, 2, none⟩) l0).trans d2
  have R3 := (hb5.cell (p := ⟨w.heap.size + 1, 3, none⟩) l1).trans r3
  have Y3 := (hb5.frozen (p := ⟨w.heap.size, 3, none⟩) l0).trans y3
  have E3 := (hb5.cell (p := ⟨w.heap.size, 3, none⟩) l0).trans d3
  have hs5 := hb5.size
  have hB5 : Below w.heap.size w w5 := bt hB hb5
  clear r0 y0 d0 r1 y1 d1 r2 y2 d2 r3 y3 d3
  have l1 : w.heap.size + 1 < w5.heap.size := by omega
  clear hB hb5
  go_wp2_with fail
  go_loopw [8, 9] (fun ev nv wr => ((wr.cell? ⟨w.heap.size + 1, 0, none⟩ = some (.int .i64 ya) ∧ wr.cell? ⟨w.heap.size + 1, 1, none⟩ = some (.int .i64 yb) ∧ wr.cell? ⟨w.heap.size + 1, 2, none⟩ = some (.bool yc) ∧ wr.cell? ⟨w.heap.size + 1, 3, none⟩ = some (.int .i64 yd)) ∧ (wr.frozen? ⟨w.heap.size, 0, none⟩ = false ∧ wr.frozen? ⟨w.heap.size, 1, none⟩ = false ∧ wr.frozen? ⟨w.heap.size, 2, none⟩ = false ∧ wr.frozen? ⟨w.heap.size, 3, none⟩ = false) ∧ w.heap.size + 1 < wr.heap.size ∧ Below w.heap.size w wr) ∧ ((∃ k : Nat, k ≤ m + 1 ∧ k ≤ N ∧ Hid (∀ j, j < k → ¬ s j = (ya, yb, yc, yd)) ∧ nv = .int .i64 (k : Int) ∧ ev = .int .i64 0 ∧ wr.cell? ⟨w.heap.size, 0, none⟩ = some (.int .i64 (s k).1) ∧ wr.cell? ⟨w.heap.size, 1, none⟩ = some (.int .i64 (s k).2.1) ∧ wr.cell? ⟨w.heap.size, 2, none⟩ = some (.bool (s k).2.2.1) ∧ wr.cell? ⟨w.heap.size, 3, none⟩ = some (.int .i64 (s k).2.2.2)) ∨ (N ≤ m ∧ Hid (∀ j, j ≤ N → ¬ s j = (ya, yb, yc, yd)) ∧ nv = .int .i64 ((N : Int) + 1) ∧ ev = .int .i64 2 ∧ wr.cell? ⟨w.heap.size, 0, none⟩ = some (.int .i64 0) ∧ wr.cell? ⟨w.heap.size, 1, none⟩ = some (.int .i64 0) ∧ wr.cell? ⟨w.heap.size, 2, none⟩ = some (.bool false) ∧ wr.cell? ⟨w.heap.size, 3, none⟩ = some (.int .i64 0)))) (fun ev nv _ => m + 1 - (intOf nv).toNat)
  case atStart => exact ⟨⟨⟨R0, R1, R2, R3⟩, ⟨Y0, Y1, Y2, Y3⟩, l1, hB5⟩, .inl ⟨0, Nat.zero_le _, Nat.zero_le _, Lib.hid (fun j hj => absurd hj (Nat.not_lt_zero _)), rfl, rfl, E0, E1, E2, E3⟩⟩
  case round =>
    clear R0 R1 R2 R3 Y0 Y1 Y2 Y3 E0 E1 E2 E3 l1 l0 hB5 hs5
    obtain ⟨⟨⟨r0, r1, r2, r3⟩, ⟨y0, y1, y2, y3⟩, l1, hB⟩, hst⟩ := hrel
    have l0 : w.heap.size < wr.heap.size := by omega
    rcases hst with ⟨k, kq, kN, HJ, rfl, rfl, d0, d1, d2, d3⟩ | ⟨kq, HJ, rfl, rfl, d0, d1, d2, d3⟩
    · by_cases hlt : k ≤ m
      · have g1 : (k : Int) ≤ (m : Int) := by omega
        have g2 : decide ((k : Int) ≤ (m : Int)) = true := by simpa using g1
        have g3 : (k : Int) ≤ 3000 := by omega
        have HJ2 : ¬ s k = (ya, yb, yc, yd) → Hid (∀ j, j < k + 1 → ¬ s j = (ya, yb, yc, yd)) := fun c => Lib.hid (fun j hj => by
          rcases Nat.lt_or_ge j k with h | h
          · exact HJ.out j h
          · obtain rfl : j = k := by omega
            exact c)
        have HX : Hid (∀ W : World, Calls Tryd.prog 13 #[.agg #[.int .i64 (s k).1, .int .i64 (s k).2.1, .bool (s k).2.2.1, .int .i64 (s k).2.2.2]] W fun e w' => ((k < N → e = .returned (.tuple #[.agg #[.int .i64 (s (k + 1)).1, .int .i64 (s (k + 1)).2.1, .bool (s (k + 1)).2.2.1, .int .i64 (s (k + 1)).2.2.2], .int .i64 0])) ∧ (¬ k < N → e = .returned (.tuple #[.agg #[.int .i64 0, .int .i64 0, .bool false, .int .i64 0], .int .i64 2]))) ∧ Below W.heap.size W w') := Lib.hid (fun W => by
          by_cases h : k < N
          · exact (HS.out k h W).mono fun e w' q => ⟨⟨fun _ => q.1, fun h2 => absurd h h2⟩, q.2⟩
          · obtain rfl : k = N := by omega
            exact (HE.out W).mono fun e w' q => ⟨⟨fun h2 => absurd h2 h, fun _ => q.1⟩, q.2⟩)
        have hR1 := hR.1 k kN hlt
        generalize hsk : s k = x at *
        obtain ⟨xa, xb, xc, xd⟩ := x
        dsimp only at d0 d1 d2 d3 HX
        clear hsk
        by_cases e0 : ya = xa
        · subst e0
          by_cases e1 : yb = xb
          · subst e1
            by_cases e2 : yc = xc
            · subst e2
              by_cases e3 : yd = xd
              · subst e3
                obtain ⟨hR1, hR2⟩ := hR1 rfl
                clear HX HJ2
                go_wp2_with fail
                refine bodyPost_ret (v := .tuple #[.int .i64 R, .int .i64 er]) (by simp [results, Tryd.results19, go_sem, *]) rfl ⟨by first | rfl | (simp [hR1]; done) | (simp [hR1, hR2]; done), by repeat (first | (with_reducible exact Below.refl _ _) | (with_reducible assumption) | (with_reducible refine bdrew ?_) | (with_reducible refine baa ?_ _) | (with_reducible refine bs ?_ (by first | exact Nat.le_refl _ | omega | (simp; done) | (simp; omega)) _) | (with_reducible refine bt ?_ (by with_reducible assumption)))⟩
              · have E3 : (xd == yd) = false := by simpa using (fun h => e3 h.symm : ¬ xd = yd)
                have HJ3 := HJ2 (fun h => e3 (congrArg (fun z : Dt => z.2.2.2) h).symm)
                clear HJ2 hR1
                go_wp2_with fail
                refine (HX.out _).mono ?_
                rintro e w5 ⟨⟨hq1, hq2⟩, hb5⟩
                have R0 := (hb5.cell (p := ⟨w.heap.size + 1, 0, none⟩) l1).trans r0
                have Y0 := (hb5.frozen (p := ⟨w.heap.size, 0, none⟩) l0).trans y0
                have E0 := (hb5.cell (p := ⟨w.heap.size, 0, none⟩) l0).trans d0
                have R1 := (hb5.cell (p := ⟨w.heap.size + 1, 1, none⟩) l1).trans r1
                have Y1 := (hb5.frozen (p := ⟨w.heap.size, 1, none⟩) l0).trans y1
                have E1 := (hb5.cell (p := ⟨w.heap.size, 1, none⟩) l0).trans d1
                have R2 := (hb5.cell (p := ⟨w.heap.size + 1, 2, none⟩) l1).trans r2
                have Y2 := (hb5.frozen (p := ⟨w.heap.size, 2, none⟩) l0).trans y2
                have E2 := (hb5.cell (p := ⟨w.heap.size, 2, none⟩) l0).trans d2
                have R3 := (hb5.cell (p := ⟨w.heap.size + 1, 3, none⟩) l1).trans r3
                have Y3 := (hb5.frozen (p := ⟨w.heap.size, 3, none⟩) l0).trans y3
                have E3 := (hb5.cell (p := ⟨w.heap.size, 3, none⟩) l0).trans d3
                have hs5 := hb5.size
                have hB5 : Below w.heap.size w w5 := bt hB hb5
                clear r0 y0 d0 r1 y1 d1 r2 y2 d2 r3 y3 d3
                by_cases hN2 : k < N
                · obtain rfl := hq1 hN2
                  clear hq1 hq2
                  go_wp2_with fail
                  go_roundw
                  case rel => exact ⟨⟨⟨by simp [go_sem, *], by simp [go_sem, *], by simp [go_sem, *], by simp [go_sem, *]⟩, ⟨by simp [go_sem, *], by simp [go_sem, *], by simp [go_sem, *], by simp [go_sem, *]⟩, by simp; omega, by repeat (first | (with_reducible exact Below.refl _ _) | (with_reducible assumption) | (with_reducible refine bdrew ?_) | (with_reducible refine baa ?_ _) | (with_reducible refine bs ?_ (by first | exact Nat.le_refl _ | omega | (simp; done) | (simp; omega)) _) | (with_reducible refine bt ?_ (by with_reducible assumption)))⟩, .inl ⟨k + 1, by omega, by omega, HJ3, by go_num, rfl, by simp [go_sem, *], by simp [go_sem, *], by simp [go_sem, *], by simp [go_sem, *]⟩⟩
                  case measure => simp [intOf]; omega
                · obtain rfl := hq2 hN2
                  obtain rfl : k = N := by omega
                  clear hq1 hq2
                  have HJ4 : Hid (∀ j, j ≤ k → ¬ s j = (ya, yb, yc, yd)) := Lib.hid (fun j hj => HJ3.out j (by omega))
                  go_wp2_with fail
                  go_roundw
                  case rel => exact ⟨⟨⟨by simp [go_sem, *], by simp [go_sem, *], by simp [go_sem, *], by simp [go_sem, *]⟩, ⟨by simp [go_sem, *], by simp [go_sem, *], by simp [go_sem, *], by simp [go_sem, *]⟩, by simp; omega, by repeat (first | (with_reducible exact Below.refl _ _) | (with_reducible assumption) | (with_reducible refine bdrew ?_) | (with_reducible refine baa ?_ _) | (with_reducible refine bs ?_ (by first | exact Nat.le_refl _ | omega | (simp; done) | (simp; omega)) _) | (with_reducible refine bt ?_ (by with_reducible assumption)))⟩, .inr ⟨hlt, HJ4, by go_num, rfl, by simp [go_sem, *], by simp [go_sem, *], by simp [go_sem, *], by simp [go_sem, *]⟩⟩
                  case measure => simp [intOf]; omega
            · have E2 : (xc == yc) = false := by simpa using (fun h => e2 h.symm : ¬ xc = yc)
              have HJ3 := HJ2 (fun h => e2 (congrArg (fun z : Dt => z.2.2.1) h).symm)
              clear HJ2 hR1
              go_wp2_with fail
              refine (HX.out _).mono ?_
              rintro e w5 ⟨⟨hq1, hq2⟩, hb5⟩
              have R0 := (hb5.cell (p := ⟨w.heap.size + 1, 0, none⟩) l1).trans r0
              have Y0 := (hb5.frozen (p := ⟨w.heap.size, 0, none⟩) l0).trans y0
              have E0 := (hb5.cell (p := ⟨w.heap.size, 0, none⟩) l0).trans d0
              have R1 := (hb5.cell (p := ⟨w.heap.size + 1, 1, none⟩) l1).trans r1
              have Y1 := (hb5.frozen (p := ⟨w.heap.size, 1, none⟩) l0).trans y1
              have E1 := (hb5.cell (p := ⟨w.heap.size, 1, none⟩) l0).trans d1
              have R2 := (hb5.cell (p := ⟨w.heap.size + 1, 2, none⟩) l1).trans r2
              have Y2 := (hb5.frozen (p := ⟨w.heap.size, 2, none⟩) l0).trans y2
              have E2 := (hb5.cell (p := ⟨w.heap.size, 2, none⟩) l0).trans d2
              have R3 := (hb5.cell (p := ⟨w.heap.size + 1, 3, none⟩) l1).trans r3
              have Y3 := (hb5.frozen (p := ⟨w.heap.size, 3, none⟩) l0).trans y3
              have E3 := (hb5.cell (p := ⟨w.heap.size, 3, none⟩) l0).trans d3
              have hs5 := hb5.size
              have hB5 : Below w.heap.size w w5 := bt hB hb5
              clear r0 y0 d0 r1 y1 d1 r2 y2 d2 r3 y3 d3
              by_cases hN2 : k < N
              · obtain rfl := hq1 hN2
                clear hq1 hq2
                go_wp2_with fail
                go_roundw
                case rel => exact ⟨⟨⟨by simp [go_sem, *], by simp [go_sem, *], by simp [go_sem, *], by simp [go_sem, *]⟩, ⟨by simp [go_sem, *], by simp [go_sem, *], by simp [go_sem, *], by simp [go_sem, *]⟩, by simp; omega, by repeat (first | (with_reducible exact Below.refl _ _) | (with_reducible assumption) | (with_reducible refine bdrew ?_) | (with_reducible refine baa ?_ _) | (with_reducible refine bs ?_ (by first | exact Nat.le_refl _ | omega | (simp; done) | (simp; omega)) _) | (with_reducible refine bt ?_ (by with_reducible assumption)))⟩, .inl ⟨k + 1, by omega, by omega, HJ3, by go_num, rfl, by simp [go_sem, *], by simp [go_sem, *], by simp [go_sem, *], by simp [go_sem, *]⟩⟩
                case measure => simp [intOf]; omega
              · obtain rfl := hq2 hN2
                obtain rfl : k = N := by omega
                clear hq1 hq2
                have HJ4 : Hid (∀ j, j ≤ k → ¬ s j = (ya, yb, yc, yd)) := Lib.hid (fun j hj => HJ3.out j (by omega))
                go_wp2_with fail
                go_roundw
                case rel => exact ⟨⟨⟨by simp [go_sem, *], by simp [go_sem, *], by simp [go_sem, *], by simp [go_sem, *]⟩, ⟨by simp [go_sem, *], by simp [go_sem, *], by simp [go_sem, *], by simp [go_sem, *]⟩, by simp; omega, by repeat (first | (with_reducible exact Below.refl _ _) | (with_reducible assumption) | (with_reducible refine bdrew ?_) | (with_reducible refine baa ?_ _) | (with_reducible refine bs ?_ (by first | exact Nat.le_refl _ | omega | (simp; done) | (simp; omega)) _) | (with_reducible refine bt ?_ (by with_reducible assumption)))⟩, .inr ⟨hlt, HJ4, by go_num, rfl, by simp [go_sem, *], by simp [go_sem, *], by simp [go_sem, *], by simp [go_sem, *]⟩⟩
                case measure => simp [intOf]; omega
          · have E1 : (xb == yb) = false := by simpa using (fun h => e1 h.symm : ¬ xb = yb)
            have HJ3 := HJ2 (fun h => e1 (congrArg (fun z : Dt => z.2.1) h).symm)
            clear HJ2 hR1
            go_wp2_with fail
            refine (HX.out _).mono ?_
            rintro e w5 ⟨⟨hq1, hq2⟩, hb5⟩
            have R0 := (hb5.cell (p := ⟨w.heap.size + 1, 0, none⟩) l1).trans r0
            have Y0 := (hb5.frozen (p := ⟨w.heap.size, 0, none⟩) l0).trans y0
            have E0 := (hb5.cell (p := ⟨w.heap.size, 0, none⟩) l0).trans d0
            have R1 := (hb5.cell (p := ⟨w.heap.size + 1, 1, none⟩) l1).trans r1
            have Y1 := (hb5.frozen (p := ⟨w.heap.size, 1, none⟩) l0).trans y1
            have E1 := (hb5.cell (p := ⟨w.heap.size, 1, none⟩) l0).trans d1
            have R2 := (hb5.cell (p := ⟨w.heap.size + 1, 2, none⟩) l1).trans r2
            have Y2 := (hb5.frozen (p := ⟨w.heap.size, 2, none⟩) l0).trans y2
            have E2 := (hb5.cell (p := ⟨w.heap.size, 2, none⟩) l0).trans d2
            have R3 := (hb5.cell (p := ⟨w.heap.size + 1, 3, none⟩) l1).trans r3
            have Y3 := (hb5.frozen (p := ⟨w.heap.size, 3, none⟩) l0).trans y3
            have E3 := (hb5.cell (p := ⟨w.heap.size, 3, none⟩) l0).trans d3
            have hs5 := hb5.size
            have hB5 : Below w.heap.size w w5 := bt hB hb5
            clear r0 y0 d0 r1 y1 d1 r2 y2 d2 r3 y3 d3
            by_cases hN2 : k < N
            · obtain rfl := hq1 hN2
              clear hq1 hq2
              go_wp2_with fail
              go_roundw
              case rel => exact ⟨⟨⟨by simp [go_sem, *], by simp [go_sem, *], by simp [go_sem, *], by simp [go_sem, *]⟩, ⟨by simp [go_sem, *], by simp [go_sem, *], by simp [go_sem, *], by simp [go_sem, *]⟩, by simp; omega, by repeat (first | (with_reducible exact Below.refl _ _) | (with_reducible assumption) | (with_reducible refine bdrew ?_) | (with_reducible refine baa ?_ _) | (with_reducible refine bs ?_ (by first | exact Nat.le_refl _ | omega | (simp; done) | (simp; omega)) _) | (with_reducible refine bt ?_ (by with_reducible assumption)))⟩, .inl ⟨k + 1, by omega, by omega, HJ3, by go_num, rfl, by simp [go_sem, *], by simp [go_sem, *], by simp [go_sem, *], by simp [go_sem, *]⟩⟩
              case measure => simp [intOf]; omega
            · obtain rfl := hq2 hN2
              obtain rfl : k = N := by omega
              clear hq1 hq2
              have HJ4 : Hid (∀ j, j ≤ k → ¬ s j = (ya, yb, yc, yd)) := Lib.hid (fun j hj => HJ3.out j (by omega))
              go_wp2_with fail
              go_roundw
              case rel => exact ⟨⟨⟨by simp [go_sem, *], by simp [go_sem, *], by simp [go_sem, *], by simp [go_sem, *]⟩, ⟨by simp [go_sem, *], by simp [go_sem, *], by simp [go_sem, *], by simp [go_sem, *]⟩, by simp; omega, by repeat (first | (with_reducible exact Below.refl _ _) | (with_reducible assumption) | (with_reducible refine bdrew ?_) | (with_reducible refine baa ?_ _) | (with_reducible refine bs ?_ (by first | exact Nat.le_refl _ | omega | (simp; done) | (simp; omega)) _) | (with_reducible refine bt ?_ (by with_reducible assumption)))⟩, .inr ⟨hlt, HJ4, by go_num, rfl, by simp [go_sem, *], by simp [go_sem, *], by simp [go_sem, *], by simp [go_sem, *]⟩⟩
              case measure => simp [intOf]; omega
        · have E0 : (xa == ya) = false := by simpa using (fun h => e0 h.symm : ¬ xa = ya)
          have HJ3 := HJ2 (fun h => e0 (congrArg (fun z : Dt => z.1) h).symm)
          clear HJ2 hR1
          go_wp2_with fail
          refine (HX.out _).mono ?_
          rintro e w5 ⟨⟨hq1, hq2⟩, hb5⟩
          have R0 := (hb5.cell (p := ⟨w.heap.size + 1, 0, none⟩) l1).trans r0
          have Y0 := (hb5.frozen (p := ⟨w.heap.size, 0, none⟩) l0).trans y0
          have E0 := (hb5.cell (p := ⟨w.heap.size, 0, none⟩) l0).trans d0
          have R1 := (hb5.cell (p := ⟨w.heap.size + 1, 1, none⟩) l1).trans r1
          have Y1 := (hb5.frozen (p := ⟨w.heap.size, 1, none⟩) l0).trans y1
          have E1 := (hb5.cell (p := ⟨w.heap.size, 1, none⟩) l0).trans d1
          have R2 := (hb5.cell (p := ⟨w.heap.size + 1, 2, none⟩) l1).trans r2
          have Y2 := (hb5.frozen (p := ⟨w.heap.size, 2, none⟩) l0).trans y2
          have E2 := (hb5.cell (p := ⟨w.heap.size, 2, none⟩) l0).trans d2
          have R3 := (hb5.cell (p := ⟨w.heap.size + 1, 3, none⟩) l1).trans r3
          have Y3 := (hb5.frozen (p := ⟨w.heap.size, 3, none⟩) l0).trans y3
          have E3 := (hb5.cell (p := ⟨w.heap.size, 3, none⟩) l0).trans d3
          have hs5 := hb5.size
          have hB5 : Below w.heap.size w w5 := bt hB hb5
          clear r0 y0 d0 r1 y1 d1 r2 y2 d2 r3 y3 d3
          by_cases hN2 : k < N
          · obtain rfl := hq1 hN2
            clear hq1 hq2
            go_wp2_with fail
            go_roundw
            case rel => exact ⟨⟨⟨by simp [go_sem, *], by simp [go_sem, *], by simp [go_sem, *], by simp [go_sem, *]⟩, ⟨by simp [go_sem, *], by simp [go_sem, *], by simp [go_sem, *], by simp [go_sem, *]⟩, by simp; omega, by repeat (first | (with_reducible exact Below.refl _ _) | (with_reducible assumption) | (with_reducible refine bdrew ?_) | (with_reducible refine baa ?_ _) | (with_reducible refine bs ?_ (by first | exact Nat.le_refl _ | omega | (simp; done) | (simp; omega)) _) | (with_reducible refine bt ?_ (by with_reducible assumption)))⟩, .inl ⟨k + 1, by omega, by omega, HJ3, by go_num, rfl, by simp [go_sem, *], by simp [go_sem, *], by simp [go_sem, *], by simp [go_sem, *]⟩⟩
            case measure => simp [intOf]; omega
          · obtain rfl := hq2 hN2
            obtain rfl : k = N := by omega
            clear hq1 hq2
            have HJ4 : Hid (∀ j, j ≤ k → ¬ s j = (ya, yb, yc, yd)) := Lib.hid (fun j hj => HJ3.out j (by omega))
            go_wp2_with fail
            go_roundw
            case rel => exact ⟨⟨⟨by simp [go_sem, *], by simp [go_sem, *], by simp [go_sem, *], by simp [go_sem, *]⟩, ⟨by simp [go_sem, *], by simp [go_sem, *], by simp [go_sem, *], by simp [go_sem, *]⟩, by simp; omega, by repeat (first | (with_reducible exact Below.refl _ _) | (with_reducible assumption) | (with_reducible refine bdrew ?_) | (with_reducible refine baa ?_ _) | (with_reducible refine bs ?_ (by first | exact Nat.le_refl _ | omega | (simp; done) | (simp; omega)) _) | (with_reducible refine bt ?_ (by with_reducible assumption)))⟩, .inr ⟨hlt, HJ4, by go_num, rfl, by simp [go_sem, *], by simp [go_sem, *], by simp [go_sem, *], by simp [go_sem, *]⟩⟩
            case measure => simp [intOf]; omega
      · have g1 : ¬ (k : Int) ≤ (m : Int) := by omega
        have g2 : decide ((k : Int) ≤ (m : Int)) = false := by simpa using g1
        obtain ⟨hR1, hR2⟩ := hR.2 (fun q h1 h2 => HJ.out q (by omega))
        go_wp2_with fail
        refine bodyPost_ret (v := .tuple #[.int .i64 R, .int .i64 er]) (by simp [results, Tryd.results19, go_sem, *]) rfl ⟨by first | rfl | (simp [hR1]; done) | (simp [hR1, hR2]; done), by repeat (first | (with_reducible exact Below.refl _ _) | (with_reducible assumption) | (with_reducible refine bdrew ?_) | (with_reducible refine baa ?_ _) | (with_reducible refine bs ?_ (by first | exact Nat.le_refl _ | omega | (simp; done) | (simp; omega)) _) | (with_reducible refine bt ?_ (by with_reducible assumption)))⟩
    · obtain ⟨hR1, hR2⟩ := hR.2 (fun q h1 h2 => HJ.out q h1)
      by_cases hsg : (N : Int) + 1 ≤ (m : Int)
      · have hsg2 : decide ((N : Int) + 1 ≤ (m : Int)) = true := by simpa using hsg
        go_wp2_with fail
        refine bodyPost_ret (v := .tuple #[.int .i64 R, .int .i64 er]) (by simp [results, Tryd.results19, go_sem, *]) rfl ⟨by first | rfl | (simp [hR1]; done) | (simp [hR1, hR2]; done), by repeat (first | (with_reducible exact Below.refl _ _) | (with_reducible assumption) | (with_reducible refine bdrew ?_) | (with_reducible refine baa ?_ _) | (with_reducible refine bs ?_ (by first | exact Nat.le_refl _ | omega | (simp; done) | (simp; omega)) _) | (with_reducible refine bt ?_ (by with_reducible assumption)))⟩
      · have hsg2 : decide ((N : Int) + 1 ≤ (m : Int)) = false := by simpa using hsg
        go_wp2_with fail
        refine bodyPost_ret (v := .tuple #[.int .i64 R, .int .i64 er]) (by simp [results, Tryd.results19, go_sem, *]) rfl ⟨by first | rfl | (simp [hR1]; done) | (simp [hR1, hR2]; done), by repeat (first | (with_reducible exact Below.refl _ _) | (with_reducible assumption) | (with_reducible refine bdrew ?_) | (with_reducible refine baa ?_ _) | (with_reducible refine bs ?_ (by first | exact Nat.le_refl _ | omega | (simp; done) | (simp; omega)) _) | (with_reducible refine bt ?_ (by with_reducible assumption)))⟩
end Go.Proofs.YtbmcpeccofadhaaDoor
