/- Layer 27: count.Steps. -/
import Derived.Test.YtgcpflbpiifdbaaDoorCountI
namespace Go.Proofs.YtgcpflbpiifdbaaDoor
open Go.ChangeShapes Go.WideShapes Go.ChangeAt Go.RowKit
set_option linter.unusedVariables false
set_option maxRecDepth 100000
attribute [local go_sem] Oper.semAt_some
set_option maxHeartbeats 2000000 in
theorem count_from (dd : Dt) (sf : Nat) (w : World) : Calls Tryd.prog 12 #[.agg #[.int .i64 (dd).1, .int .i64 (dd).2.1, .bool (dd).2.2.1, .int .i64 (dd).2.2.2], .func (.func sf) #[] #[]] w fun e w' => e = .returned (.func (.func 25) #[] #[.pointer (some ⟨w.heap.size, 0, none⟩), .pointer (some ⟨w.heap.size + 1, 0, none⟩)]) ∧ (w'.cell? ⟨w.heap.size, 0, none⟩ = some (.int .i64 (dd).1) ∧ w'.cell? ⟨w.heap.size, 1, none⟩ = some (.int .i64 (dd).2.1) ∧ w'.cell? ⟨w.heap.size, 2, none⟩ = some (.bool (dd).2.2.1) ∧ w'.cell? ⟨w.heap.size, 3, none⟩ = some (.int .i64 (dd).2.2.2)) ∧ w'.cell? ⟨w.heap.size + 1, 0, none⟩ = some (.func (.func sf) #[] #[]) ∧ Below w.heap.size w w' := by
  go_enter Tryd.func12, Tryd.ntmps12
  go_wp2_with fail
  go_ret
  exact ⟨rfl, ⟨by simp [go_sem], by simp [go_sem], by simp [go_sem], by simp [go_sem]⟩, by simp [go_sem], by repeat (first | (with_reducible exact Below.refl _ _) | (with_reducible assumption) | (with_reducible refine bdrew ?_) | (with_reducible refine baa ?_ _) | (with_reducible refine bs ?_ (by first | exact Nat.le_refl _ | omega | (simp; done) | (simp; omega)) _) | (with_reducible refine bt ?_ (by with_reducible assumption)))⟩
/-- A function that leaves behind a range over a function: its results lie in cells. -/
theorem leaves_cells {F : Fence} {n : Nat} {P : Program} {fn : Func} {tmps : Array Value} {D B : Nat} {v : Value} {w0 X : World} (hD : X.heap[D]? = some (.deferred (some []))) (hB : Below B w0 X) (hBD : B ≤ D)
    (hr : ∀ Y : World, (∀ p, Y.cell? p = X.cell? p) → (results fn tmps).run P Y = .ok v Y) :
    bodyPostM F n P fn (fun e w' => e = .returned v ∧ Below B w0 w') .ret { tmps := tmps, defers := [{ target := .collected D, args := #[] }] } X := by
  have hlt := (Array.getElem?_eq_some_iff.1 hD).1
  refine ⟨by simp, .inl ⟨D, _, rfl, run_takeDeferred hD, _, hr _ (fun p => ?_), rfl, hB.os, hB.tape, hB.output, ?_, fun k hk => ?_⟩⟩
  · unfold World.cell?
    by_cases e : p.block = D
    · rw [e, World.putObj_heap_same hlt, hD]
    · rw [World.putObj_heap_other e]
  · have := hB.size
    simp [World.putObj]
    omega
  · exact (World.putObj_heap_other (by omega)).trans (hB.block k hk)
set_option maxHeartbeats 8000000 in
theorem count_Steps_up (s : Nat → Dt) (N : Nat) (hN : N ≤ 4000000) (n : Int) (la : Int) (w : World) (hT : Tab w 1 kevCells) (hL : Tab w 0 lenCells) (hn : 0 ≤ n ∧ n ≤ 3000)
    (HC : Hid (∀ w : World, Tab w 1 kevCells → Tab w 0 lenCells → Calls Tryd.prog 9 #[.agg #[.int .i64 (s 0).1, .int .i64 (s 0).2.1, .bool (s 0).2.2.1, .int .i64 (s 0).2.2.2]] w fun e w' => e = .returned (.tuple #[.int .i64 la, .int .i64 0]) ∧ Below w.heap.size w w'))
    (HS : Hid (∀ k, k < N → ∀ W : World, Tab W 1 kevCells → Tab W 0 lenCells → Calls Tryd.prog 10 #[.agg #[.int .i64 (s k).1, .int .i64 (s k).2.1, .bool (s k).2.2.1, .int .i64 (s k).2.2.2]] W fun e w' => e = .returned (.tuple #[.agg #[.int .i64 (s (k + 1)).1, .int .i64 (s (k + 1)).2.1, .bool (s (k + 1)).2.2.1, .int .i64 (s (k + 1)).2.2.2], .int .i64 0]) ∧ Below W.heap.size W w'))
    (HE : Hid (∀ W : World, Tab W 1 kevCells → Tab W 0 lenCells → Calls Tryd.prog 10 #[.agg #[.int .i64 (s N).1, .int .i64 (s N).2.1, .bool (s N).2.2.1, .int .i64 (s N).2.2.2]] W fun e w' => e = .returned (.tuple #[.agg #[.int .i64 0, .int .i64 0, .bool false, .int .i64 0], .int .i64 2]) ∧ Below W.heap.size W w')) (q : Nat) (hq : (q : Int) = n) (R : Dt) (er : Int) (hR : (q ≤ N → R = s q ∧ er = 0) ∧ (¬ q ≤ N → R = (0, 0, false, 0) ∧ er = 2)) :
    Calls Tryd.prog 4 #[.agg #[.int .i64 (s 0).1, .int .i64 (s 0).2.1, .bool (s 0).2.2.1, .int .i64 (s 0).2.2.2], .int .i64 n] w fun e w' => e = .returned (.tuple #[.agg #[.int .i64 (R).1, .int .i64 (R).2.1, .bool (R).2.2.1, .int .i64 (R).2.2.2], .int .i64 er]) ∧ Below w.heap.size w w' := by
  refine (callsIn_wide (n := 3)).1 ?_
  refine callsIn_of_wp_marks Tryd.func4 rfl trivial ?_ rfl
  simp only [Tryd.ntmps4, List.size_toArray, List.length_cons, List.length_nil, Nat.reduceAdd, Nat.reduceSub, Array.replicate_succ, Array.replicate_zero, List.push_toArray, List.append_toArray, List.nil_append, List.cons_append]
  gi_wp2
  refine ⟨trivial, (callsIn_wide.2 (HC.out _ (Tab.below hT (by repeat (first | (with_reducible exact Below.refl _ _) | (with_reducible assumption) | (with_reducible refine bdrew ?_) | (with_reducible refine baa ?_ _) | (with_reducible refine bs ?_ (by first | exact Nat.le_refl _ | omega | (simp; done) | (simp; omega)) _) | (with_reducible refine bt ?_ (by with_reducible assumption))))) (Tab.below hL (by repeat (first | (with_reducible exact Below.refl _ _) | (with_reducible assumption) | (with_reducible refine bdrew ?_) | (with_reducible refine baa ?_ _) | (with_reducible refine bs ?_ (by first | exact Nat.le_refl _ | omega | (simp; done) | (simp; omega)) _) | (with_reducible refine bt ?_ (by with_reducible assumption))))))).mono ?_⟩
  rintro e w1 ⟨rfl, hb1⟩
  obtain ⟨hc1, hf1⟩ := bcell hb1
  have hz1 := hb1.size
  simp at hz1
  have d0 : w1.cell? ⟨w.heap.size, 0, none⟩ = some (.int .i64 (s 0).1) := (hc1 _ _ (by first | (simp; done) | (simp; omega))).trans (by simp [go_sem])
  have d1 : w1.cell? ⟨w.heap.size, 1, none⟩ = some (.int .i64 (s 0).2.1) := (hc1 _ _ (by first | (simp; done) | (simp; omega))).trans (by simp [go_sem])
  have d2 : w1.cell? ⟨w.heap.size, 2, none⟩ = some (.bool (s 0).2.2.1) := (hc1 _ _ (by first | (simp; done) | (simp; omega))).trans (by simp [go_sem])
  have d3 : w1.cell? ⟨w.heap.size, 3, none⟩ = some (.int .i64 (s 0).2.2.2) := (hc1 _ _ (by first | (simp; done) | (simp; omega))).trans (by simp [go_sem])
  have r0 : w1.cell? ⟨w.heap.size + 1, 0, none⟩ = some (.int .i64 0) := (hc1 _ _ (by first | (simp; done) | (simp; omega))).trans (by simp [go_sem])
  have z0 : w1.frozen? ⟨w.heap.size + 1, 0, none⟩ = false := (hf1 _ _ (by first | (simp; done) | (simp; omega))).trans (by simp [go_sem])
  have r1 : w1.cell? ⟨w.heap.size + 1, 1, none⟩ = some (.int .i64 0) := (hc1 _ _ (by first | (simp; done) | (simp; omega))).trans (by simp [go_sem])
  have z1 : w1.frozen? ⟨w.heap.size + 1, 1, none⟩ = false := (hf1 _ _ (by first | (simp; done) | (simp; omega))).trans (by simp [go_sem])
  have r2 : w1.cell? ⟨w.heap.size + 1, 2, none⟩ = some (.bool false) := (hc1 _ _ (by first | (simp; done) | (simp; omega))).trans (by simp [go_sem])
  have z2 : w1.frozen? ⟨w.heap.size + 1, 2, none⟩ = false := (hf1 _ _ (by first | (simp; done) | (simp; omega))).trans (by simp [go_sem])
  have r3 : w1.cell? ⟨w.heap.size + 1, 3, none⟩ = some (.int .i64 0) := (hc1 _ _ (by first | (simp; done) | (simp; omega))).trans (by simp [go_sem])
  have z3 : w1.frozen? ⟨w.heap.size + 1, 3, none⟩ = false := (hf1 _ _ (by first | (simp; done) | (simp; omega))).trans (by simp [go_sem])
  have r4 : w1.cell? ⟨w.heap.size + 2, 0, none⟩ = some (.int .i64 0) := (hc1 _ _ (by first | (simp; done) | (simp; omega))).trans (by simp [go_sem])
  have z4 : w1.frozen? ⟨w.heap.size + 2, 0, none⟩ = false := (hf1 _ _ (by first | (simp; done) | (simp; omega))).trans (by simp [go_sem])
  have hB1 : Below w.heap.size w w1 := by repeat (first | (with_reducible exact Below.refl _ _) | (with_reducible assumption) | (with_reducible refine bdrew ?_) | (with_reducible refine baa ?_ _) | (with_reducible refine bs ?_ (by first | exact Nat.le_refl _ | omega | (simp; done) | (simp; omega)) _) | (with_reducible refine bt ?_ (by with_reducible assumption)))
  have l0 : w.heap.size < w1.heap.size := by omega
  have l1 : w.heap.size + 1 < w1.heap.size := by omega
  have l2 : w.heap.size + 2 < w1.heap.size := by omega
  clear hb1
  obtain ⟨n1, n2⟩ := hn
  have N1 : ¬ n < -3000 := by omega
  have N2 : ¬ 3000 < n := by omega
  have M1 : decide (n < -3000) = false := by simpa using N1
  have M2 : decide (3000 < n) = false := by simpa using N2
  have N3 : ¬ n < 0 := by omega
  gi_wp2
  refine ⟨trivial, (callsIn_wide.2 (count_from (s 0) 10 _)).mono ?_⟩
  rintro e w2 ⟨rfl, ⟨e0, e1, e2, e3⟩, es, hb2⟩
  simp only [World.size_alloc] at e0 e1 e2 e3 es
  obtain ⟨hc2, hf2⟩ := bcell hb2
  have hz2 := hb2.size
  simp at hz2
  have D0 : w2.cell? ⟨w.heap.size, 0, none⟩ = some (.int .i64 (s 0).1) := (hc2 _ _ (by first | (simp; done) | (simp; omega))).trans (by first | (simp [go_sem]; done) | (simp [go_sem, *]; done))
  have D1 : w2.cell? ⟨w.heap.size, 1, none⟩ = some (.int .i64 (s 0).2.1) := (hc2 _ _ (by first | (simp; done) | (simp; omega))).trans (by first | (simp [go_sem]; done) | (simp [go_sem, *]; done))
  have D2 : w2.cell? ⟨w.heap.size, 2, none⟩ = some (.bool (s 0).2.2.1) := (hc2 _ _ (by first | (simp; done) | (simp; omega))).trans (by first | (simp [go_sem]; done) | (simp [go_sem, *]; done))
  have D3 : w2.cell? ⟨w.heap.size, 3, none⟩ = some (.int .i64 (s 0).2.2.2) := (hc2 _ _ (by first | (simp; done) | (simp; omega))).trans (by first | (simp [go_sem]; done) | (simp [go_sem, *]; done))
  have R0 : w2.cell? ⟨w.heap.size + 1, 0, none⟩ = some (.int .i64 0) := (hc2 _ _ (by first | (simp; done) | (simp; omega))).trans (by first | (simp [go_sem]; done) | (simp [go_sem, *]; done))
  have Z0 : w2.frozen? ⟨w.heap.size + 1, 0, none⟩ = false := (hf2 _ _ (by first | (simp; done) | (simp; omega))).trans (by first | (simp [go_sem]; done) | (simp [go_sem, *]; done))
  have R1 : w2.cell? ⟨w.heap.size + 1, 1, none⟩ = some (.int .i64 0) := (hc2 _ _ (by first | (simp; done) | (simp; omega))).trans (by first | (simp [go_sem]; done) | (simp [go_sem, *]; done))
  have Z1 : w2.frozen? ⟨w.heap.size + 1, 1, none⟩ = false := (hf2 _ _ (by first | (simp; done) | (simp; omega))).trans (by first | (simp [go_sem]; done) | (simp [go_sem, *]; done))
  have R2 : w2.cell? ⟨w.heap.size + 1, 2, none⟩ = some (.bool false) := (hc2 _ _ (by first | (simp; done) | (simp; omega))).trans (by first | (simp [go_sem]; done) | (simp [go_sem, *]; done))
  have Z2 : w2.frozen? ⟨w.heap.size + 1, 2, none⟩ = false := (hf2 _ _ (by first | (simp; done) | (simp; omega))).trans (by first | (simp [go_sem]; done) | (simp [go_sem, *]; done))
  have R3 : w2.cell? ⟨w.heap.size + 1, 3, none⟩ = some (.int .i64 0) := (hc2 _ _ (by first | (simp; done) | (simp; omega))).trans (by first | (simp [go_sem]; done) | (simp [go_sem, *]; done))
  have Z3 : w2.frozen? ⟨w.heap.size + 1, 3, none⟩ = false := (hf2 _ _ (by first | (simp; done) | (simp; omega))).trans (by first | (simp [go_sem]; done) | (simp [go_sem, *]; done))
  have R4 : w2.cell? ⟨w.heap.size + 2, 0, none⟩ = some (.int .i64 0) := (hc2 _ _ (by first | (simp; done) | (simp; omega))).trans (by first | (simp [go_sem]; done) | (simp [go_sem, *]; done))
  have Z4 : w2.frozen? ⟨w.heap.size + 2, 0, none⟩ = false := (hf2 _ _ (by first | (simp; done) | (simp; omega))).trans (by first | (simp [go_sem]; done) | (simp [go_sem, *]; done))
  have X0 : w2.cell? ⟨w1.heap.size, 0, none⟩ = some (.int .i64 (q : Int)) := (hc2 _ _ (by first | (simp; done) | (simp; omega))).trans (by rw [hq]; simp [go_sem, *])
  clear hq
  have hB2 : Below w.heap.size w w2 := by repeat (first | (with_reducible exact Below.refl _ _) | (with_reducible assumption) | (with_reducible refine bdrew ?_) | (with_reducible refine baa ?_ _) | (with_reducible refine bs ?_ (by first | exact Nat.le_refl _ | omega | (simp; done) | (simp; omega)) _) | (with_reducible refine bt ?_ (by with_reducible assumption)))
  have lw0 : w.heap.size < w2.heap.size := by omega
  have lw1 : w.heap.size + 1 < w2.heap.size := by omega
  have lw2 : w.heap.size + 2 < w2.heap.size := by omega
  have lw3 : w1.heap.size < w2.heap.size := by omega
  have hT2 := Tab.below hT hB2
  have hL2 := Tab.below hL hB2
  clear hc1 hf1 hc2 hf2 hb2 d0 d1 d2 d3 r0 r1 r2 r3 r4 z0 z1 z2 z3 z4 hB1
  gi_wp2
  refine wpIn_range_quiet (gf := 25) rfl (enters_of Tryd.func25 (by kernel_rfl) rfl) (fun k => #[.int .i64 (k : Int), .agg #[.int .i64 (s k).1, .int .i64 (s k).2.1, .bool (s k).2.2.1, .int .i64 (s k).2.2.2]]) N (fun _ => rfl) (fun k => ¬ k = q)
    (fun k c W => c = .ret ∧ k = q ∧ Below w.heap.size w W ∧ (W.cell? ⟨w.heap.size + 1, 0, none⟩ = some (.int .i64 (s q).1) ∧ W.cell? ⟨w.heap.size + 1, 1, none⟩ = some (.int .i64 (s q).2.1) ∧ W.cell? ⟨w.heap.size + 1, 2, none⟩ = some (.bool (s q).2.2.1) ∧ W.cell? ⟨w.heap.size + 1, 3, none⟩ = some (.int .i64 (s q).2.2.2)) ∧ W.cell? ⟨w.heap.size + 2, 0, none⟩ = some (.int .i64 0)) ?hJ ?hit ?round ?done ?stop
  case hJ =>
    rintro k c X Y hA ⟨h1, h2, h3, ⟨c0, c1, c2, c3⟩, c4⟩
    exact ⟨h1, h2, h3.trans (hA.below.mono (by omega)), ⟨(hA.cell _).trans c0, (hA.cell _).trans c1, (hA.cell _).trans c2, (hA.cell _).trans c3⟩, (hA.cell _).trans c4⟩
  case hit =>
    intro l W0 Jx hW hY
    exact count_iter_next 2 s 2 N hN l _ _ w2 W0 hT2 hL2 _ Jx HS HE rfl e0 e1 e2 e3 es hW hY
  case round =>
    intro l k W hk hW hlt
    have S0 := (hW.cell (p := ⟨w.heap.size + 1, 0, none⟩) lw1).trans R0
    have S1 := (hW.cell (p := ⟨w.heap.size + 1, 1, none⟩) lw1).trans R1
    have S2 := (hW.cell (p := ⟨w.heap.size + 1, 2, none⟩) lw1).trans R2
    have S3 := (hW.cell (p := ⟨w.heap.size + 1, 3, none⟩) lw1).trans R3
    have S4 := (hW.cell (p := ⟨w.heap.size + 2, 0, none⟩) lw2).trans R4
    have F0 := (hW.frozen (p := ⟨w.heap.size + 1, 0, none⟩) lw1).trans Z0
    have F1 := (hW.frozen (p := ⟨w.heap.size + 1, 1, none⟩) lw1).trans Z1
    have F2 := (hW.frozen (p := ⟨w.heap.size + 1, 2, none⟩) lw1).trans Z2
    have F3 := (hW.frozen (p := ⟨w.heap.size + 1, 3, none⟩) lw1).trans Z3
    have F4 := (hW.frozen (p := ⟨w.heap.size + 2, 0, none⟩) lw2).trans Z4
    have hWs := hW.size
    have q1 : w.heap.size + 1 < W.heap.size := by omega
    have q2 : w.heap.size + 2 < W.heap.size := by omega
    have q3 : w1.heap.size < W.heap.size := by omega
    have hWB : Below w.heap.size w W := hB2.trans (hW.mono hB2.size)
    have X1 := (hW.cell (p := ⟨w1.heap.size, 0, none⟩) lw3).trans X0
    gi_wp2
    refine ⟨by repeat (first | (with_reducible exact Below.refl _ _) | (with_reducible assumption) | (with_reducible refine bdrew ?_) | (with_reducible refine baa ?_ _) | (with_reducible refine bs ?_ (by first | exact Nat.le_refl _ | omega | (simp; done) | (simp; omega)) _) | (with_reducible refine bt ?_ (by with_reducible assumption))), ?_⟩
    intro W2 hA
    have G0 : W2.cell? ⟨w.heap.size + 1, 0, none⟩ = some (.int .i64 0) := (hA.cell _).trans (by simp [go_sem, *])
    have G1 : W2.cell? ⟨w.heap.size + 1, 1, none⟩ = some (.int .i64 0) := (hA.cell _).trans (by simp [go_sem, *])
    have G2 : W2.cell? ⟨w.heap.size + 1, 2, none⟩ = some (.bool false) := (hA.cell _).trans (by simp [go_sem, *])
    have G3 : W2.cell? ⟨w.heap.size + 1, 3, none⟩ = some (.int .i64 0) := (hA.cell _).trans (by simp [go_sem, *])
    have G4 : W2.cell? ⟨w.heap.size + 2, 0, none⟩ = some (.int .i64 0) := (hA.cell _).trans (by simp [go_sem, *])
    have K0 : W2.frozen? ⟨w.heap.size + 1, 0, none⟩ = false := (hA.frozen _).trans (by simp [go_sem, *])
    have K1 : W2.frozen? ⟨w.heap.size + 1, 1, none⟩ = false := (hA.frozen _).trans (by simp [go_sem, *])
    have K2 : W2.frozen? ⟨w.heap.size + 1, 2, none⟩ = false := (hA.frozen _).trans (by simp [go_sem, *])
    have K3 : W2.frozen? ⟨w.heap.size + 1, 3, none⟩ = false := (hA.frozen _).trans (by simp [go_sem, *])
    have K4 : W2.frozen? ⟨w.heap.size + 2, 0, none⟩ = false := (hA.frozen _).trans (by simp [go_sem, *])
    have X2 : W2.cell? ⟨w1.heap.size, 0, none⟩ = some (.int .i64 (q : Int)) := (hA.cell _).trans (by simp [go_sem, *])
    have A0 : W2.cell? ⟨W.heap.size, 0, none⟩ = some (.int .i64 (s k).1) := (hA.cell _).trans (by simp [go_sem, *])
    have A1 : W2.cell? ⟨W.heap.size, 1, none⟩ = some (.int .i64 (s k).2.1) := (hA.cell _).trans (by simp [go_sem, *])
    have A2 : W2.cell? ⟨W.heap.size, 2, none⟩ = some (.bool (s k).2.2.1) := (hA.cell _).trans (by simp [go_sem, *])
    have A3 : W2.cell? ⟨W.heap.size, 3, none⟩ = some (.int .i64 (s k).2.2.2) := (hA.cell _).trans (by simp [go_sem, *])
    have hsA : W2.heap.size = W.heap.size + 1 := hA.size.trans (by simp)
    have hAB : Below w.heap.size w W2 := Below.trans (by repeat (first | (with_reducible exact Below.refl _ _) | (with_reducible assumption) | (with_reducible refine bdrew ?_) | (with_reducible refine baa ?_ _) | (with_reducible refine bs ?_ (by first | exact Nat.le_refl _ | omega | (simp; done) | (simp; omega)) _) | (with_reducible refine bt ?_ (by with_reducible assumption)))) (hA.below.mono hB2.size)
    clear hA S0 S1 S2 S3 S4 F0 F1 F2 F3 F4 X1
    by_cases c : k = q
    · subst c
      gi_wp2
      refine ⟨?_, rfl, by repeat (first | (with_reducible exact Below.refl _ _) | (with_reducible assumption) | (with_reducible refine bdrew ?_) | (with_reducible refine baa ?_ _) | (with_reducible refine bs ?_ (by first | exact Nat.le_refl _ | omega | (simp; done) | (simp; omega)) _) | (with_reducible refine bt ?_ (by with_reducible assumption))), ⟨by simp [go_sem, *], by simp [go_sem, *], by simp [go_sem, *], by simp [go_sem, *]⟩, by simp [go_sem, *]⟩
      repeat (first | exact Upper.refl _ _ | refine Upper.setCell ?_ (by simp; omega) _)
    · have c2 : ((k : Int) == (q : Int)) = false := by simpa using (show ¬ (k : Int) = (q : Int) by omega)
      gi_wp2
      exact ⟨c, Below.refl _ _⟩
  case done =>
    intro W hW hG hD
    have S0 := (hW.cell (p := ⟨w.heap.size + 1, 0, none⟩) lw1).trans R0
    have S1 := (hW.cell (p := ⟨w.heap.size + 1, 1, none⟩) lw1).trans R1
    have S2 := (hW.cell (p := ⟨w.heap.size + 1, 2, none⟩) lw1).trans R2
    have S3 := (hW.cell (p := ⟨w.heap.size + 1, 3, none⟩) lw1).trans R3
    have S4 := (hW.cell (p := ⟨w.heap.size + 2, 0, none⟩) lw2).trans R4
    have F0 := (hW.frozen (p := ⟨w.heap.size + 1, 0, none⟩) lw1).trans Z0
    have F1 := (hW.frozen (p := ⟨w.heap.size + 1, 1, none⟩) lw1).trans Z1
    have F2 := (hW.frozen (p := ⟨w.heap.size + 1, 2, none⟩) lw1).trans Z2
    have F3 := (hW.frozen (p := ⟨w.heap.size + 1, 3, none⟩) lw1).trans Z3
    have F4 := (hW.frozen (p := ⟨w.heap.size + 2, 0, none⟩) lw2).trans Z4
    have hWs := hW.size
    have q1 : w.heap.size + 1 < W.heap.size := by omega
    have q2 : w.heap.size + 2 < W.heap.size := by omega
    have q3 : w1.heap.size < W.heap.size := by omega
    have hWB : Below w.heap.size w W := hB2.trans (hW.mono hB2.size)
    obtain ⟨rfl, rfl⟩ := hR.2 (fun h => hG q h rfl)
    gi_wp2
    refine leaves_cells (by repeat (first | (with_reducible exact hD) | refine (Below.heap_setCell _ _ _ _ (by simp; omega)).trans ?_)) (by repeat (first | (with_reducible exact Below.refl _ _) | (with_reducible assumption) | (with_reducible refine bdrew ?_) | (with_reducible refine baa ?_ _) | (with_reducible refine bs ?_ (by first | exact Nat.le_refl _ | omega | (simp; done) | (simp; omega)) _) | (with_reducible refine bt ?_ (by with_reducible assumption)))) (by omega) (fun Y hY => ?_)
    have T0 : Y.cell? ⟨w.heap.size + 1, 0, none⟩ = some (.int .i64 0) := (hY _).trans (by simp [go_sem, *])
    have T1 : Y.cell? ⟨w.heap.size + 1, 1, none⟩ = some (.int .i64 0) := (hY _).trans (by simp [go_sem, *])
    have T2 : Y.cell? ⟨w.heap.size + 1, 2, none⟩ = some (.bool false) := (hY _).trans (by simp [go_sem, *])
    have T3 : Y.cell? ⟨w.heap.size + 1, 3, none⟩ = some (.int .i64 0) := (hY _).trans (by simp [go_sem, *])
    have T4 : Y.cell? ⟨w.heap.size + 2, 0, none⟩ = some (.int .i64 2) := (hY _).trans (by simp [go_sem, *])
    simp [results, Tryd.results4, go_sem, T0, T1, T2, T3, T4]
  case stop =>
    rintro k c W hk hG ⟨rfl, rfl, hB, ⟨c0, c1, c2, c3⟩, c4⟩ hD
    obtain ⟨rfl, rfl⟩ := hR.1 hk
    gi_wp2
    refine leaves_cells hD hB (by omega) (fun Y hY => ?_)
    have T0 : Y.cell? ⟨w.heap.size + 1, 0, none⟩ = some (.int .i64 (s k).1) := (hY _).trans c0
    have T1 : Y.cell? ⟨w.heap.size + 1, 1, none⟩ = some (.int .i64 (s k).2.1) := (hY _).trans c1
    have T2 : Y.cell? ⟨w.heap.size + 1, 2, none⟩ = some (.bool (s k).2.2.1) := (hY _).trans c2
    have T3 : Y.cell? ⟨w.heap.size + 1, 3, none⟩ = some (.int .i64 (s k).2.2.2) := (hY _).trans c3
    have T4 : Y.cell? ⟨w.heap.size + 2, 0, none⟩ = some (.int .i64 0) := (hY _).trans c4
    simp [results, Tryd.results4, go_sem, T0, T1, T2, T3, T4]
set_option maxHeartbeats 8000000 in
theorem count_Steps_down (s : Nat → Dt) (N : Nat) (hN : N ≤ 4000000) (n : Int) (la : Int) (w : World) (hT : Tab w 1 kevCells) (hL : Tab w 0 lenCells) (hn : -3000 ≤ n ∧ n < 0)
    (HC : Hid (∀ w : World, Tab w 1 kevCells → Tab w 0 lenCells → Calls Tryd.prog 9 #[.agg #[.int .i64 (s 0).1, .int .i64 (s 0).2.1, .bool (s 0).2.2.1, .int .i64 (s 0).2.2.2]] w fun e w' => e = .returned (.tuple #[.int .i64 la, .int .i64 0]) ∧ Below w.heap.size w w'))
    (HS : Hid (∀ k, k < N → ∀ W : World, Tab W 1 kevCells → Tab W 0 lenCells → Calls Tryd.prog 11 #[.agg #[.int .i64 (s k).1, .int .i64 (s k).2.1, .bool (s k).2.2.1, .int .i64 (s k).2.2.2]] W fun e w' => e = .returned (.tuple #[.agg #[.int .i64 (s (k + 1)).1, .int .i64 (s (k + 1)).2.1, .bool (s (k + 1)).2.2.1, .int .i64 (s (k + 1)).2.2.2], .int .i64 0]) ∧ Below W.heap.size W w'))
    (HE : Hid (∀ W : World, Tab W 1 kevCells → Tab W 0 lenCells → Calls Tryd.prog 11 #[.agg #[.int .i64 (s N).1, .int .i64 (s N).2.1, .bool (s N).2.2.1, .int .i64 (s N).2.2.2]] W fun e w' => e = .returned (.tuple #[.agg #[.int .i64 0, .int .i64 0, .bool false, .int .i64 0], .int .i64 2]) ∧ Below W.heap.size W w')) (q : Nat) (hq : (q : Int) = -n) (R : Dt) (er : Int) (hR : (q ≤ N → R = s q ∧ er = 0) ∧ (¬ q ≤ N → R = (0, 0, false, 0) ∧ er = 2)) :
    Calls Tryd.prog 4 #[.agg #[.int .i64 (s 0).1, .int .i64 (s 0).2.1, .bool (s 0).2.2.1, .int .i64 (s 0).2.2.2], .int .i64 n] w fun e w' => e = .returned (.tuple #[.agg #[.int .i64 (R).1, .int .i64 (R).2.1, .bool (R).2.2.1, .int .i64 (R).2.2.2], .int .i64 er]) ∧ Below w.heap.size w w' := by
  refine (callsIn_wide (n := 3)).1 ?_
  refine callsIn_of_wp_marks Tryd.func4 rfl trivial ?_ rfl
  simp only [Tryd.ntmps4, List.size_toArray, List.length_cons, List.length_nil, Nat.reduceAdd, Nat.reduceSub, Array.replicate_succ, Array.replicate_zero, List.push_toArray, List.append_toArray, List.nil_append, List.cons_append]
  gi_wp2
  refine ⟨trivial, (callsIn_wide.2 (HC.out _ (Tab.below hT (by repeat (first | (with_reducible exact Below.refl _ _) | (with_reducible assumption) | (with_reducible refine bdrew ?_) | (with_reducible refine baa ?_ _) | (with_reducible refine bs ?_ (by first | exact Nat.le_refl _ | omega | (simp; done) | (simp; omega)) _) | (with_reducible refine bt ?_ (by with_reducible assumption))))) (Tab.below hL (by repeat (first | (with_reducible exact Below.refl _ _) | (with_reducible assumption) | (with_reducible refine bdrew ?_) | (with_reducible refine baa ?_ _) | (with_reducible refine bs ?_ (by first | exact Nat.le_refl _ | omega | (simp; done) | (simp; omega)) _) | (with_reducible refine bt ?_ (by with_reducible assumption))))))).mono ?_⟩
  rintro e w1 ⟨rfl, hb1⟩
  obtain ⟨hc1, hf1⟩ := bcell hb1
  have hz1 := hb1.size
  simp at hz1
  have d0 : w1.cell? ⟨w.heap.size, 0, none⟩ = some (.int .i64 (s 0).1) := (hc1 _ _ (by first | (simp; done) | (simp; omega))).trans (by simp [go_sem])
  have d1 : w1.cell? ⟨w.heap.size, 1, none⟩ = some (.int .i64 (s 0).2.1) := (hc1 _ _ (by first | (simp; done) | (simp; omega))).trans (by simp [go_sem])
  have d2 : w1.cell? ⟨w.heap.size, 2, none⟩ = some (.bool (s 0).2.2.1) := (hc1 _ _ (by first | (simp; done) | (simp; omega))).trans (by simp [go_sem])
  have d3 : w1.cell? ⟨w.heap.size, 3, none⟩ = some (.int .i64 (s 0).2.2.2) := (hc1 _ _ (by first | (simp; done) | (simp; omega))).trans (by simp [go_sem])
  have r0 : w1.cell? ⟨w.heap.size + 1, 0, none⟩ = some (.int .i64 0) := (hc1 _ _ (by first | (simp; done) | (simp; omega))).trans (by simp [go_sem])
  have z0 : w1.frozen? ⟨w.heap.size + 1, 0, none⟩ = false := (hf1 _ _ (by first | (simp; done) | (simp; omega))).trans (by simp [go_sem])
  have r1 : w1.cell? ⟨w.heap.size + 1, 1, none⟩ = some (.int .i64 0) := (hc1 _ _ (by first | (simp; done) | (simp; omega))).trans (by simp [go_sem])
  have z1 : w1.frozen? ⟨w.heap.size + 1, 1, none⟩ = false := (hf1 _ _ (by first | (simp; done) | (simp; omega))).trans (by simp [go_sem])
  have r2 : w1.cell? ⟨w.heap.size + 1, 2, none⟩ = some (.bool false) := (hc1 _ _ (by first | (simp; done) | (simp; omega))).trans (by simp [go_sem])
  have z2 : w1.frozen? ⟨w.heap.size + 1, 2, none⟩ = false := (hf1 _ _ (by first | (simp; done) | (simp; omega))).trans (by simp [go_sem])
  have r3 : w1.cell? ⟨w.heap.size + 1, 3, none⟩ = some (.int .i64 0) := (hc1 _ _ (by first | (simp; done) | (simp; omega))).trans (by simp [go_sem])
  have z3 : w1.frozen? ⟨w.heap.size + 1, 3, none⟩ = false := (hf1 _ _ (by first | (simp; done) | (simp; omega))).trans (by simp [go_sem])
  have r4 : w1.cell? ⟨w.heap.size + 2, 0, none⟩ = some (.int .i64 0) := (hc1 _ _ (by first | (simp; done) | (simp; omega))).trans (by simp [go_sem])
  have z4 : w1.frozen? ⟨w.heap.size + 2, 0, none⟩ = false := (hf1 _ _ (by first | (simp; done) | (simp; omega))).trans (by simp [go_sem])
  have hB1 : Below w.heap.size w w1 := by repeat (first | (with_reducible exact Below.refl _ _) | (with_reducible assumption) | (with_reducible refine bdrew ?_) | (with_reducible refine baa ?_ _) | (with_reducible refine bs ?_ (by first | exact Nat.le_refl _ | omega | (simp; done) | (simp; omega)) _) | (with_reducible refine bt ?_ (by with_reducible assumption)))
  have l0 : w.heap.size < w1.heap.size := by omega
  have l1 : w.heap.size + 1 < w1.heap.size := by omega
  have l2 : w.heap.size + 2 < w1.heap.size := by omega
  clear hb1
  obtain ⟨n1, n2⟩ := hn
  have N1 : ¬ n < -3000 := by omega
  have N2 : ¬ 3000 < n := by omega
  have M1 : decide (n < -3000) = false := by simpa using N1
  have M2 : decide (3000 < n) = false := by simpa using N2
  have N3 : n < 0 := by omega
  gi_wp2
  refine ⟨trivial, (callsIn_wide.2 (count_from (s 0) 11 _)).mono ?_⟩
  rintro e w2 ⟨rfl, ⟨e0, e1, e2, e3⟩, es, hb2⟩
  simp only [World.size_alloc] at e0 e1 e2 e3 es
  obtain ⟨hc2, hf2⟩ := bcell hb2
  have hz2 := hb2.size
  simp at hz2
  have D0 : w2.cell? ⟨w.heap.size, 0, none⟩ = some (.int .i64 (s 0).1) := (hc2 _ _ (by first | (simp; done) | (simp; omega))).trans (by first | (simp [go_sem]; done) | (simp [go_sem, *]; done))
  have D1 : w2.cell? ⟨w.heap.size, 1, none⟩ = some (.int .i64 (s 0).2.1) := (hc2 _ _ (by first | (simp; done) | (simp; omega))).trans (by first | (simp [go_sem]; done) | (simp [go_sem, *]; done))
  have D2 : w2.cell? ⟨w.heap.size, 2, none⟩ = some (.bool (s 0).2.2.1) := (hc2 _ _ (by first | (simp; done) | (simp; omega))).trans (by first | (simp [go_sem]; done) | (simp [go_sem, *]; done))
  have D3 : w2.cell? ⟨w.heap.size, 3, none⟩ = some (.int .i64 (s 0).2.2.2) := (hc2 _ _ (by first | (simp; done) | (simp; omega))).trans (by first | (simp [go_sem]; done) | (simp [go_sem, *]; done))
  have R0 : w2.cell? ⟨w.heap.size + 1, 0, none⟩ = some (.int .i64 0) := (hc2 _ _ (by first | (simp; done) | (simp; omega))).trans (by first | (simp [go_sem]; done) | (simp [go_sem, *]; done))
  have Z0 : w2.frozen? ⟨w.heap.size + 1, 0, none⟩ = false := (hf2 _ _ (by first | (simp; done) | (simp; omega))).trans (by first | (simp [go_sem]; done) | (simp [go_sem, *]; done))
  have R1 : w2.cell? ⟨w.heap.size + 1, 1, none⟩ = some (.int .i64 0) := (hc2 _ _ (by first | (simp; done) | (simp; omega))).trans (by first | (simp [go_sem]; done) | (simp [go_sem, *]; done))
  have Z1 : w2.frozen? ⟨w.heap.size + 1, 1, none⟩ = false := (hf2 _ _ (by first | (simp; done) | (simp; omega))).trans (by first | (simp [go_sem]; done) | (simp [go_sem, *]; done))
  have R2 : w2.cell? ⟨w.heap.size + 1, 2, none⟩ = some (.bool false) := (hc2 _ _ (by first | (simp; done) | (simp; omega))).trans (by first | (simp [go_sem]; done) | (simp [go_sem, *]; done))
  have Z2 : w2.frozen? ⟨w.heap.size + 1, 2, none⟩ = false := (hf2 _ _ (by first | (simp; done) | (simp; omega))).trans (by first | (simp [go_sem]; done) | (simp [go_sem, *]; done))
  have R3 : w2.cell? ⟨w.heap.size + 1, 3, none⟩ = some (.int .i64 0) := (hc2 _ _ (by first | (simp; done) | (simp; omega))).trans (by first | (simp [go_sem]; done) | (simp [go_sem, *]; done))
  have Z3 : w2.frozen? ⟨w.heap.size + 1, 3, none⟩ = false := (hf2 _ _ (by first | (simp; done) | (simp; omega))).trans (by first | (simp [go_sem]; done) | (simp [go_sem, *]; done))
  have R4 : w2.cell? ⟨w.heap.size + 2, 0, none⟩ = some (.int .i64 0) := (hc2 _ _ (by first | (simp; done) | (simp; omega))).trans (by first | (simp [go_sem]; done) | (simp [go_sem, *]; done))
  have Z4 : w2.frozen? ⟨w.heap.size + 2, 0, none⟩ = false := (hf2 _ _ (by first | (simp; done) | (simp; omega))).trans (by first | (simp [go_sem]; done) | (simp [go_sem, *]; done))
  have X0 : w2.cell? ⟨w1.heap.size, 0, none⟩ = some (.int .i64 (q : Int)) := (hc2 _ _ (by first | (simp; done) | (simp; omega))).trans (by rw [hq]; simp [go_sem, *])
  clear hq
  have hB2 : Below w.heap.size w w2 := by repeat (first | (with_reducible exact Below.refl _ _) | (with_reducible assumption) | (with_reducible refine bdrew ?_) | (with_reducible refine baa ?_ _) | (with_reducible refine bs ?_ (by first | exact Nat.le_refl _ | omega | (simp; done) | (simp; omega)) _) | (with_reducible refine bt ?_ (by with_reducible assumption)))
  have lw0 : w.heap.size < w2.heap.size := by omega
  have lw1 : w.heap.size + 1 < w2.heap.size := by omega
  have lw2 : w.heap.size + 2 < w2.heap.size := by omega
  have lw3 : w1.heap.size < w2.heap.size := by omega
  have hT2 := Tab.below hT hB2
  have hL2 := Tab.below hL hB2
  clear hc1 hf1 hc2 hf2 hb2 d0 d1 d2 d3 r0 r1 r2 r3 r4 z0 z1 z2 z3 z4 hB1
  gi_wp2
  refine wpIn_range_quiet (gf := 25) rfl (enters_of Tryd.func25 (by kernel_rfl) rfl) (fun k => #[.int .i64 (k : Int), .agg #[.int .i64 (s k).1, .int .i64 (s k).2.1, .bool (s k).2.2.1, .int .i64 (s k).2.2.2]]) N (fun _ => rfl) (fun k => ¬ k = q)
    (fun k c W => c = .ret ∧ k = q ∧ Below w.heap.size w W ∧ (W.cell? ⟨w.heap.size + 1, 0, none⟩ = some (.int .i64 (s q).1) ∧ W.cell? ⟨w.heap.size + 1, 1, none⟩ = some (.int .i64 (s q).2.1) ∧ W.cell? ⟨w.heap.size + 1, 2, none⟩ = some (.bool (s q).2.2.1) ∧ W.cell? ⟨w.heap.size + 1, 3, none⟩ = some (.int .i64 (s q).2.2.2)) ∧ W.cell? ⟨w.heap.size + 2, 0, none⟩ = some (.int .i64 0)) ?hJ ?hit ?round ?done ?stop
  case hJ =>
    rintro k c X Y hA ⟨h1, h2, h3, ⟨c0, c1, c2, c3⟩, c4⟩
    exact ⟨h1, h2, h3.trans (hA.below.mono (by omega)), ⟨(hA.cell _).trans c0, (hA.cell _).trans c1, (hA.cell _).trans c2, (hA.cell _).trans c3⟩, (hA.cell _).trans c4⟩
  case hit =>
    intro l W0 Jx hW hY
    exact count_iter_ahead 2 s 2 N hN l _ _ w2 W0 hT2 hL2 _ Jx HS HE rfl e0 e1 e2 e3 es hW hY
  case round =>
    intro l k W hk hW hlt
    have S0 := (hW.cell (p := ⟨w.heap.size + 1, 0, none⟩) lw1).trans R0
    have S1 := (hW.cell (p := ⟨w.heap.size + 1, 1, none⟩) lw1).trans R1
    have S2 := (hW.cell (p := ⟨w.heap.size + 1, 2, none⟩) lw1).trans R2
    have S3 := (hW.cell (p := ⟨w.heap.size + 1, 3, none⟩) lw1).trans R3
    have S4 := (hW.cell (p := ⟨w.heap.size + 2, 0, none⟩) lw2).trans R4
    have F0 := (hW.frozen (p := ⟨w.heap.size + 1, 0, none⟩) lw1).trans Z0
    have F1 := (hW.frozen (p := ⟨w.heap.size + 1, 1, none⟩) lw1).trans Z1
    have F2 := (hW.frozen (p := ⟨w.heap.size + 1, 2, none⟩) lw1).trans Z2
    have F3 := (hW.frozen (p := ⟨w.heap.size + 1, 3, none⟩) lw1).trans Z3
    have F4 := (hW.frozen (p := ⟨w.heap.size + 2, 0, none⟩) lw2).trans Z4
    have hWs := hW.size
    have q1 : w.heap.size + 1 < W.heap.size := by omega
    have q2 : w.heap.size + 2 < W.heap.size := by omega
    have q3 : w1.heap.size < W.heap.size := by omega
    have hWB : Below w.heap.size w W := hB2.trans (hW.mono hB2.size)
    have X1 := (hW.cell (p := ⟨w1.heap.size, 0, none⟩) lw3).trans X0
    gi_wp2
    refine ⟨by repeat (first | (with_reducible exact Below.refl _ _) | (with_reducible assumption) | (with_reducible refine bdrew ?_) | (with_reducible refine baa ?_ _) | (with_reducible refine bs ?_ (by first | exact Nat.le_refl _ | omega | (simp; done) | (simp; omega)) _) | (with_reducible refine bt ?_ (by with_reducible assumption))), ?_⟩
    intro W2 hA
    have G0 : W2.cell? ⟨w.heap.size + 1, 0, none⟩ = some (.int .i64 0) := (hA.cell _).trans (by simp [go_sem, *])
    have G1 : W2.cell? ⟨w.heap.size + 1, 1, none⟩ = some (.int .i64 0) := (hA.cell _).trans (by simp [go_sem, *])
    have G2 : W2.cell? ⟨w.heap.size + 1, 2, none⟩ = some (.bool false) := (hA.cell _).trans (by simp [go_sem, *])
    have G3 : W2.cell? ⟨w.heap.size + 1, 3, none⟩ = some (.int .i64 0) := (hA.cell _).trans (by simp [go_sem, *])
    have G4 : W2.cell? ⟨w.heap.size + 2, 0, none⟩ = some (.int .i64 0) := (hA.cell _).trans (by simp [go_sem, *])
    have K0 : W2.frozen? ⟨w.heap.size + 1, 0, none⟩ = false := (hA.frozen _).trans (by simp [go_sem, *])
    have K1 : W2.frozen? ⟨w.heap.size + 1, 1, none⟩ = false := (hA.frozen _).trans (by simp [go_sem, *])
    have K2 : W2.frozen? ⟨w.heap.size + 1, 2, none⟩ = false := (hA.frozen _).trans (by simp [go_sem, *])
    have K3 : W2.frozen? ⟨w.heap.size + 1, 3, none⟩ = false := (hA.frozen _).trans (by simp [go_sem, *])
    have K4 : W2.frozen? ⟨w.heap.size + 2, 0, none⟩ = false := (hA.frozen _).trans (by simp [go_sem, *])
    have X2 : W2.cell? ⟨w1.heap.size, 0, none⟩ = some (.int .i64 (q : Int)) := (hA.cell _).trans (by simp [go_sem, *])
    have A0 : W2.cell? ⟨W.heap.size, 0, none⟩ = some (.int .i64 (s k).1) := (hA.cell _).trans (by simp [go_sem, *])
    have A1 : W2.cell? ⟨W.heap.size, 1, none⟩ = some (.int .i64 (s k).2.1) := (hA.cell _).trans (by simp [go_sem, *])
    have A2 : W2.cell? ⟨W.heap.size, 2, none⟩ = some (.bool (s k).2.2.1) := (hA.cell _).trans (by simp [go_sem, *])
    have A3 : W2.cell? ⟨W.heap.size, 3, none⟩ = some (.int .i64 (s k).2.2.2) := (hA.cell _).trans (by simp [go_sem, *])
    have hsA : W2.heap.size = W.heap.size + 1 := hA.size.trans (by simp)
    have hAB : Below w.heap.size w W2 := Below.trans (by repeat (first | (with_reducible exact Below.refl _ _) | (with_reducible assumption) | (with_reducible refine bdrew ?_) | (with_reducible refine baa ?_ _) | (with_reducible refine bs ?_ (by first | exact Nat.le_refl _ | omega | (simp; done) | (simp; omega)) _) | (with_reducible refine bt ?_ (by with_reducible assumption)))) (hA.below.mono hB2.size)
    clear hA S0 S1 S2 S3 S4 F0 F1 F2 F3 F4 X1
    by_cases c : k = q
    · subst c
      gi_wp2
      refine ⟨?_, rfl, by repeat (first | (with_reducible exact Below.refl _ _) | (with_reducible assumption) | (with_reducible refine bdrew ?_) | (with_reducible refine baa ?_ _) | (with_reducible refine bs ?_ (by first | exact Nat.le_refl _ | omega | (simp; done) | (simp; omega)) _) | (with_reducible refine bt ?_ (by with_reducible assumption))), ⟨by simp [go_sem, *], by simp [go_sem, *], by simp [go_sem, *], by simp [go_sem, *]⟩, by simp [go_sem, *]⟩
      repeat (first | exact Upper.refl _ _ | refine Upper.setCell ?_ (by simp; omega) _)
    · have c2 : ((k : Int) == (q : Int)) = false := by simpa using (show ¬ (k : Int) = (q : Int) by omega)
      gi_wp2
      exact ⟨c, Below.refl _ _⟩
  case done =>
    intro W hW hG hD
    have S0 := (hW.cell (p := ⟨w.heap.size + 1, 0, none⟩) lw1).trans R0
    have S1 := (hW.cell (p := ⟨w.heap.size + 1, 1, none⟩) lw1).trans R1
    have S2 := (hW.cell (p := ⟨w.heap.size + 1, 2, none⟩) lw1).trans R2
    have S3 := (hW.cell (p := ⟨w.heap.size + 1, 3, none⟩) lw1).trans R3
    have S4 := (hW.cell (p := ⟨w.heap.size + 2, 0, none⟩) lw2).trans R4
    have F0 := (hW.frozen (p := ⟨w.heap.size + 1, 0, none⟩) lw1).trans Z0
    have F1 := (hW.frozen (p := ⟨w.heap.size + 1, 1, none⟩) lw1).trans Z1
    have F2 := (hW.frozen (p := ⟨w.heap.size + 1, 2, none⟩) lw1).trans Z2
    have F3 := (hW.frozen (p := ⟨w.heap.size + 1, 3, none⟩) lw1).trans Z3
    have F4 := (hW.frozen (p := ⟨w.heap.size + 2, 0, none⟩) lw2).trans Z4
    have hWs := hW.size
    have q1 : w.heap.size + 1 < W.heap.size := by omega
    have q2 : w.heap.size + 2 < W.heap.size := by omega
    have q3 : w1.heap.size < W.heap.size := by omega
    have hWB : Below w.heap.size w W := hB2.trans (hW.mono hB2.size)
    obtain ⟨rfl, rfl⟩ := hR.2 (fun h => hG q h rfl)
    gi_wp2
    refine leaves_cells (by repeat (first | (with_reducible exact hD) | refine (Below.heap_setCell _ _ _ _ (by simp; omega)).trans ?_)) (by repeat (first | (with_reducible exact Below.refl _ _) | (with_reducible assumption) | (with_reducible refine bdrew ?_) | (with_reducible refine baa ?_ _) | (with_reducible refine bs ?_ (by first | exact Nat.le_refl _ | omega | (simp; done) | (simp; omega)) _) | (with_reducible refine bt ?_ (by with_reducible assumption)))) (by omega) (fun Y hY => ?_)
    have T0 : Y.cell? ⟨w.heap.size + 1, 0, none⟩ = some (.int .i64 0) := (hY _).trans (by simp [go_sem, *])
    have T1 : Y.cell? ⟨w.heap.size + 1, 1, none⟩ = some (.int .i64 0) := (hY _).trans (by simp [go_sem, *])
    have T2 : Y.cell? ⟨w.heap.size + 1, 2, none⟩ = some (.bool false) := (hY _).trans (by simp [go_sem, *])
    have T3 : Y.cell? ⟨w.heap.size + 1, 3, none⟩ = some (.int .i64 0) := (hY _).trans (by simp [go_sem, *])
    have T4 : Y.cell? ⟨w.heap.size + 2, 0, none⟩ = some (.int .i64 2) := (hY _).trans (by simp [go_sem, *])
    simp [results, Tryd.results4, go_sem, T0, T1, T2, T3, T4]
  case stop =>
    rintro k c W hk hG ⟨rfl, rfl, hB, ⟨c0, c1, c2, c3⟩, c4⟩ hD
    obtain ⟨rfl, rfl⟩ := hR.1 hk
    gi_wp2
    refine leaves_cells hD hB (by omega) (fun Y hY => ?_)
    have T0 : Y.cell? ⟨w.heap.size + 1, 0, none⟩ = some (.int .i64 (s k).1) := (hY _).trans c0
    have T1 : Y.cell? ⟨w.heap.size + 1, 1, none⟩ = some (.int .i64 (s k).2.1) := (hY _).trans c1
    have T2 : Y.cell? ⟨w.heap.size + 1, 2, none⟩ = some (.bool (s k).2.2.1) := (hY _).trans c2
    have T3 : Y.cell? ⟨w.heap.size + 1, 3, none⟩ = some (.int .i64 (s k).2.2.2) := (hY _).trans c3
    have T4 : Y.cell? ⟨w.heap.size + 2, 0, none⟩ = some (.int .i64 0) := (hY _).trans c4
    simp [results, Tryd.results4, go_sem, T0, T1, T2, T3, T4]
set_option maxHeartbeats 4000000 in
theorem count_Steps_err (dd : Dt) (n la er : Int) (w : World) (hT : Tab w 1 kevCells) (hL : Tab w 0 lenCells) (h : (er != 0) = true)
    (HC : Hid (∀ w : World, Tab w 1 kevCells → Tab w 0 lenCells → Calls Tryd.prog 9 #[.agg #[.int .i64 (dd).1, .int .i64 (dd).2.1, .bool (dd).2.2.1, .int .i64 (dd).2.2.2]] w fun e w' => e = .returned (.tuple #[.int .i64 la, .int .i64 er]) ∧ Below w.heap.size w w')) :
    Calls Tryd.prog 4 #[.agg #[.int .i64 (dd).1, .int .i64 (dd).2.1, .bool (dd).2.2.1, .int .i64 (dd).2.2.2], .int .i64 n] w fun e w' => e = .returned (.tuple #[.agg #[.int .i64 0, .int .i64 0, .bool false, .int .i64 0], .int .i64 er]) ∧ Below w.heap.size w w' := by
  go_enter Tryd.func4, Tryd.ntmps4
  go_wp2_with fail
  refine (HC.out _ (Tab.below hT (by repeat (first | (with_reducible exact Below.refl _ _) | (with_reducible assumption) | (with_reducible refine bdrew ?_) | (with_reducible refine baa ?_ _) | (with_reducible refine bs ?_ (by first | exact Nat.le_refl _ | omega | (simp; done) | (simp; omega)) _) | (with_reducible refine bt ?_ (by with_reducible assumption))))) (Tab.below hL (by repeat (first | (with_reducible exact Below.refl _ _) | (with_reducible assumption) | (with_reducible refine bdrew ?_) | (with_reducible refine baa ?_ _) | (with_reducible refine bs ?_ (by first | exact Nat.le_refl _ | omega | (simp; done) | (simp; omega)) _) | (with_reducible refine bt ?_ (by with_reducible assumption)))))).mono ?_
  rintro e w1 ⟨rfl, hb1⟩
  obtain ⟨hc1, hf1⟩ := bcell hb1
  have r0 : w1.cell? ⟨w.heap.size + 1, 0, none⟩ = some (.int .i64 0) := (hc1 _ _ (by first | (simp; done) | (simp; omega))).trans (by simp [go_sem])
  have z0 : w1.frozen? ⟨w.heap.size + 1, 0, none⟩ = false := (hf1 _ _ (by first | (simp; done) | (simp; omega))).trans (by simp [go_sem])
  have r1 : w1.cell? ⟨w.heap.size + 1, 1, none⟩ = some (.int .i64 0) := (hc1 _ _ (by first | (simp; done) | (simp; omega))).trans (by simp [go_sem])
  have z1 : w1.frozen? ⟨w.heap.size + 1, 1, none⟩ = false := (hf1 _ _ (by first | (simp; done) | (simp; omega))).trans (by simp [go_sem])
  have r2 : w1.cell? ⟨w.heap.size + 1, 2, none⟩ = some (.bool false) := (hc1 _ _ (by first | (simp; done) | (simp; omega))).trans (by simp [go_sem])
  have z2 : w1.frozen? ⟨w.heap.size + 1, 2, none⟩ = false := (hf1 _ _ (by first | (simp; done) | (simp; omega))).trans (by simp [go_sem])
  have r3 : w1.cell? ⟨w.heap.size + 1, 3, none⟩ = some (.int .i64 0) := (hc1 _ _ (by first | (simp; done) | (simp; omega))).trans (by simp [go_sem])
  have z3 : w1.frozen? ⟨w.heap.size + 1, 3, none⟩ = false := (hf1 _ _ (by first | (simp; done) | (simp; omega))).trans (by simp [go_sem])
  have r4 : w1.cell? ⟨w.heap.size + 2, 0, none⟩ = some (.int .i64 0) := (hc1 _ _ (by first | (simp; done) | (simp; omega))).trans (by simp [go_sem])
  have z4 : w1.frozen? ⟨w.heap.size + 2, 0, none⟩ = false := (hf1 _ _ (by first | (simp; done) | (simp; omega))).trans (by simp [go_sem])
  have hB1 : Below w.heap.size w w1 := by repeat (first | (with_reducible exact Below.refl _ _) | (with_reducible assumption) | (with_reducible refine bdrew ?_) | (with_reducible refine baa ?_ _) | (with_reducible refine bs ?_ (by first | exact Nat.le_refl _ | omega | (simp; done) | (simp; omega)) _) | (with_reducible refine bt ?_ (by with_reducible assumption)))
  clear hb1 hc1 hf1
  go_wp2_with fail
  refine bodyPost_ret (v := .tuple #[.agg #[.int .i64 0, .int .i64 0, .bool false, .int .i64 0], .int .i64 er]) (by simp [results, Tryd.results4, go_sem, *]) rfl ⟨rfl, ?_⟩
  repeat (first | (with_reducible exact Below.refl _ _) | (with_reducible assumption) | (with_reducible refine bdrew ?_) | (with_reducible refine baa ?_ _) | (with_reducible refine bs ?_ (by first | exact Nat.le_refl _ | omega | (simp; done) | (simp; omega)) _) | (with_reducible refine bt ?_ (by with_reducible assumption)))
set_option maxHeartbeats 4000000 in
theorem count_Steps_low (dd : Dt) (n la er : Int) (w : World) (hT : Tab w 1 kevCells) (hL : Tab w 0 lenCells) (h : n < -3000)
    (HC : Hid (∀ w : World, Tab w 1 kevCells → Tab w 0 lenCells → Calls Tryd.prog 9 #[.agg #[.int .i64 (dd).1, .int .i64 (dd).2.1, .bool (dd).2.2.1, .int .i64 (dd).2.2.2]] w fun e w' => e = .returned (.tuple #[.int .i64 la, .int .i64 0]) ∧ Below w.heap.size w w')) :
    Calls Tryd.prog 4 #[.agg #[.int .i64 (dd).1, .int .i64 (dd).2.1, .bool (dd).2.2.1, .int .i64 (dd).2.2.2], .int .i64 n] w fun e w' => e = .returned (.tuple #[.agg #[.int .i64 0, .int .i64 0, .bool false, .int .i64 0], .int .i64 1]) ∧ Below w.heap.size w w' := by
  have h1 : decide (n < -3000) = true := by simpa using h
  go_enter Tryd.func4, Tryd.ntmps4
  go_wp2_with fail
  refine (HC.out _ (Tab.below hT (by repeat (first | (with_reducible exact Below.refl _ _) | (with_reducible assumption) | (with_reducible refine bdrew ?_) | (with_reducible refine baa ?_ _) | (with_reducible refine bs ?_ (by first | exact Nat.le_refl _ | omega | (simp; done) | (simp; omega)) _) | (with_reducible refine bt ?_ (by with_reducible assumption))))) (Tab.below hL (by repeat (first | (with_reducible exact Below.refl _ _) | (with_reducible assumption) | (with_reducible refine bdrew ?_) | (with_reducible refine baa ?_ _) | (with_reducible refine bs ?_ (by first | exact Nat.le_refl _ | omega | (simp; done) | (simp; omega)) _) | (with_reducible refine bt ?_ (by with_reducible assumption)))))).mono ?_
  rintro e w1 ⟨rfl, hb1⟩
  obtain ⟨hc1, hf1⟩ := bcell hb1
  have r0 : w1.cell? ⟨w.heap.size + 1, 0, none⟩ = some (.int .i64 0) := (hc1 _ _ (by first | (simp; done) | (simp; omega))).trans (by simp [go_sem])
  have z0 : w1.frozen? ⟨w.heap.size + 1, 0, none⟩ = false := (hf1 _ _ (by first | (simp; done) | (simp; omega))).trans (by simp [go_sem])
  have r1 : w1.cell? ⟨w.heap.size + 1, 1, none⟩ = some (.int .i64 0) := (hc1 _ _ (by first | (simp; done) | (simp; omega))).trans (by simp [go_sem])
  have z1 : w1.frozen? ⟨w.heap.size + 1, 1, none⟩ = false := (hf1 _ _ (by first | (simp; done) | (simp; omega))).trans (by simp [go_sem])
  have r2 : w1.cell? ⟨w.heap.size + 1, 2, none⟩ = some (.bool false) := (hc1 _ _ (by first | (simp; done) | (simp; omega))).trans (by simp [go_sem])
  have z2 : w1.frozen? ⟨w.heap.size + 1, 2, none⟩ = false := (hf1 _ _ (by first | (simp; done) | (simp; omega))).trans (by simp [go_sem])
  have r3 : w1.cell? ⟨w.heap.size + 1, 3, none⟩ = some (.int .i64 0) := (hc1 _ _ (by first | (simp; done) | (simp; omega))).trans (by simp [go_sem])
  have z3 : w1.frozen? ⟨w.heap.size + 1, 3, none⟩ = false := (hf1 _ _ (by first | (simp; done) | (simp; omega))).trans (by simp [go_sem])
  have r4 : w1.cell? ⟨w.heap.size + 2, 0, none⟩ = some (.int .i64 0) := (hc1 _ _ (by first | (simp; done) | (simp; omega))).trans (by simp [go_sem])
  have z4 : w1.frozen? ⟨w.heap.size + 2, 0, none⟩ = false := (hf1 _ _ (by first | (simp; done) | (simp; omega))).trans (by simp [go_sem])
  have hB1 : Below w.heap.size w w1 := by repeat (first | (with_reducible exact Below.refl _ _) | (with_reducible assumption) | (with_reducible refine bdrew ?_) | (with_reducible refine baa ?_ _) | (with_reducible refine bs ?_ (by first | exact Nat.le_refl _ | omega | (simp; done) | (simp; omega)) _) | (with_reducible refine bt ?_ (by with_reducible assumption)))
  clear hb1 hc1 hf1
  go_wp2_with fail
  refine bodyPost_ret (v := .tuple #[.agg #[.int .i64 0, .int .i64 0, .bool false, .int .i64 0], .int .i64 1]) (by simp [results, Tryd.results4, go_sem, *]) rfl ⟨rfl, ?_⟩
  repeat (first | (with_reducible exact Below.refl _ _) | (with_reducible assumption) | (with_reducible refine bdrew ?_) | (with_reducible refine baa ?_ _) | (with_reducible refine bs ?_ (by first | exact Nat.le_refl _ | omega | (simp; done) | (simp; omega)) _) | (with_reducible refine bt ?_ (by with_reducible assumption)))
set_option maxHeartbeats 4000000 in
theorem count_Steps_high (dd : Dt) (n la er : Int) (w : World) (hT : Tab w 1 kevCells) (hL : Tab w 0 lenCells) (h : 3000 < n)
    (HC : Hid (∀ w : World, Tab w 1 kevCells → Tab w 0 lenCells → Calls Tryd.prog 9 #[.agg #[.int .i64 (dd).1, .int .i64 (dd).2.1, .bool (dd).2.2.1, .int .i64 (dd).2.2.2]] w fun e w' => e = .returned (.tuple #[.int .i64 la, .int .i64 0]) ∧ Below w.heap.size w w')) :
    Calls Tryd.prog 4 #[.agg #[.int .i64 (dd).1, .int .i64 (dd).2.1, .bool (dd).2.2.1, .int .i64 (dd).2.2.2], .int .i64 n] w fun e w' => e = .returned (.tuple #[.agg #[.int .i64 0, .int .i64 0, .bool false, .int .i64 0], .int .i64 1]) ∧ Below w.heap.size w w' := by
  have h0 : ¬ n < -3000 := by omega
  have h1 : decide (n < -3000) = false := by simpa using h0
  have h2 : decide (3000 < n) = true := by simpa using h
  go_enter Tryd.func4, Tryd.ntmps4
  go_wp2_with fail
  refine (HC.out _ (Tab.below hT (by repeat (first | (with_reducible exact Below.refl _ _) | (with_reducible assumption) | (with_reducible refine bdrew ?_) | (with_reducible refine baa ?_ _) | (with_reducible refine bs ?_ (by first | exact Nat.le_refl _ | omega | (simp; done) | (simp; omega)) _) | (with_reducible refine bt ?_ (by with_reducible assumption))))) (Tab.below hL (by repeat (first | (with_reducible exact Below.refl _ _) | (with_reducible assumption) | (with_reducible refine bdrew ?_) | (with_reducible refine baa ?_ _) | (with_reducible refine bs ?_ (by first | exact Nat.le_refl _ | omega | (simp; done) | (simp; omega)) _) | (with_reducible refine bt ?_ (by with_reducible assumption)))))).mono ?_
  rintro e w1 ⟨rfl, hb1⟩
  obtain ⟨hc1, hf1⟩ := bcell hb1
  have r0 : w1.cell? ⟨w.heap.size + 1, 0, none⟩ = some (.int .i64 0) := (hc1 _ _ (by first | (simp; done) | (simp; omega))).trans (by simp [go_sem])
  have z0 : w1.frozen? ⟨w.heap.size + 1, 0, none⟩ = false := (hf1 _ _ (by first | (simp; done) | (simp; omega))).trans (by simp [go_sem])
  have r1 : w1.cell? ⟨w.heap.size + 1, 1, none⟩ = some (.int .i64 0) := (hc1 _ _ (by first | (simp; done) | (simp; omega))).trans (by simp [go_sem])
  have z1 : w1.frozen? ⟨w.heap.size + 1, 1, none⟩ = false := (hf1 _ _ (by first | (simp; done) | (simp; omega))).trans (by simp [go_sem])
  have r2 : w1.cell? ⟨w.heap.size + 1, 2, none⟩ = some (.bool false) := (hc1 _ _ (by first | (simp; done) | (simp; omega))).trans (by simp [go_sem])
  have z2 : w1.frozen? ⟨w.heap.size + 1, 2, none⟩ = false := (hf1 _ _ (by first | (simp; done) | (simp; omega))).trans (by simp [go_sem])
  have r3 : w1.cell? ⟨w.heap.size + 1, 3, none⟩ = some (.int .i64 0) := (hc1 _ _ (by first | (simp; done) | (simp; omega))).trans (by simp [go_sem])
  have z3 : w1.frozen? ⟨w.heap.size + 1, 3, none⟩ = false := (hf1 _ _ (by first | (simp; done) | (simp; omega))).trans (by simp [go_sem])
  have r4 : w1.cell? ⟨w.heap.size + 2, 0, none⟩ = some (.int .i64 0) := (hc1 _ _ (by first | (simp; done) | (simp; omega))).trans (by simp [go_sem])
  have z4 : w1.frozen? ⟨w.heap.size + 2, 0, none⟩ = false := (hf1 _ _ (by first | (simp; done) | (simp; omega))).trans (by simp [go_sem])
  have hB1 : Below w.heap.size w w1 := by repeat (first | (with_reducible exact Below.refl _ _) | (with_reducible assumption) | (with_reducible refine bdrew ?_) | (with_reducible refine baa ?_ _) | (with_reducible refine bs ?_ (by first | exact Nat.le_refl _ | omega | (simp; done) | (simp; omega)) _) | (with_reducible refine bt ?_ (by with_reducible assumption)))
  clear hb1 hc1 hf1
  go_wp2_with fail
  refine bodyPost_ret (v := .tuple #[.agg #[.int .i64 0, .int .i64 0, .bool false, .int .i64 0], .int .i64 1]) (by simp [results, Tryd.results4, go_sem, *]) rfl ⟨rfl, ?_⟩
  repeat (first | (with_reducible exact Below.refl _ _) | (with_reducible assumption) | (with_reducible refine bdrew ?_) | (with_reducible refine baa ?_ _) | (with_reducible refine bs ?_ (by first | exact Nat.le_refl _ | omega | (simp; done) | (simp; omega)) _) | (with_reducible refine bt ?_ (by with_reducible assumption)))
end Go.Proofs.YtgcpflbpiifdbaaDoor
