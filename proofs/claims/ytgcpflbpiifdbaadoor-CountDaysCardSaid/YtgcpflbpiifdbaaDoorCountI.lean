/- Layer 27: the iterator of dates: it gives them one by one. -/
import Derived.Test.YtgcpflbpiifdbaaDoorCount2
import Derived.Test.YtgcpflbpiifdbaaDoorIter
import Derived.RangeFuncNested
import Derived.RangeFuncBound
import Derived.Shelf.Abstract
import Derived.Shelf.RegionOpen
import Derived.WalkKit
import Derived.OwnWalkIn
import Derived.TacticsInMore
import Derived.LoopNIn
import Derived.LoopIn
namespace Go.Proofs.YtgcpflbpiifdbaaDoor
open Go.ChangeShapes Go.WideShapes Go.ChangeAt Go.RowKit
set_option linter.unusedVariables false
set_option maxRecDepth 100000
attribute [local go_sem] Oper.semAt_some
abbrev Dt := Int × Int × Bool × Int
set_option maxHeartbeats 4000000 in
theorem count_iter_next (n : Nat) (s : Nat → Dt) (er : Int) (N : Nat) (hN : N ≤ 4000000) (l Bd Bs : Nat) (w W0 : World) (hT : Tab w 1 kevCells) (hL : Tab w 0 lenCells) (G : Nat → Prop) (Jx : Nat → World → Prop)
    (HS : Hid (∀ k, k < N → ∀ W : World, Tab W 1 kevCells → Tab W 0 lenCells → Calls Tryd.prog 10 #[.agg #[.int .i64 (s k).1, .int .i64 (s k).2.1, .bool (s k).2.2.1, .int .i64 (s k).2.2.2]] W fun e w' => e = .returned (.tuple #[.agg #[.int .i64 (s (k + 1)).1, .int .i64 (s (k + 1)).2.1, .bool (s (k + 1)).2.2.1, .int .i64 (s (k + 1)).2.2.2], .int .i64 0]) ∧ Below W.heap.size W w'))
    (HE : Hid (∀ W : World, Tab W 1 kevCells → Tab W 0 lenCells → Calls Tryd.prog 10 #[.agg #[.int .i64 (s N).1, .int .i64 (s N).2.1, .bool (s N).2.2.1, .int .i64 (s N).2.2.2]] W fun e w' => e = .returned (.tuple #[.agg #[.int .i64 0, .int .i64 0, .bool false, .int .i64 0], .int .i64 er]) ∧ Below W.heap.size W w')) (her : (er != 0) = true)
    (d0 : w.cell? ⟨Bd, 0, none⟩ = some (.int .i64 (s 0).1)) (d1 : w.cell? ⟨Bd, 1, none⟩ = some (.int .i64 (s 0).2.1)) (d2 : w.cell? ⟨Bd, 2, none⟩ = some (.bool (s 0).2.2.1)) (d3 : w.cell? ⟨Bd, 3, none⟩ = some (.int .i64 (s 0).2.2.2))
    (hs : w.cell? ⟨Bs, 0, none⟩ = some (.func (.func 10) #[] #[])) (hW : Below w.heap.size w W0)
    (hY : ∀ k W1, k ≤ N → Below W0.heap.size W0 W1 → YieldAt Fence.wide (n - 1) Tryd.prog l #[.int .i64 (k : Int), .agg #[.int .i64 (s k).1, .int .i64 (s k).2.1, .bool (s k).2.2.1, .int .i64 (s k).2.2.2]] W1 fun e W' => (e = .returned (.bool true) ∧ G k ∧ Below W1.heap.size W1 W') ∨ (e = .returned (.bool false) ∧ Jx k W')) :
    CallsIn Fence.wide n Tryd.prog 25 #[.func (.yield l) #[] #[], .pointer (some ⟨Bd, 0, none⟩), .pointer (some ⟨Bs, 0, none⟩)] W0 fun e W' => (∃ v, e = .returned v) ∧ (((∀ k, k ≤ N → G k) ∧ Below W0.heap.size W0 W') ∨ ∃ k, k ≤ N ∧ (∀ j, j < k → G j) ∧ Jx k W') := by
  have lD : Bd < w.heap.size := World.block_lt_of_cell? _ _ d0
  have lS : Bs < w.heap.size := World.block_lt_of_cell? _ _ hs
  have hsz := hW.size
  have D0 := (hW.cell (p := ⟨Bd, 0, none⟩) lD).trans d0
  have D1 := (hW.cell (p := ⟨Bd, 1, none⟩) lD).trans d1
  have D2 := (hW.cell (p := ⟨Bd, 2, none⟩) lD).trans d2
  have D3 := (hW.cell (p := ⟨Bd, 3, none⟩) lD).trans d3
  have SF0 := (hW.cell (p := ⟨Bs, 0, none⟩) lS).trans hs
  have HT0 := Tab.below hT hW
  have HL0 := Tab.below hL hW
  clear d0 d1 d2 d3 hs hT hL
  refine callsIn_of_wp Tryd.func25 rfl trivial ?_ rfl
  simp only [Tryd.ntmps25, List.size_toArray, List.length_cons, List.length_nil, Nat.reduceAdd, Nat.reduceSub, Array.replicate_succ, Array.replicate_zero, List.push_toArray, List.append_toArray, List.nil_append, List.cons_append]
  gi_wp2
  gi_loopw [5] (fun i wr => ∃ k : Nat, k ≤ N ∧ i = .int .i64 (k : Int) ∧ (∀ j, j < k → G j) ∧ wr.cell? ⟨W0.heap.size, 0, none⟩ = some (.int .i64 (s k).1) ∧ wr.cell? ⟨W0.heap.size, 1, none⟩ = some (.int .i64 (s k).2.1) ∧ wr.cell? ⟨W0.heap.size, 2, none⟩ = some (.bool (s k).2.2.1) ∧ wr.cell? ⟨W0.heap.size, 3, none⟩ = some (.int .i64 (s k).2.2.2) ∧ wr.frozen? ⟨W0.heap.size, 0, none⟩ = false ∧ wr.frozen? ⟨W0.heap.size, 1, none⟩ = false ∧ wr.frozen? ⟨W0.heap.size, 2, none⟩ = false ∧ wr.frozen? ⟨W0.heap.size, 3, none⟩ = false ∧ Below W0.heap.size W0 wr) (fun i _ => N - (intOf i).toNat)
  case atStart =>
    exact ⟨0, Nat.zero_le _, rfl, fun j hj => absurd hj (Nat.not_lt_zero _), by simp [go_sem], by simp [go_sem], by simp [go_sem], by simp [go_sem], by simp [go_sem], by simp [go_sem], by simp [go_sem], by simp [go_sem], by repeat (first | (with_reducible exact Below.refl _ _) | (with_reducible assumption) | (with_reducible refine bdrew ?_) | (with_reducible refine baa ?_ _) | (with_reducible refine bs ?_ (by first | exact Nat.le_refl _ | omega | (simp; done) | (simp; omega)) _) | (with_reducible refine bt ?_ (by with_reducible assumption)))⟩
  case round =>
    obtain ⟨k, hk, rfl, hG, a0, a1, a2, a3, z0, z1, z2, z3, hB⟩ := hrel
    obtain ⟨fn, tmps, assign, body, hy, hR⟩ := hY k wr hk hB
    have lA : W0.heap.size < wr.heap.size := World.block_lt_of_cell? _ _ a0
    gi_wp2
    refine ⟨fun h => (by cases h), hR.mono ?_⟩
    rintro e W1 (⟨rfl, hGk, hb⟩ | ⟨rfl, hJ⟩)
    · have l1 := hb.size
      have A0 := (hb.cell (p := ⟨W0.heap.size, 0, none⟩) lA).trans a0
      have A1 := (hb.cell (p := ⟨W0.heap.size, 1, none⟩) lA).trans a1
      have A2 := (hb.cell (p := ⟨W0.heap.size, 2, none⟩) lA).trans a2
      have A3 := (hb.cell (p := ⟨W0.heap.size, 3, none⟩) lA).trans a3
      have Z0 := (hb.frozen (p := ⟨W0.heap.size, 0, none⟩) lA).trans z0
      have Z1 := (hb.frozen (p := ⟨W0.heap.size, 1, none⟩) lA).trans z1
      have Z2 := (hb.frozen (p := ⟨W0.heap.size, 2, none⟩) lA).trans z2
      have Z3 := (hb.frozen (p := ⟨W0.heap.size, 3, none⟩) lA).trans z3
      have hBB : Below W0.heap.size W0 W1 := bt hB hb
      have SF := (hBB.cell (p := ⟨Bs, 0, none⟩) (by simp; omega)).trans SF0
      have HT1 := Tab.below HT0 hBB
      have HL1 := Tab.below HL0 hBB
      have lW : W0.heap.size < W1.heap.size := by omega
      clear a0 a1 a2 a3 z0 z1 z2 z3 hy hR SF0 D0 D1 D2 D3
      by_cases hlt : k < N
      · have HC := Lib.hid (HS.out k hlt)
        gi_wp2
        refine ⟨trivial, fun h => (by cases h), (callsIn_wide.2 (HC.out _ HT1 HL1)).mono ?_⟩
        rintro e w3 ⟨rfl, hb3⟩
        have l3 := hb3.size
        have B0 := (hb3.cell (p := ⟨W0.heap.size, 0, none⟩) lW).trans A0
        have B1 := (hb3.cell (p := ⟨W0.heap.size, 1, none⟩) lW).trans A1
        have B2 := (hb3.cell (p := ⟨W0.heap.size, 2, none⟩) lW).trans A2
        have B3 := (hb3.cell (p := ⟨W0.heap.size, 3, none⟩) lW).trans A3
        have Y0 := (hb3.frozen (p := ⟨W0.heap.size, 0, none⟩) lW).trans Z0
        have Y1 := (hb3.frozen (p := ⟨W0.heap.size, 1, none⟩) lW).trans Z1
        have Y2 := (hb3.frozen (p := ⟨W0.heap.size, 2, none⟩) lW).trans Z2
        have Y3 := (hb3.frozen (p := ⟨W0.heap.size, 3, none⟩) lW).trans Z3
        have hB3 : Below W0.heap.size W0 w3 := bt hBB hb3
        have lX : W0.heap.size < w3.heap.size := by omega
        clear A0 A1 A2 A3 Z0 Z1 Z2 Z3 SF
        have k1 : (k : Int) ≤ 4000000 := by omega
        have k0 : (0 : Int) ≤ (k : Int) := by omega
        gi_wp2
        go_roundw
        case rel =>
          refine ⟨k + 1, by omega, by go_num, fun j hj => ?_, by simp [go_sem, *], by simp [go_sem, *], by simp [go_sem, *], by simp [go_sem, *], by simp [go_sem, *], by simp [go_sem, *], by simp [go_sem, *], by simp [go_sem, *], ?_⟩
          · by_cases e : j = k
            · subst e; exact hGk
            · exact hG j (by omega)
          · repeat (first | (with_reducible exact Below.refl _ _) | (with_reducible assumption) | (with_reducible refine bdrew ?_) | (with_reducible refine baa ?_ _) | (with_reducible refine bs ?_ (by first | exact Nat.le_refl _ | omega | (simp; done) | (simp; omega)) _) | (with_reducible refine bt ?_ (by with_reducible assumption)))
        case measure => simp [intOf]; omega
      · obtain rfl : k = N := by omega
        clear hlt HS
        gi_wp2
        refine ⟨trivial, fun h => (by cases h), (callsIn_wide.2 (HE.out _ HT1 HL1)).mono ?_⟩
        rintro e w3 ⟨rfl, hb3⟩
        have l3 := hb3.size
        have hB3 : Below W0.heap.size W0 w3 := bt hBB hb3
        gi_wp2
        refine bodyPost_ret (results_none rfl _ _ _) rfl ?_
        refine ⟨⟨_, rfl⟩, .inl ⟨fun j hj => ?_, ?_⟩⟩
        · by_cases e : j = k
          · subst e; exact hGk
          · exact hG j (by omega)
        · repeat (first | (with_reducible exact Below.refl _ _) | (with_reducible assumption) | (with_reducible refine bdrew ?_) | (with_reducible refine baa ?_ _) | (with_reducible refine bs ?_ (by first | exact Nat.le_refl _ | omega | (simp; done) | (simp; omega)) _) | (with_reducible refine bt ?_ (by with_reducible assumption)))
    · gi_wp2
      go_end0
      exact ⟨⟨_, rfl⟩, .inr ⟨k, hk, hG, hJ⟩⟩
set_option maxHeartbeats 4000000 in
theorem count_iter_ahead (n : Nat) (s : Nat → Dt) (er : Int) (N : Nat) (hN : N ≤ 4000000) (l Bd Bs : Nat) (w W0 : World) (hT : Tab w 1 kevCells) (hL : Tab w 0 lenCells) (G : Nat → Prop) (Jx : Nat → World → Prop)
    (HS : Hid (∀ k, k < N → ∀ W : World, Tab W 1 kevCells → Tab W 0 lenCells → Calls Tryd.prog 11 #[.agg #[.int .i64 (s k).1, .int .i64 (s k).2.1, .bool (s k).2.2.1, .int .i64 (s k).2.2.2]] W fun e w' => e = .returned (.tuple #[.agg #[.int .i64 (s (k + 1)).1, .int .i64 (s (k + 1)).2.1, .bool (s (k + 1)).2.2.1, .int .i64 (s (k + 1)).2.2.2], .int .i64 0]) ∧ Below W.heap.size W w'))
    (HE : Hid (∀ W : World, Tab W 1 kevCells → Tab W 0 lenCells → Calls Tryd.prog 11 #[.agg #[.int .i64 (s N).1, .int .i64 (s N).2.1, .bool (s N).2.2.1, .int .i64 (s N).2.2.2]] W fun e w' => e = .returned (.tuple #[.agg #[.int .i64 0, .int .i64 0, .bool false, .int .i64 0], .int .i64 er]) ∧ Below W.heap.size W w')) (her : (er != 0) = true)
    (d0 : w.cell? ⟨Bd, 0, none⟩ = some (.int .i64 (s 0).1)) (d1 : w.cell? ⟨Bd, 1, none⟩ = some (.int .i64 (s 0).2.1)) (d2 : w.cell? ⟨Bd, 2, none⟩ = some (.bool (s 0).2.2.1)) (d3 : w.cell? ⟨Bd, 3, none⟩ = some (.int .i64 (s 0).2.2.2))
    (hs : w.cell? ⟨Bs, 0, none⟩ = some (.func (.func 11) #[] #[])) (hW : Below w.heap.size w W0)
    (hY : ∀ k W1, k ≤ N → Below W0.heap.size W0 W1 → YieldAt Fence.wide (n - 1) Tryd.prog l #[.int .i64 (k : Int), .agg #[.int .i64 (s k).1, .int .i64 (s k).2.1, .bool (s k).2.2.1, .int .i64 (s k).2.2.2]] W1 fun e W' => (e = .returned (.bool true) ∧ G k ∧ Below W1.heap.size W1 W') ∨ (e = .returned (.bool false) ∧ Jx k W')) :
    CallsIn Fence.wide n Tryd.prog 25 #[.func (.yield l) #[] #[], .pointer (some ⟨Bd, 0, none⟩), .pointer (some ⟨Bs, 0, none⟩)] W0 fun e W' => (∃ v, e = .returned v) ∧ (((∀ k, k ≤ N → G k) ∧ Below W0.heap.size W0 W') ∨ ∃ k, k ≤ N ∧ (∀ j, j < k → G j) ∧ Jx k W') := by
  have lD : Bd < w.heap.size := World.block_lt_of_cell? _ _ d0
  have lS : Bs < w.heap.size := World.block_lt_of_cell? _ _ hs
  have hsz := hW.size
  have D0 := (hW.cell (p := ⟨Bd, 0, none⟩) lD).trans d0
  have D1 := (hW.cell (p := ⟨Bd, 1, none⟩) lD).trans d1
  have D2 := (hW.cell (p := ⟨Bd, 2, none⟩) lD).trans d2
  have D3 := (hW.cell (p := ⟨Bd, 3, none⟩) lD).trans d3
  have SF0 := (hW.cell (p := ⟨Bs, 0, none⟩) lS).trans hs
  have HT0 := Tab.below hT hW
  have HL0 := Tab.below hL hW
  clear d0 d1 d2 d3 hs hT hL
  refine callsIn_of_wp Tryd.func25 rfl trivial ?_ rfl
  simp only [Tryd.ntmps25, List.size_toArray, List.length_cons, List.length_nil, Nat.reduceAdd, Nat.reduceSub, Array.replicate_succ, Array.replicate_zero, List.push_toArray, List.append_toArray, List.nil_append, List.cons_append]
  gi_wp2
  gi_loopw [5] (fun i wr => ∃ k : Nat, k ≤ N ∧ i = .int .i64 (k : Int) ∧ (∀ j, j < k → G j) ∧ wr.cell? ⟨W0.heap.size, 0, none⟩ = some (.int .i64 (s k).1) ∧ wr.cell? ⟨W0.heap.size, 1, none⟩ = some (.int .i64 (s k).2.1) ∧ wr.cell? ⟨W0.heap.size, 2, none⟩ = some (.bool (s k).2.2.1) ∧ wr.cell? ⟨W0.heap.size, 3, none⟩ = some (.int .i64 (s k).2.2.2) ∧ wr.frozen? ⟨W0.heap.size, 0, none⟩ = false ∧ wr.frozen? ⟨W0.heap.size, 1, none⟩ = false ∧ wr.frozen? ⟨W0.heap.size, 2, none⟩ = false ∧ wr.frozen? ⟨W0.heap.size, 3, none⟩ = false ∧ Below W0.heap.size W0 wr) (fun i _ => N - (intOf i).toNat)
  case atStart =>
    exact ⟨0, Nat.zero_le _, rfl, fun j hj => absurd hj (Nat.not_lt_zero _), by simp [go_sem], by simp [go_sem], by simp [go_sem], by simp [go_sem], by simp [go_sem], by simp [go_sem], by simp [go_sem], by simp [go_sem], by repeat (first | (with_reducible exact Below.refl _ _) | (with_reducible assumption) | (with_reducible refine bdrew ?_) | (with_reducible refine baa ?_ _) | (with_reducible refine bs ?_ (by first | exact Nat.le_refl _ | omega | (simp; done) | (simp; omega)) _) | (with_reducible refine bt ?_ (by with_reducible assumption)))⟩
  case round =>
    obtain ⟨k, hk, rfl, hG, a0, a1, a2, a3, z0, z1, z2, z3, hB⟩ := hrel
    obtain ⟨fn, tmps, assign, body, hy, hR⟩ := hY k wr hk hB
    have lA : W0.heap.size < wr.heap.size := World.block_lt_of_cell? _ _ a0
    gi_wp2
    refine ⟨fun h => (by cases h), hR.mono ?_⟩
    rintro e W1 (⟨rfl, hGk, hb⟩ | ⟨rfl, hJ⟩)
    · have l1 := hb.size
      have A0 := (hb.cell (p := ⟨W0.heap.size, 0, none⟩) lA).trans a0
      have A1 := (hb.cell (p := ⟨W0.heap.size, 1, none⟩) lA).trans a1
      have A2 := (hb.cell (p := ⟨W0.heap.size, 2, none⟩) lA).trans a2
      have A3 := (hb.cell (p := ⟨W0.heap.size, 3, none⟩) lA).trans a3
      have Z0 := (hb.frozen (p := ⟨W0.heap.size, 0, none⟩) lA).trans z0
      have Z1 := (hb.frozen (p := ⟨W0.heap.size, 1, none⟩) lA).trans z1
      have Z2 := (hb.frozen (p := ⟨W0.heap.size, 2, none⟩) lA).trans z2
      have Z3 := (hb.frozen (p := ⟨W0.heap.size, 3, none⟩) lA).trans z3
      have hBB : Below W0.heap.size W0 W1 := bt hB hb
      have SF := (hBB.cell (p := ⟨Bs, 0, none⟩) (by simp; omega)).trans SF0
      have HT1 := Tab.below HT0 hBB
      have HL1 := Tab.below HL0 hBB
      have lW : W0.heap.size < W1.heap.size := by omega
      clear a0 a1 a2 a3 z0 z1 z2 z3 hy hR SF0 D0 D1 D2 D3
      by_cases hlt : k < N
      · have HC := Lib.hid (HS.out k hlt)
        gi_wp2
        refine ⟨trivial, fun h => (by cases h), (callsIn_wide.2 (HC.out _ HT1 HL1)).mono ?_⟩
        rintro e w3 ⟨rfl, hb3⟩
        have l3 := hb3.size
        have B0 := (hb3.cell (p := ⟨W0.heap.size, 0, none⟩) lW).trans A0
        have B1 := (hb3.cell (p := ⟨W0.heap.size, 1, none⟩) lW).trans A1
        have B2 := (hb3.cell (p := ⟨W0.heap.size, 2, none⟩) lW).trans A2
        have B3 := (hb3.cell (p := ⟨W0.heap.size, 3, none⟩) lW).trans A3
        have Y0 := (hb3.frozen (p := ⟨W0.heap.size, 0, none⟩) lW).trans Z0
        have Y1 := (hb3.frozen (p := ⟨W0.heap.size, 1, none⟩) lW).trans Z1
        have Y2 := (hb3.frozen (p := ⟨W0.heap.size, 2, none⟩) lW).trans Z2
        have Y3 := (hb3.frozen (p := ⟨W0.heap.size, 3, none⟩) lW).trans Z3
        have hB3 : Below W0.heap.size W0 w3 := bt hBB hb3
        have lX : W0.heap.size < w3.heap.size := by omega
        clear A0 A1 A2 A3 Z0 Z1 Z2 Z3 SF
        have k1 : (k : Int) ≤ 4000000 := by omega
        have k0 : (0 : Int) ≤ (k : Int) := by omega
        gi_wp2
        go_roundw
        case rel =>
          refine ⟨k + 1, by omega, by go_num, fun j hj => ?_, by simp [go_sem, *], by simp [go_sem, *], by simp [go_sem, *], by simp [go_sem, *], by simp [go_sem, *], by simp [go_sem, *], by simp [go_sem, *], by simp [go_sem, *], ?_⟩
          · by_cases e : j = k
            · subst e; exact hGk
            · exact hG j (by omega)
          · repeat (first | (with_reducible exact Below.refl _ _) | (with_reducible assumption) | (with_reducible refine bdrew ?_) | (with_reducible refine baa ?_ _) | (with_reducible refine bs ?_ (by first | exact Nat.le_refl _ | omega | (simp; done) | (simp; omega)) _) | (with_reducible refine bt ?_ (by with_reducible assumption)))
        case measure => simp [intOf]; omega
      · obtain rfl : k = N := by omega
        clear hlt HS
        gi_wp2
        refine ⟨trivial, fun h => (by cases h), (callsIn_wide.2 (HE.out _ HT1 HL1)).mono ?_⟩
        rintro e w3 ⟨rfl, hb3⟩
        have l3 := hb3.size
        have hB3 : Below W0.heap.size W0 w3 := bt hBB hb3
        gi_wp2
        refine bodyPost_ret (results_none rfl _ _ _) rfl ?_
        refine ⟨⟨_, rfl⟩, .inl ⟨fun j hj => ?_, ?_⟩⟩
        · by_cases e : j = k
          · subst e; exact hGk
          · exact hG j (by omega)
        · repeat (first | (with_reducible exact Below.refl _ _) | (with_reducible assumption) | (with_reducible refine bdrew ?_) | (with_reducible refine baa ?_ _) | (with_reducible refine bs ?_ (by first | exact Nat.le_refl _ | omega | (simp; done) | (simp; omega)) _) | (with_reducible refine bt ?_ (by with_reducible assumption)))
    · gi_wp2
      go_end0
      exact ⟨⟨_, rfl⟩, .inr ⟨k, hk, hG, hJ⟩⟩
end Go.Proofs.YtgcpflbpiifdbaaDoor
