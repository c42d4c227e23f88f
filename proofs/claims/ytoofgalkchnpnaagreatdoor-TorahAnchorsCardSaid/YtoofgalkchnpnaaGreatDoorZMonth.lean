/- Layer 8: months of a type. -/
import Derived.Test.YtoofgalkchnpnaaGreatDoorZKev3
import Derived.Deep.RegionHeld3
import Derived.RegionTactic
import Derived.BigRegion
import Derived.Lib.SmallJoins
namespace Go.Proofs.YtoofgalkchnpnaaGreatDoor
open Go.ChangeShapes Go.WideShapes Go.ChangeAt Go.RowKit
set_option linter.unusedVariables false
set_option maxRecDepth 100000
def lenCells : List Value := [30, 29, 30, 29, 30, 30, 29, 30, 29, 30, 29, 30, 29].map (Value.int .i64)
/-- The days of all months of a type. -/
def lens (k : Int) (l : Bool) : List Int := [30, if k = 2 then 30 else 29, if k = 0 then 29 else 30, 29, 30] ++ ((if l then [30] else []) ++ [29, 30, 29, 30, 29, 30, 29])
/-- A slice that holds these numbers, in a block of its own. -/
def Ints (w : World) (B : Nat) (v : Value) (xs : List Int) : Prop := ∃ g cap, v = .slice (some ⟨g, 0, none⟩) xs.length cap ∧ xs.length ≤ cap ∧ B ≤ g ∧ g < w.heap.size ∧ ∀ (j : Nat) x, xs[j]? = some x → w.cell? ⟨g, j, none⟩ = some (.int .i64 x)
theorem ints_lit {W : World} {B g cap n : Nat} {xs : List Int} {arr : Array Value} (hh : ∀ j, W.cell? ⟨g, j, none⟩ = arr[j]?) (hn : n = xs.length) (hx : arr.toList.take xs.length = xs.map (Value.int .i64)) (hc : xs.length ≤ cap) (hB : B ≤ g) (hg : g < W.heap.size) :
    Ints W B (.slice (some ⟨g, 0, none⟩) n cap) xs :=
  ⟨g, cap, by rw [hn], hc, hB, hg, fun j x hj => by
    have hl : j < xs.length := (List.getElem?_eq_some_iff.1 hj).1
    have h1 : (arr.toList.take xs.length)[j]? = some (.int .i64 x) := by rw [hx, List.getElem?_map, hj]; rfl
    rw [List.getElem?_take_of_lt hl] at h1
    rw [hh j]
    simpa using h1⟩
theorem Ints.below {w w' : World} {B : Nat} {v : Value} {xs : List Int} (h : Ints w B v xs) (hb : Below w.heap.size w w') : Ints w' B v xs := by
  obtain ⟨g, cap, h1, h2, h3, h4, h5⟩ := h
  exact ⟨g, cap, h1, h2, h3, Nat.lt_of_lt_of_le h4 hb.size, fun j x hj => (hb.cell (p := ⟨g, j, none⟩) h4).trans (h5 j x hj)⟩
theorem lens_0f : lens (0) false = [30, 29, 29, 29, 30, 29, 30, 29, 30, 29, 30, 29] := by simp [lens]
set_option maxHeartbeats 1000000 in
theorem month_days_0f (b : Int) (w : World) (hT : Tab w 3 lenCells) :
    Calls Tryo.prog 117 #[.agg #[.int .i64 b, .int .i64 0, .bool false]] w fun e w' => ∃ v, e = .returned v ∧ Ints w' w.heap.size v [30, 29, 29, 29, 30, 29, 30, 29, 30, 29, 30, 29] ∧ Below w.heap.size w w' := by
  have hlt0 := hT.lt
  obtain ⟨t, hT⟩ := hT
  have hT2 : w.heap[3]? = some (.cells #[.int .i64 30, .int .i64 29, .int .i64 30, .int .i64 29, .int .i64 30, .int .i64 30, .int .i64 29, .int .i64 30, .int .i64 29, .int .i64 30, .int .i64 29, .int .i64 30, .int .i64 29] t (0, 0)) := hT
  have HT := Lib.hid hT2
  clear hT hT2
  go_enter Tryo.func117, Tryz.ntmps117
  go_wp2_with (refine wpList_load_row rfl 172 _ rfl 3 rfl t #[.int .i64 30, .int .i64 29, .int .i64 30, .int .i64 29, .int .i64 30, .int .i64 30, .int .i64 29, .int .i64 30, .int .i64 29, .int .i64 30, .int .i64 29, .int .i64 30, .int .i64 29] (0, 0) _ ((Below.heap_alloc _ _ _ hlt0).trans HT.out) (und_o Tryz.underlying172) rfl (by kernel_rfl) ?_)
  go_region
  go_wp2_with fail
  go_ret
  refine ⟨_, rfl, ints_lit (g := w.heap.size + 1) (fun j => Joins.cell_alloc_mark_at _ _ _ _ _ _ (by simp)) rfl rfl (by decide) (by omega) (by simp), ?_⟩
  repeat (first | exact Below.refl _ _ | assumption | (with_reducible refine bdrew ?_) | (with_reducible refine baa ?_ _) | (with_reducible refine bs ?_ (by first | exact Nat.le_refl _ | omega | (simp; omega)) _) | (with_reducible refine bt ?_ (by assumption)))
theorem lens_2f : lens (2) false = [30, 30, 30, 29, 30, 29, 30, 29, 30, 29, 30, 29] := by simp [lens]
set_option maxHeartbeats 1000000 in
theorem month_days_2f (b : Int) (w : World) (hT : Tab w 3 lenCells) :
    Calls Tryo.prog 117 #[.agg #[.int .i64 b, .int .i64 2, .bool false]] w fun e w' => ∃ v, e = .returned v ∧ Ints w' w.heap.size v [30, 30, 30, 29, 30, 29, 30, 29, 30, 29, 30, 29] ∧ Below w.heap.size w w' := by
  have hlt0 := hT.lt
  obtain ⟨t, hT⟩ := hT
  have hT2 : w.heap[3]? = some (.cells #[.int .i64 30, .int .i64 29, .int .i64 30, .int .i64 29, .int .i64 30, .int .i64 30, .int .i64 29, .int .i64 30, .int .i64 29, .int .i64 30, .int .i64 29, .int .i64 30, .int .i64 29] t (0, 0)) := hT
  have HT := Lib.hid hT2
  clear hT hT2
  go_enter Tryo.func117, Tryz.ntmps117
  go_wp2_with (refine wpList_load_row rfl 172 _ rfl 3 rfl t #[.int .i64 30, .int .i64 29, .int .i64 30, .int .i64 29, .int .i64 30, .int .i64 30, .int .i64 29, .int .i64 30, .int .i64 29, .int .i64 30, .int .i64 29, .int .i64 30, .int .i64 29] (0, 0) _ ((Below.heap_alloc _ _ _ hlt0).trans HT.out) (und_o Tryz.underlying172) rfl (by kernel_rfl) ?_)
  go_region
  go_wp2_with fail
  go_ret
  refine ⟨_, rfl, ints_lit (g := w.heap.size + 1) (fun j => Joins.cell_alloc_mark_at _ _ _ _ _ _ (by simp)) rfl rfl (by decide) (by omega) (by simp), ?_⟩
  repeat (first | exact Below.refl _ _ | assumption | (with_reducible refine bdrew ?_) | (with_reducible refine baa ?_ _) | (with_reducible refine bs ?_ (by first | exact Nat.le_refl _ | omega | (simp; omega)) _) | (with_reducible refine bt ?_ (by assumption)))
theorem lens_xf (k : Int) (h0 : ¬ k = 0) (h2 : ¬ k = 2) : lens k false = [30, 29, 30, 29, 30, 29, 30, 29, 30, 29, 30, 29] := by simp [lens, h0, h2]
set_option maxHeartbeats 1000000 in
theorem month_days_xf (b k : Int) (w : World) (hT : Tab w 3 lenCells) (h0 : ¬ k = 0) (h2 : ¬ k = 2) :
    Calls Tryo.prog 117 #[.agg #[.int .i64 b, .int .i64 k, .bool false]] w fun e w' => ∃ v, e = .returned v ∧ Ints w' w.heap.size v [30, 29, 30, 29, 30, 29, 30, 29, 30, 29, 30, 29] ∧ Below w.heap.size w w' := by
  have hlt0 := hT.lt
  obtain ⟨t, hT⟩ := hT
  have hT2 : w.heap[3]? = some (.cells #[.int .i64 30, .int .i64 29, .int .i64 30, .int .i64 29, .int .i64 30, .int .i64 30, .int .i64 29, .int .i64 30, .int .i64 29, .int .i64 30, .int .i64 29, .int .i64 30, .int .i64 29] t (0, 0)) := hT
  have HT := Lib.hid hT2
  clear hT hT2
  have q0 : (k == 0) = false := by simpa using h0
  have q2 : (k == 2) = false := by simpa using h2
  clear h0 h2
  go_enter Tryo.func117, Tryz.ntmps117
  go_wp2_with (refine wpList_load_row rfl 172 _ rfl 3 rfl t #[.int .i64 30, .int .i64 29, .int .i64 30, .int .i64 29, .int .i64 30, .int .i64 30, .int .i64 29, .int .i64 30, .int .i64 29, .int .i64 30, .int .i64 29, .int .i64 30, .int .i64 29] (0, 0) _ ((Below.heap_alloc _ _ _ hlt0).trans HT.out) (und_o Tryz.underlying172) rfl (by kernel_rfl) ?_)
  go_region
  go_wp2_with fail
  go_ret
  refine ⟨_, rfl, ints_lit (g := w.heap.size + 1) (fun j => Joins.cell_alloc_mark_at _ _ _ _ _ _ (by simp)) rfl rfl (by decide) (by omega) (by simp), ?_⟩
  repeat (first | exact Below.refl _ _ | assumption | (with_reducible refine bdrew ?_) | (with_reducible refine baa ?_ _) | (with_reducible refine bs ?_ (by first | exact Nat.le_refl _ | omega | (simp; omega)) _) | (with_reducible refine bt ?_ (by assumption)))
theorem lens_0t : lens (0) true = [30, 29, 29, 29, 30, 30, 29, 30, 29, 30, 29, 30, 29] := by simp [lens]
set_option maxHeartbeats 1000000 in
theorem month_days_0t (b : Int) (w : World) (hT : Tab w 3 lenCells) :
    Calls Tryo.prog 117 #[.agg #[.int .i64 b, .int .i64 0, .bool true]] w fun e w' => ∃ v, e = .returned v ∧ Ints w' w.heap.size v [30, 29, 29, 29, 30, 30, 29, 30, 29, 30, 29, 30, 29] ∧ Below w.heap.size w w' := by
  have hlt0 := hT.lt
  obtain ⟨t, hT⟩ := hT
  have hT2 : w.heap[3]? = some (.cells #[.int .i64 30, .int .i64 29, .int .i64 30, .int .i64 29, .int .i64 30, .int .i64 30, .int .i64 29, .int .i64 30, .int .i64 29, .int .i64 30, .int .i64 29, .int .i64 30, .int .i64 29] t (0, 0)) := hT
  have HT := Lib.hid hT2
  clear hT hT2
  go_enter Tryo.func117, Tryz.ntmps117
  go_wp2_with (refine wpList_load_row rfl 172 _ rfl 3 rfl t #[.int .i64 30, .int .i64 29, .int .i64 30, .int .i64 29, .int .i64 30, .int .i64 30, .int .i64 29, .int .i64 30, .int .i64 29, .int .i64 30, .int .i64 29, .int .i64 30, .int .i64 29] (0, 0) _ ((Below.heap_alloc _ _ _ hlt0).trans HT.out) (und_o Tryz.underlying172) rfl (by kernel_rfl) ?_)
  go_ret
  refine ⟨_, rfl, ints_lit (g := w.heap.size + 1) (fun j => Joins.cell_alloc_mark_at _ _ _ _ _ _ (by simp)) rfl rfl (by decide) (by omega) (by simp), ?_⟩
  repeat (first | exact Below.refl _ _ | assumption | (with_reducible refine bdrew ?_) | (with_reducible refine baa ?_ _) | (with_reducible refine bs ?_ (by first | exact Nat.le_refl _ | omega | (simp; omega)) _) | (with_reducible refine bt ?_ (by assumption)))
theorem lens_2t : lens (2) true = [30, 30, 30, 29, 30, 30, 29, 30, 29, 30, 29, 30, 29] := by simp [lens]
set_option maxHeartbeats 1000000 in
theorem month_days_2t (b : Int) (w : World) (hT : Tab w 3 lenCells) :
    Calls Tryo.prog 117 #[.agg #[.int .i64 b, .int .i64 2, .bool true]] w fun e w' => ∃ v, e = .returned v ∧ Ints w' w.heap.size v [30, 30, 30, 29, 30, 30, 29, 30, 29, 30, 29, 30, 29] ∧ Below w.heap.size w w' := by
  have hlt0 := hT.lt
  obtain ⟨t, hT⟩ := hT
  have hT2 : w.heap[3]? = some (.cells #[.int .i64 30, .int .i64 29, .int .i64 30, .int .i64 29, .int .i64 30, .int .i64 30, .int .i64 29, .int .i64 30, .int .i64 29, .int .i64 30, .int .i64 29, .int .i64 30, .int .i64 29] t (0, 0)) := hT
  have HT := Lib.hid hT2
  clear hT hT2
  go_enter Tryo.func117, Tryz.ntmps117
  go_wp2_with (refine wpList_load_row rfl 172 _ rfl 3 rfl t #[.int .i64 30, .int .i64 29, .int .i64 30, .int .i64 29, .int .i64 30, .int .i64 30, .int .i64 29, .int .i64 30, .int .i64 29, .int .i64 30, .int .i64 29, .int .i64 30, .int .i64 29] (0, 0) _ ((Below.heap_alloc _ _ _ hlt0).trans HT.out) (und_o Tryz.underlying172) rfl (by kernel_rfl) ?_)
  go_ret
  refine ⟨_, rfl, ints_lit (g := w.heap.size + 1) (fun j => Joins.cell_alloc_mark_at _ _ _ _ _ _ (by simp)) rfl rfl (by decide) (by omega) (by simp), ?_⟩
  repeat (first | exact Below.refl _ _ | assumption | (with_reducible refine bdrew ?_) | (with_reducible refine baa ?_ _) | (with_reducible refine bs ?_ (by first | exact Nat.le_refl _ | omega | (simp; omega)) _) | (with_reducible refine bt ?_ (by assumption)))
theorem lens_xt (k : Int) (h0 : ¬ k = 0) (h2 : ¬ k = 2) : lens k true = [30, 29, 30, 29, 30, 30, 29, 30, 29, 30, 29, 30, 29] := by simp [lens, h0, h2]
set_option maxHeartbeats 1000000 in
theorem month_days_xt (b k : Int) (w : World) (hT : Tab w 3 lenCells) (h0 : ¬ k = 0) (h2 : ¬ k = 2) :
    Calls Tryo.prog 117 #[.agg #[.int .i64 b, .int .i64 k, .bool true]] w fun e w' => ∃ v, e = .returned v ∧ Ints w' w.heap.size v [30, 29, 30, 29, 30, 30, 29, 30, 29, 30, 29, 30, 29] ∧ Below w.heap.size w w' := by
  have hlt0 := hT.lt
  obtain ⟨t, hT⟩ := hT
  have hT2 : w.heap[3]? = some (.cells #[.int .i64 30, .int .i64 29, .int .i64 30, .int .i64 29, .int .i64 30, .int .i64 30, .int .i64 29, .int .i64 30, .int .i64 29, .int .i64 30, .int .i64 29, .int .i64 30, .int .i64 29] t (0, 0)) := hT
  have HT := Lib.hid hT2
  clear hT hT2
  have q0 : (k == 0) = false := by simpa using h0
  have q2 : (k == 2) = false := by simpa using h2
  clear h0 h2
  go_enter Tryo.func117, Tryz.ntmps117
  go_wp2_with (refine wpList_load_row rfl 172 _ rfl 3 rfl t #[.int .i64 30, .int .i64 29, .int .i64 30, .int .i64 29, .int .i64 30, .int .i64 30, .int .i64 29, .int .i64 30, .int .i64 29, .int .i64 30, .int .i64 29, .int .i64 30, .int .i64 29] (0, 0) _ ((Below.heap_alloc _ _ _ hlt0).trans HT.out) (und_o Tryz.underlying172) rfl (by kernel_rfl) ?_)
  go_ret
  refine ⟨_, rfl, ints_lit (g := w.heap.size + 1) (fun j => Joins.cell_alloc_mark_at _ _ _ _ _ _ (by simp)) rfl rfl (by decide) (by omega) (by simp), ?_⟩
  repeat (first | exact Below.refl _ _ | assumption | (with_reducible refine bdrew ?_) | (with_reducible refine baa ?_ _) | (with_reducible refine bs ?_ (by first | exact Nat.le_refl _ | omega | (simp; omega)) _) | (with_reducible refine bt ?_ (by assumption)))
theorem month_days (b k : Int) (l : Bool) (w : World) (hT : Tab w 3 lenCells) :
    Calls Tryo.prog 117 #[.agg #[.int .i64 b, .int .i64 k, .bool l]] w fun e w' => ∃ v, e = .returned v ∧ Ints w' w.heap.size v (lens k l) ∧ Below w.heap.size w w' := by
  by_cases h0 : k = 0
  · subst h0
    cases l
    · rw [lens_0f]; exact month_days_0f b w hT
    · rw [lens_0t]; exact month_days_0t b w hT
  · by_cases h2 : k = 2
    · subst h2
      cases l
      · rw [lens_2f]; exact month_days_2f b w hT
      · rw [lens_2t]; exact month_days_2t b w hT
    · cases l
      · rw [lens_xf k h0 h2]; exact month_days_xf b k w hT h0 h2
      · rw [lens_xt k h0 h2]; exact month_days_xt b k w hT h0 h2
end Go.Proofs.YtoofgalkchnpnaaGreatDoor
