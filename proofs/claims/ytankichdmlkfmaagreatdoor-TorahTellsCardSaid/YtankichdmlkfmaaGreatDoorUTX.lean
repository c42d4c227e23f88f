/- Merged: Tx, Ts. -/
import Derived.Test.YtankichdmlkfmaaGreatDoorURB
import Derived.Test.YtankichdmlkfmaaGreatDoorURA
import Derived.Test.YtankichdmlkfmaaGreatDoorUBB
set_option linter.unusedSimpArgs false
set_option linter.unusedVariables false
section
/- Layer 24: the document's has, together, Same. -/
namespace Go.Proofs.YtankichdmlkfmaaGreatDoor
open Go.ChangeShapes Go.WideShapes Go.ChangeAt Go.RowKit Go.Lib Go.Sort Go.Shelf
set_option maxRecDepth 100000
set_option maxHeartbeats 2000000 in
theorem ref24_has (v : Value) (l : List Int) (x : Int) (n : Nat) (w : World) (hr : Il.Row w v l) (hl : l.length = n) (hn : n ≤ 1000) :
  Calls Tryo.prog 40 #[v, .int .i64 x] w fun e w' => e = .returned (.bool (decide (x ∈ l))) ∧ Below w.heap.size w w' := by
 obtain ⟨p1, c1, rfl⟩ := hr.len
 rw [hl]
 have HN := Lib.hid hl
 clear hl
 go_enter Tryo.func40, Tryz.ntmps40
 go_wp2_with fail
 go_loopw [5] (fun i wr => ∃ j : Nat, j ≤ n ∧ i = .int .i64 (j : Int) ∧ Hid (x ∉ l.take j) ∧ Below w.heap.size w wr) (fun i _ => n - (intOf i).toNat)
 case atStart => exact ⟨0, Nat.zero_le _, rfl, Lib.hid (by simp), bel⟩
 case round =>
  obtain ⟨j, hj, rfl, HG, hB⟩ := hrel
  by_cases hlt : j < n
  ·obtain ⟨y, hy⟩ : ∃ x, l[j]? = some x := ⟨_, List.getElem?_eq_getElem (by rw [HN.out]; exact hlt)⟩
   obtain ⟨b, off, cc, hp1, hc⟩ := (hr.below hB).at_some (by rw [HN.out]; omega)
   rw [HN.out] at hp1
   simp only [Value.slice.injEq] at hp1
   obtain ⟨rfl, _, rfl⟩ := hp1
   have cx1 := hc j y hy
   have lx := World.block_lt_of_cell? _ _ cx1
   dsimp only at lx cx1
   have j0 : (0 : Int) ≤ (j : Int) := by omega
   have j1 : (j : Int) < (n : Int) := by omega
   have HM := Lib.hid (show y ∈ l from List.mem_of_getElem? hy)
   have HT := Lib.hid (show l.take (j + 1) = l.take j ++ [y] by rw [List.take_add_one, hy]; rfl)
   clear hc hy
   by_cases c : y = x
   ·subst c
    go_wp2_with fail
    go_ret
    refine ⟨?_, bel⟩
    rw [decide_eq_true HM.out]
    rfl
   ·have HC := Lib.hid c
    have c2 : decide (y = x) = false := decide_eq_false c
    go_wp2_with fail
    go_roundw
    case rel => exact ⟨j + 1, by omega, by go_num, Lib.hid (by rw [HT.out]; have h1 := HG.out; have h2 := HC.out; simp [h1]; exact fun h => h2 h.symm), bel⟩
    case measure => simp [intOf]; omega
  ·obtain rfl : j = n := by omega
   clear hlt
   go_wp2_with fail
   go_ret
   refine ⟨?_, bel⟩
   have h1 := HG.out
   rw [List.take_of_length_le (by rw [HN.out]; exact Nat.le_refl _)] at h1
   rw [decide_eq_false h1]
   rfl
set_option maxHeartbeats 2000000 in
theorem ref24_together (f : Int) (J : List Int) (b : Nat) (w : World) (hJ : J.length ≤ 100) (hf : -1000 ≤ f ∧ f ≤ 1000) (hcs : ∀ (j : Nat) x, J[j]? = some x → w.cell? ⟨b, j, none⟩ = some (.int .i64 x)) :
  Calls Tryo.prog 89 #[.int .i64 f, .slice (some ⟨b, 0, none⟩) J.length J.length] w fun e w' => ∃ v, e = .returned v ∧ Il.Row w v (J.take f.toNat) ∧ w = w' := by
 have HC := Lib.hid hcs
 clear hcs
 by_cases c : f ≤ 0
 ·have d1 : decide (f ≤ 0) = true := decide_eq_true c
  have h0 := Lib.hid (show f.toNat = 0 by omega)
  go_enter Tryo.func89, Tryz.ntmps89
  go_wp2_with fail
  go_ret
  exact ⟨_, rfl, by rw [h0.out]; exact .inl ⟨rfl, rfl⟩, rfl⟩
 ·have d1 : decide (f ≤ 0) = false := decide_eq_false c
  obtain ⟨M, hM⟩ : ∃ M : Nat, M = (min f (J.length : Int)).toNat := ⟨_, rfl⟩
  have hM2 : min f (J.length : Int) = (M : Int) := by omega
  have HM := Lib.hid hM2
  have hm : (M : Int) ≤ (J.length : Int) := by omega
  have h0 : (0 : Int) ≤ (M : Int) := by omega
  have hS : ∀ W, (Instr.slice 64 (.slice (some ⟨b, 0, none⟩) J.length J.length) none (some (.int .i64 (M : Int))) none).run Tryo.prog W = .ok (.slice (some ⟨b, 0, none⟩) M J.length) W := fun W => by simp [Instr.slice, go_sem, hm, h0]
  clear hM
  go_enter Tryo.func89, Tryz.ntmps89
  go_wp2_with fail
  go_ret
  have h1 := HM.out
  refine ⟨_, rfl, .inr ⟨b, 0, J.length, ?_, fun j x hj => ?_⟩, rfl⟩
  ·have e : (J.take f.toNat).length = M := by rw [List.length_take]; omega
   rw [e]
   rfl
  ·rw [Nat.zero_add]
   refine HC.out j x ?_
   rw [List.getElem?_take] at hj
   split at hj
   ·exact hj
   ·cases hj
end Go.Proofs.YtankichdmlkfmaaGreatDoor
end
section
/- Layer 24: the document's Same. -/
namespace Go.Proofs.YtankichdmlkfmaaGreatDoor
open Go.ChangeShapes Go.WideShapes Go.ChangeAt Go.RowKit Go.Lib Go.Sort Go.Shelf
set_option maxRecDepth 100000
set_option maxHeartbeats 4000000 in
theorem ref24_Same (va vb : Value) (l : List Rd) (n : Nat) (w : World) (ha : Rd.Row w va l) (hb : Rd.Row w vb l) (hl : l.length = n) (hn : n ≤ 1000) :
  Calls Tryo.prog 12 #[va, vb] w fun e w' => e = .returned (.bool true) ∧ Below w.heap.size w w' := by
 obtain ⟨pa, ca, rfl⟩ := ha.len
 obtain ⟨pb, cb, rfl⟩ := hb.len
 rw [hl]
 have HN := Lib.hid hl
 clear hl
 go_enter Tryo.func12, Tryz.ntmps12
 go_wp2_with fail
 go_loopw [5] (fun i wr => ∃ j : Nat, j ≤ n ∧ i = .int .i64 (j : Int) ∧ Below w.heap.size w wr) (fun i _ => n - (intOf i).toNat)
 case atStart => exact ⟨0, Nat.zero_le _, rfl, bel⟩
 case round =>
  obtain ⟨j, hj, rfl, hB⟩ := hrel
  by_cases hlt : j < n
  ·obtain ⟨x, hx⟩ : ∃ x, l[j]? = some x := ⟨_, List.getElem?_eq_getElem (by rw [HN.out]; exact hlt)⟩
   obtain ⟨a1, a2, D⟩ := x
   obtain ⟨ba, oa, cca, hp1, hca⟩ := (ha.below hB).at_some (by rw [HN.out]; omega)
   obtain ⟨bb, ob, ccb, hp2, hcb⟩ := (hb.below hB).at_some (by rw [HN.out]; omega)
   rw [HN.out] at hp1 hp2
   simp only [Value.slice.injEq] at hp1 hp2
   obtain ⟨rfl, _, rfl⟩ := hp1
   obtain ⟨rfl, _, rfl⟩ := hp2
   obtain ⟨x1, x2, x3⟩ := Rd.cells_at hca j (a1, a2, D) hx
   obtain ⟨z1, z2, z3⟩ := Rd.cells_at hcb j (a1, a2, D) hx
   have lx := World.block_lt_of_cell? _ _ x1
   have lz := World.block_lt_of_cell? _ _ z1
   dsimp only at lx lz x1 x2 x3 z1 z2 z3
   have j0 : (0 : Int) ≤ (j : Int) := by omega
   have j1 : (j : Int) < (n : Int) := by omega
   clear hca hcb hx
   go_wp2_with fail
   refine wp_region_class (by kernel_rfl) (by kernel_rfl) (fun hall => ?_)
   repeat (first | go_big_quiet_skip | (go_big_quiet_want; first | (refine quiet_load1 _ _ _ rfl rfl ?_ ?_ ?_; (focus (intro _; simp; done)); (focus (first | assumption | omega | (simp; done) | (simp; omega))); apply Exists.intro; refine ⟨?_, ?_⟩; assumption; go_simp; go_big_quiet_on) | (refine quiet_load2 _ _ _ _ rfl rfl ?_ ?_ ?_ ?_; (focus (intro _; simp; done)); (focus (intro _; simp; done)); (focus (first | assumption | omega | (simp; done) | (simp; omega))); apply Exists.intro; apply Exists.intro; refine ⟨?_, ?_, ?_⟩; assumption; assumption; go_simp; go_big_quiet_on) | (refine quiet_load3 _ _ _ _ rfl rfl ?_ ?_ ?_ ?_; (focus (intro _; simp; done)); (focus (intro _; simp; done)); (focus (first | assumption | omega | (simp; done) | (simp; omega))); apply Exists.intro; apply Exists.intro; apply Exists.intro; refine ⟨?_, ?_, ?_, ?_⟩; assumption; assumption; assumption; go_simp; go_big_quiet_on) | (refine quiet_load4 _ _ _ _ rfl rfl ?_ ?_ ?_ ?_; (focus (intro _; simp; done)); (focus (intro _; simp; done)); (focus (first | assumption | omega | (simp; done) | (simp; omega))); apply Exists.intro; apply Exists.intro; apply Exists.intro; apply Exists.intro; refine ⟨?_, ?_, ?_, ?_, ?_⟩; assumption; assumption; assumption; assumption; go_simp; go_big_quiet_on) | (go_big_quiet_op; first | go_big_quiet_on | (apply Exists.intro; refine ⟨fun x hx => ?_, ?_⟩; (first | fail); go_big_quiet_on))))
   refine wpQuiet_nil ?_
   clear hall
   intro x4 hx4
   go_wp2_with fail
   go_roundw
   case rel => exact ⟨j + 1, by omega, by go_num, bel⟩
   case measure => simp [intOf]; omega
  ·obtain rfl : j = n := by omega
   clear hlt
   go_wp2_with fail
   go_ret
   exact ⟨rfl, hB⟩
end Go.Proofs.YtankichdmlkfmaaGreatDoor
end
