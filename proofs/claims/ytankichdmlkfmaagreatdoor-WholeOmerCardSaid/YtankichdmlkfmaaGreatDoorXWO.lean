import Derived.Test.YtankichdmlkfmaaGreatDoorXTail
import Derived.StillTail
import Derived.Deep.Quiet
import Derived.Test.YtankichdmlkfmaaGreatDoorXHR
import Derived.Test.YtankichdmlkfmaaGreatDoorXDA
set_option maxHeartbeats 8000000
set_option maxRecDepth 100000
set_option linter.unusedSimpArgs false
set_option linter.unusedVariables false
section
namespace Go.Proofs.YtankichdmlkfmaaGreatDoor
open Go.RowKit
section
variable {P : Program} {ops : Array Oper} {md : Region.Mode} {C : World → Prop}
theorem anyHead_first {n i : Nat} {oi : Oper} {v : Value} {L : Array Bool → Act → Prop} (hi : ops[i]? = some oi) (hsel : ∀ (j : Nat) (o : Oper) cs b, ops[j]? = some o → o.op ≠ .select cs b)
  (hs : Region.sinkB md ops n = true) (hc : Region.chainB md ops n = true) (hn : n < ops.size) (hin : i < n)
  (hdone : ∀ listed a, L listed a → ∀ j ∈ Region.ready md ops listed, n ≤ j) :
  ∀ (f : Nat) (listed : Array Bool) (a : Act), HeadInv md ops n listed →
   (∀ j oj, ops[j]? = some oj → j ≠ i → listed.getD j true = false → (∀ e ∈ oj.after, Region.binds md e = true → e.on ≠ i) → oi.apart ops oj = true) →
   i ∈ Region.ready md ops listed → YieldsIn P ops C oi v a →
   anyHead P md ops C n L f (listed.setIfInBounds i true) (a.put oi.dst v) → anyHead P md ops C n L (f + 1) listed a := by
 intro f
 induction f with
 | zero =>
  intro listed a inv _ hr hy H
  have hun := (mem_ready.1 hr).1
  refine ⟨fun h => (by rw [h] at hr; cases hr), fun j hj => ?_⟩
  have hjn : j < n := by
   rcases Nat.lt_or_ge j n with h | h
   ·exact h
   ·exact absurd hj (tail_waits hs hc hn inv _ i rfl hin hun j h)
  refine ⟨hjn, ?_⟩
  by_cases hji : j = i
  ·subst hji; exact hy.qOp hi H
  ·have := hdone _ _ H j (ready_mono hj hji)
   omega
 | succ f ih =>
  intro listed a inv hfree hr hy H
  have hun := (mem_ready.1 hr).1
  refine ⟨fun h => (by rw [h] at hr; cases hr), fun j hj => ?_⟩
  have hjn : j < n := by
   rcases Nat.lt_or_ge j n with h | h
   ·exact h
   ·exact absurd hj (tail_waits hs hc hn inv _ i rfl hin hun j h)
  refine ⟨hjn, ?_⟩
  by_cases hji : j = i
  ·subst hji; exact hy.qOp hi H
  ·have h1 := (H.2 j (ready_mono hj hji)).2
   obtain ⟨hjun, oj, hoj, hall⟩ := mem_ready.1 hj
   have hnot : ∀ e ∈ oj.after, Region.binds md e = true → e.on ≠ i := fun e he hb heq => by
    have h1 := hall e he hb
    rw [heq, getD_both hun] at h1
    cases h1
   have h2 := qOp_put hoj (hfree j oj hoj hji hjun hnot) (fun cs b => hsel i oi cs b hi) (fun cs b => hsel j oj cs b hoj) hy h1
   have hfree' : ∀ k ok, ops[k]? = some ok → k ≠ i → (listed.setIfInBounds j true).getD k true = false →
     (∀ e ∈ ok.after, Region.binds md e = true → e.on ≠ i) → oi.apart ops ok = true := fun k ok hk hki hun hno => by
    refine hfree k ok hk hki ?_ hno
    by_cases hjk : j = k
    ·subst hjk; exact hjun
    ·rw [getD_set_ne true hjk] at hun; exact hun
   refine qOp_mono (fun a' h3 => ih (listed.setIfInBounds j true) a' (inv.set hj hjn) hfree' (ready_mono hr (Ne.symm hji)) h3.1 ?_) h2
   rw [Array.setIfInBounds_comm _ _ hji]
   exact h3.2
theorem anyHead_lex {n g : Nat} {Lq : Act → Prop} (hsel : Region.noSelect ops = true) (hs : Region.sinkB md ops n = true) (hc : Region.chainB md ops n = true) (hn : n < ops.size) :
  ∀ (l : List Oper) (k : Nat) (listed : Array Bool) (a : Act), (∀ j, j < l.length → l[j]? = ops[k + j]?) → k + l.length = n → HeadInv md ops n listed →
  Region.lexHead md ops g l.length k listed = true → wpQuiet P ops C Lq l a →
  anyHead P md ops C n (fun listed' a' => Region.seqB md ops g n listed' = true ∧ Lq a') l.length listed a
 | [], k, listed, a, _, hk, _, hB, h => by
  have : k = n := by simpa using hk
  subst this
  exact ⟨by simpa [Region.lexHead] using hB, h⟩
 | o :: l, k, listed, a, hl, hk, inv, hB, h => by
  have h0 : ops[k]? = some o := by simpa using (hl 0 (by simp)).symm
  simp only [List.length_cons, Region.lexHead, Bool.and_eq_true] at hB
  obtain ⟨⟨hr, hf⟩, hB'⟩ := hB
  have hkn : k < n := by simp only [List.length_cons] at hk; omega
  have hr' : k ∈ Region.ready md ops listed := by simpa using hr
  have hst : qOp P ops C k (wpQuiet P ops C Lq l) a := by unfold qOp; simp only [h0]; exact h
  obtain ⟨v, hy, hK⟩ := yieldsIn_of_qOp h0 hst
  exact anyHead_first h0 (Region.noSelect_spec hsel) hs hc hn hkn (fun listed' a' hL => seqB_ready hL.1) l.length listed a inv (Region.free_spec h0 hf) hr' hy
   (anyHead_lex hsel hs hc hn l (k + 1) _ _ (fun j hj => by have := hl (j + 1) (by simp; omega); simpa [Nat.add_assoc, Nat.add_comm 1 j] using this) (by simp only [List.length_cons] at hk; omega) (inv.set hr' hkn) hB' hK)
end
theorem wp_region_tail {P : Program} {W : World} {id : Nat} {Q : Exit → Act → World → Prop} {a : Act} {l : List Oper} (n : Nat) (hm : P.follows .mixedOrders = true) (hB : Region.lexTailB .any l.toArray n = true)
  (h : (∀ q : Prop, (∀ x, Below W.heap.size W x → q) = q) → wpQuiet P l.toArray (Below W.heap.size W) (fun a' => ∀ x, Below W.heap.size W x → wpList P l.toArray Q (l.drop n) a' x) (l.take n) a) : (Code.region id l.toArray true).wp P Q a W := by
 simp only [Region.lexTailB, Bool.and_eq_true, decide_eq_true_eq] at hB
 obtain ⟨⟨⟨⟨hsel, hn⟩, hs⟩, hc⟩, hlex⟩ := hB
 have hn' : n < l.length := by simpa using hn
 have htl : (l.take n).length = n := by simp; omega
 have hdl : (l.drop n).length = l.toArray.size - n := by simp
 have inv0 : HeadInv .any l.toArray n (Array.replicate l.toArray.size false) :=
  ⟨by simp, fun j oj _ hl => (by rw [getD_replicate_false] at hl; cases hl), fun t _ ht => getD_in (by simpa using ht) (getD_replicate_false _ _)⟩
 have H := anyHead_lex (P := P) (C := Below W.heap.size W) (md := .any) (g := l.toArray.size - n) hsel hs hc hn (l.take n) 0 _ a (fun j hj => by
  have hj' : j < n := by rw [htl] at hj; exact hj
  simp [hj']) (by simpa using htl) inv0 (by rw [htl]; exact hlex) (h class_all)
 refine wp_region_any hm ?_
 have := any_of_head (Q' := Q) (g := l.toArray.size - n) (fun listed a' w' hw hL => by
  have := wpAny_of_seq (md := .any) (Q' := Q) (l.drop n) n listed a' w' (fun j => by simp [List.getElem?_drop]) (by rw [hdl]; exact hL.1) (hL.2 w' hw)
  rwa [hdl] at this) _ _ _ _ (class_self W) H
 rw [htl, show n + (l.toArray.size - n) = l.toArray.size by omega] at this
 exact this
end Go.Proofs.YtankichdmlkfmaaGreatDoor
end
section
namespace Go.Proofs.YtankichdmlkfmaaGreatDoor
open Go.ChangeShapes Go.WideShapes Go.ChangeAt Go.RowKit Go.Lib
theorem top_year (y : Int) (hy : 0 ≤ y ∧ y ≤ 65535) (w : World) : Calls Tryo.prog 33 #[.int .u16 y] w fun e w' => e = .returned (.int .i64 (1 + y % 9999)) ∧ w = w' := by
 obtain ⟨y1, y2⟩ := hy
 have k0 : y.tmod 9999 = y % 9999 := Int.tmod_eq_emod_of_nonneg y1
 have k1 := Int.emod_nonneg y (show (9999 : Int) ≠ 0 by decide)
 have k2 := Int.emod_lt_of_pos y (show (0 : Int) < 9999 by decide)
 go_enter Tryo.func33, Tryz.ntmps33
 go_wp2_with fail
 go_ret
 exact ⟨rfl, rfl⟩
end Go.Proofs.YtankichdmlkfmaaGreatDoor
end
section
namespace Go.Proofs.YtankichdmlkfmaaGreatDoor
open Go.ChangeShapes Go.WideShapes Go.ChangeAt Go.RowKit Go.Lib Go.Sort Go.Shelf
namespace Dy
def atF (l : List (Int × Int)) (k : Int) : Int := l.foldr (fun x r => if x.1 = k then x.2 else r) 0
theorem atF_next (l : List (Int × Int)) (j : Nat) (kd d k : Int) (h : l[j]? = some (kd, d)) : atF (l.drop j) k = if kd = k then d else atF (l.drop (j + 1)) k := by
 have hlt := (List.getElem?_eq_some_iff.1 h).1
 have e : l.drop j = (kd, d) :: l.drop (j + 1) := by
  rw [List.drop_eq_getElem_cons hlt]
  congr 1
  have := (List.getElem?_eq_some_iff.1 h).2
  exact this
 rw [e]
 rfl
end Dy
theorem WholeOmer_go (y S G P : Int) (l : List (Int × Int)) (n : Nat) (f1a f2a f3a : Int) (f4a : Bool) (f5a f6a f7a f8a f9a r1a r2a r3a : Int) (f1b f2b f3b : Int) (f4b : Bool) (f5b f6b f7b f8b f9b r1b r2b r3b : Int) (f1c f2c f3c : Int) (f4c : Bool) (f5c f6c f7c f8c f9c r1c r2c r3c : Int) (f1d f2d f3d : Int) (f4d : Bool) (f5d f6d f7d f8d f9d r1d r2d r3d : Int) (w : World) (hy : 0 ≤ y ∧ y ≤ 65535) (hl : l.length = n) (hn : n ≤ 60) (hT : Tab w 7 kevCells) (hL : Tab w 6 lenCells) (hF : Tab w 2 Fe.cells) (hA : Tab w 3 Fa.cells) (hG : Tab w 4 Gr.gregCells) (hP : Tab w 5 powCells)
  (HO : Hid (∀ w : World, Tab w 7 kevCells → Tab w 6 lenCells → Tab w 2 Fe.cells → Calls Tryo.prog 24 #[.int .i64 (1 + y % 9999), .int .i64 1] w fun e w' => ∃ v, e = .returned (.tuple #[v, .int .i64 0]) ∧ Ev.Own w' w.heap.size v l ∧ Below w.heap.size w w'))
  (HK : Hid (∀ (j : Nat) (kd d : Int), l[j]? = some (kd, d) → ∃ q : Nat, kd = (q : Int) ∧ 1 ≤ q ∧ q < 40))
  (H25 : Hid (Dy.atF l 25 = S)) (H23 : Hid (Dy.atF l 23 = G)) (H17 : Hid (Dy.atF l 17 = P)) (bS : -3000000 ≤ S ∧ S ≤ 3000000) (bP : -3000000 ≤ P ∧ P ≤ 3000000) (eS : S - P = 50)
  (HD1 : Hid (∀ w : World, Tab w 7 kevCells → Tab w 6 lenCells → Tab w 2 Fe.cells → Tab w 3 Fa.cells → Tab w 4 Gr.gregCells → Calls Tryo.prog 30 #[.int .i64 (S - 1), .int .i64 1] w fun e w' => ∃ v p m c, v = .slice p m c ∧ e = .returned (.tuple #[.agg #[.int .i64 f1a, .int .i64 f2a, .int .i64 f3a, .bool f4a, .int .i64 f5a, .int .i64 f6a, .int .i64 f7a, .int .i64 f8a, .int .i64 f9a, .int .i64 49, v, .int .i64 r1a, .int .i64 r2a, .int .i64 r3a], .int .i64 0]) ∧ Below w.heap.size w w'))
  (HD2 : Hid (∀ w : World, Tab w 7 kevCells → Tab w 6 lenCells → Tab w 2 Fe.cells → Tab w 3 Fa.cells → Tab w 4 Gr.gregCells → Calls Tryo.prog 30 #[.int .i64 G, .int .i64 1] w fun e w' => ∃ v p m c, v = .slice p m c ∧ e = .returned (.tuple #[.agg #[.int .i64 f1b, .int .i64 f2b, .int .i64 f3b, .bool f4b, .int .i64 f5b, .int .i64 f6b, .int .i64 f7b, .int .i64 f8b, .int .i64 f9b, .int .i64 33, v, .int .i64 r1b, .int .i64 r2b, .int .i64 r3b], .int .i64 0]) ∧ Below w.heap.size w w'))
  (HD3 : Hid (∀ w : World, Tab w 7 kevCells → Tab w 6 lenCells → Tab w 2 Fe.cells → Tab w 3 Fa.cells → Tab w 4 Gr.gregCells → Calls Tryo.prog 30 #[.int .i64 (P + 1), .int .i64 1] w fun e w' => ∃ v p m c, v = .slice p m c ∧ e = .returned (.tuple #[.agg #[.int .i64 f1c, .int .i64 f2c, .int .i64 f3c, .bool f4c, .int .i64 f5c, .int .i64 f6c, .int .i64 f7c, .int .i64 f8c, .int .i64 f9c, .int .i64 1, v, .int .i64 r1c, .int .i64 r2c, .int .i64 r3c], .int .i64 0]) ∧ Below w.heap.size w w'))
  (HD4 : Hid (∀ w : World, Tab w 7 kevCells → Tab w 6 lenCells → Tab w 2 Fe.cells → Tab w 3 Fa.cells → Tab w 4 Gr.gregCells → Calls Tryo.prog 30 #[.int .i64 P, .int .i64 1] w fun e w' => ∃ v p m c, v = .slice p m c ∧ e = .returned (.tuple #[.agg #[.int .i64 f1d, .int .i64 f2d, .int .i64 f3d, .bool f4d, .int .i64 f5d, .int .i64 f6d, .int .i64 f7d, .int .i64 f8d, .int .i64 f9d, .int .i64 0, v, .int .i64 r1d, .int .i64 r2d, .int .i64 r3d], .int .i64 0]) ∧ Below w.heap.size w w')) :
  Calls Tryo.prog 6 #[.int .u16 y] w fun e w' => e = .returned (.bool true) ∧ Below w.heap.size w w' := by
 have HW := Lib.hid (fun w hT hL hG hF hP => awake28 w hT hL hG hF hP)
 have HYr := Lib.hid (fun w => top_year y hy w)
 have HN := Lib.hid hl
 have e0 : wrap64 ((n : Int) - 1) = (n : Int) - 1 := IntWalk.wrap64_in _ ⟨by omega, by omega⟩
 have e58 : wrap64 (S - 1) = S - 1 := IntWalk.wrap64_in _ ⟨by omega, by omega⟩
 have e71 : wrap64 (P + 1) = P + 1 := IntWalk.wrap64_in _ ⟨by omega, by omega⟩
 have e50 : wrap64 (S - P) = 50 := by rw [eS]; exact IntWalk.wrap64_in _ ⟨by omega, by omega⟩
 have E50 : (S - P == 50) = true := by simpa using eS
 clear bS bP eS
 go_enter Tryo.func6, Tryz.ntmps6
 go_wp2_with fail
 refine (HYr.out _).mono ?_
 rintro e w' ⟨rfl, rfl⟩
 go_wp2_with fail
 refine (HO.out _ (Tab.below hT bel) (Tab.below hL bel) (Tab.below hF bel)).mono ?_
 rintro e w1 ⟨v1, rfl, ho1, hb1⟩
 have hB1 : Below w.heap.size w w1 := bel
 have hr := ho1.row
 obtain ⟨p1, c1, rfl⟩ := hr.len
 rw [hl]
 clear ho1 hl
 go_wp2_with fail
 go_loopw [7] (fun iv wr => ∃ j : Nat, j ≤ n ∧ iv = .int .i64 ((j : Int) - 1) ∧ Hid (∀ k : Nat, k < 40 → wr.cell? ⟨w1.heap.size, k, none⟩ = some (.int .i64 (Dy.atF (l.drop j) (k : Int))) ∧ wr.frozen? ⟨w1.heap.size, k, none⟩ = false) ∧ Below w1.heap.size w1 wr ∧ w1.heap.size < wr.heap.size) (fun i _ => (intOf i + 1).toNat)
 case atStart =>
  refine ⟨n, Nat.le_refl _, rfl, Lib.hid (fun k hk => ⟨?_, ?_⟩), bel, by simp⟩
  ·rw [show Dy.atF (l.drop n) (k : Int) = 0 by rw [List.drop_of_length_le (by rw [HN.out]; exact Nat.le_refl _)]; rfl]
   rcases (show k = 0 ∨ k = 1 ∨ k = 2 ∨ k = 3 ∨ k = 4 ∨ k = 5 ∨ k = 6 ∨ k = 7 ∨ k = 8 ∨ k = 9 ∨ k = 10 ∨ k = 11 ∨ k = 12 ∨ k = 13 ∨ k = 14 ∨ k = 15 ∨ k = 16 ∨ k = 17 ∨ k = 18 ∨ k = 19 ∨ k = 20 ∨ k = 21 ∨ k = 22 ∨ k = 23 ∨ k = 24 ∨ k = 25 ∨ k = 26 ∨ k = 27 ∨ k = 28 ∨ k = 29 ∨ k = 30 ∨ k = 31 ∨ k = 32 ∨ k = 33 ∨ k = 34 ∨ k = 35 ∨ k = 36 ∨ k = 37 ∨ k = 38 ∨ k = 39 by omega) with rfl | rfl | rfl | rfl | rfl | rfl | rfl | rfl | rfl | rfl | rfl | rfl | rfl | rfl | rfl | rfl | rfl | rfl | rfl | rfl | rfl | rfl | rfl | rfl | rfl | rfl | rfl | rfl | rfl | rfl | rfl | rfl | rfl | rfl | rfl | rfl | rfl | rfl | rfl | rfl <;> exact (World.cell?_alloc_mark w1 _ _ _ _).trans rfl
  ·exact World.frozen?_alloc_new _ _ _ _
 case round =>
  obtain ⟨j, hj, rfl, HA, hB, hsz⟩ := hrel
  obtain ⟨w9, rfl⟩ : ∃ x, x = wr := ⟨_, rfl⟩
  cases j with
  | succ i =>
   have ei : (((i + 1 : Nat) : Int) - 1) = (i : Int) := by omega
   rw [ei]
   obtain ⟨x, hx⟩ : ∃ x, l[i]? = some x := ⟨_, List.getElem?_eq_getElem (by rw [HN.out]; omega)⟩
   obtain ⟨kd, d⟩ := x
   obtain ⟨q, rfl, q1, q2⟩ := HK.out i kd d hx
   have HX := Lib.hid (fun k => Dy.atF_next l i q d k hx)
   obtain ⟨b, off, cc, hp1, hc⟩ := (hr.below hB).at_some (by rw [HN.out]; omega)
   rw [HN.out] at hp1
   simp only [Value.slice.injEq] at hp1
   obtain ⟨rfl, _, rfl⟩ := hp1
   obtain ⟨cx1, cx2⟩ := Ev.cells_at hc i (q, d) hx
   have lx := World.block_lt_of_cell? _ _ cx1
   dsimp only at lx cx1 cx2
   have j0 : (0 : Int) ≤ (i : Int) := by omega
   have j1 : (i : Int) < (n : Int) := by omega
   have j2 : decide ((i : Int) ≥ 0) = true := decide_eq_true j0
   have ew : wrap64 ((i : Int) - 1) = (i : Int) - 1 := IntWalk.wrap64_in _ ⟨by omega, by omega⟩
   have r0 : (0 : Int) < (q : Int) := by omega
   have r1 : (q : Int) < 40 := by omega
   have r2 : (0 : Int) ≤ (q : Int) := by omega
   have R0 : decide ((0 : Int) < (q : Int)) = true := decide_eq_true r0
   have R2 : decide ((q : Int) > 0) = true := decide_eq_true r0
   have R1 : decide ((q : Int) < 40) = true := decide_eq_true r1
   obtain ⟨z1, z2⟩ := HA.out q (by omega)
   have lb : b < w1.heap.size := by
    obtain ⟨b', off', c', e', hc'⟩ := hr.at_some (by rw [HN.out]; omega)
    simp only [Value.slice.injEq, Option.some.injEq, Addr.mk.injEq] at e'
    obtain ⟨⟨rfl, _, _⟩, _, _⟩ := e'
    have h0 := Ev.cells_at hc' i (q, d) hx
    exact World.block_lt_of_cell? _ _ h0.1
   clear hc hx
   go_wp2_with fail
   refine wp_region_tail 11 (by kernel_rfl) (by kernel_rfl) (fun hall => ?_)
   simp only [List.take_succ_cons, List.take_zero, List.drop_succ_cons, List.drop_zero]
   repeat (first | go_big_quiet_skip | (go_big_quiet_want; first | (refine quiet_load1 _ _ _ rfl rfl ?_ ?_ ?_; (focus (intro _; simp; done)); (focus (first | assumption | omega | (simp; done) | (simp; omega))); apply Exists.intro; refine ⟨?_, ?_⟩; assumption; go_simp; go_big_quiet_on) | (refine quiet_load2 _ _ _ _ rfl rfl ?_ ?_ ?_ ?_; (focus (intro _; simp; done)); (focus (intro _; simp; done)); (focus (first | assumption | omega | (simp; done) | (simp; omega))); apply Exists.intro; apply Exists.intro; refine ⟨?_, ?_, ?_⟩; assumption; assumption; go_simp; go_big_quiet_on) | (refine quiet_load3 _ _ _ _ rfl rfl ?_ ?_ ?_ ?_; (focus (intro _; simp; done)); (focus (intro _; simp; done)); (focus (first | assumption | omega | (simp; done) | (simp; omega))); apply Exists.intro; apply Exists.intro; apply Exists.intro; refine ⟨?_, ?_, ?_, ?_⟩; assumption; assumption; assumption; go_simp; go_big_quiet_on) | (refine quiet_load4 _ _ _ _ rfl rfl ?_ ?_ ?_ ?_; (focus (intro _; simp; done)); (focus (intro _; simp; done)); (focus (first | assumption | omega | (simp; done) | (simp; omega))); apply Exists.intro; apply Exists.intro; apply Exists.intro; apply Exists.intro; refine ⟨?_, ?_, ?_, ?_, ?_⟩; assumption; assumption; assumption; assumption; go_simp; go_big_quiet_on) | (go_big_quiet_op; first | go_big_quiet_on | (apply Exists.intro; refine ⟨fun x hx => ?_, ?_⟩; (first | fail); go_big_quiet_on))))
   refine wpQuiet_nil ?_
   clear hall
   intro x7 hx7
   have z3 := (hx7.cell (p := ⟨w1.heap.size, q, none⟩) hsz).trans z1
   have z4 := (hx7.frozen (p := ⟨w1.heap.size, q, none⟩) hsz).trans z2
   have hs7 := hx7.size
   go_wp2_with fail
   go_roundw
   case rel =>
    refine ⟨i, by omega, by first | rfl | go_num, Lib.hid (fun k hk => ?_), bel, by simp; omega⟩
    obtain ⟨y1, y2⟩ := HA.out k hk
    have Y1 := (hx7.cell (p := ⟨w1.heap.size, k, none⟩) hsz).trans y1
    have Y2 := (hx7.frozen (p := ⟨w1.heap.size, k, none⟩) hsz).trans y2
    refine ⟨?_, by rw [World.frozen?_setCell]; exact Y2⟩
    rw [HX.out]
    by_cases c : q = k
    ·subst c
     rw [if_pos rfl]
     exact World.cell?_setCell_same _ _ _ z3
    ·rw [if_neg (by omega), World.cell?_setCell_other _ _ _ _ (fun h => c (by injection h))]
     exact Y1
   case measure => first | (simp [intOf]; done) | (simp [intOf]; omega)
  | zero =>
   rw [show (((0 : Nat) : Int) - 1) = -1 from rfl]
   have A25 := (HA.out 25 (by omega)).1
   have A23 := (HA.out 23 (by omega)).1
   have A17 := (HA.out 17 (by omega)).1
   rw [List.drop_zero] at A25 A23 A17
   rw [show ((25 : Nat) : Int) = 25 from rfl, H25.out] at A25
   rw [show ((23 : Nat) : Int) = 23 from rfl, H23.out] at A23
   rw [show ((17 : Nat) : Int) = 17 from rfl, H17.out] at A17
   clear HA HK
   have hB9 : Below w.heap.size w w9 := bt hB1 hB
   clear hB
   go_wp2_with fail
   refine (HD1.out _ (Tab.below hT bel) (Tab.below hL bel) (Tab.below hF bel) (Tab.below hA bel) (Tab.below hG bel)).mono ?_
   rintro e w2 ⟨v2, p2, m2, q2, rfl, rfl, hb2⟩
   have hB2 : Below w.heap.size w w2 := bel
   obtain ⟨hc2, hf2⟩ := bcell hb2
   have hz2 := hb2.size
   try simp at hz2
   have hl2_w1 : w1.heap.size < w2.heap.size := by omega
   have g2_w1_25 : w2.cell? ⟨w1.heap.size, 25, none⟩ = some (.int .i64 S) := cel hc2
   have g2_w1_23 : w2.cell? ⟨w1.heap.size, 23, none⟩ = some (.int .i64 G) := cel hc2
   have g2_w1_17 : w2.cell? ⟨w1.heap.size, 17, none⟩ = some (.int .i64 P) := cel hc2
   clear hb2 hc2 hf2 A25 A23 A17
   go_wp2_with fail
   refine (HD2.out _ (Tab.below hT bel) (Tab.below hL bel) (Tab.below hF bel) (Tab.below hA bel) (Tab.below hG bel)).mono ?_
   rintro e w3 ⟨v3, p3, m3, q3, rfl, rfl, hb3⟩
   have hB3 : Below w.heap.size w w3 := bel
   obtain ⟨hc3, hf3⟩ := bcell hb3
   have hz3 := hb3.size
   try simp at hz3
   have hl3_w1 : w1.heap.size < w3.heap.size := by omega
   have hl3_w2 : w2.heap.size < w3.heap.size := by omega
   have g3_w1_25 : w3.cell? ⟨w1.heap.size, 25, none⟩ = some (.int .i64 S) := cel hc3
   have g3_w1_23 : w3.cell? ⟨w1.heap.size, 23, none⟩ = some (.int .i64 G) := cel hc3
   have g3_w1_17 : w3.cell? ⟨w1.heap.size, 17, none⟩ = some (.int .i64 P) := cel hc3
   have g3_w2_9 : w3.cell? ⟨w2.heap.size, 9, none⟩ = some (.int .i64 49) := cel hc3
   clear hb3 hc3 hf3 g2_w1_25 g2_w1_23 g2_w1_17
   go_wp2_with fail
   refine (HD3.out _ (Tab.below hT bel) (Tab.below hL bel) (Tab.below hF bel) (Tab.below hA bel) (Tab.below hG bel)).mono ?_
   rintro e w4 ⟨v4, p4, m4, q4, rfl, rfl, hb4⟩
   have hB4 : Below w.heap.size w w4 := bel
   obtain ⟨hc4, hf4⟩ := bcell hb4
   have hz4 := hb4.size
   try simp at hz4
   have hl4_w1 : w1.heap.size < w4.heap.size := by omega
   have hl4_w2 : w2.heap.size < w4.heap.size := by omega
   have hl4_w3 : w3.heap.size < w4.heap.size := by omega
   have g4_w1_25 : w4.cell? ⟨w1.heap.size, 25, none⟩ = some (.int .i64 S) := cel hc4
   have g4_w1_17 : w4.cell? ⟨w1.heap.size, 17, none⟩ = some (.int .i64 P) := cel hc4
   have g4_w2_9 : w4.cell? ⟨w2.heap.size, 9, none⟩ = some (.int .i64 49) := cel hc4
   have g4_w3_9 : w4.cell? ⟨w3.heap.size, 9, none⟩ = some (.int .i64 33) := cel hc4
   clear hb4 hc4 hf4 g3_w1_25 g3_w1_23 g3_w1_17 g3_w2_9
   go_wp2_with fail
   refine (HD4.out _ (Tab.below hT bel) (Tab.below hL bel) (Tab.below hF bel) (Tab.below hA bel) (Tab.below hG bel)).mono ?_
   rintro e w5 ⟨v5, p5, m5, q5, rfl, rfl, hb5⟩
   have hB5 : Below w.heap.size w w5 := bel
   obtain ⟨hc5, hf5⟩ := bcell hb5
   have hz5 := hb5.size
   try simp at hz5
   have hl5_w1 : w1.heap.size < w5.heap.size := by omega
   have hl5_w2 : w2.heap.size < w5.heap.size := by omega
   have hl5_w3 : w3.heap.size < w5.heap.size := by omega
   have hl5_w4 : w4.heap.size < w5.heap.size := by omega
   have g5_w1_25 : w5.cell? ⟨w1.heap.size, 25, none⟩ = some (.int .i64 S) := cel hc5
   have g5_w1_17 : w5.cell? ⟨w1.heap.size, 17, none⟩ = some (.int .i64 P) := cel hc5
   have g5_w2_9 : w5.cell? ⟨w2.heap.size, 9, none⟩ = some (.int .i64 49) := cel hc5
   have g5_w3_9 : w5.cell? ⟨w3.heap.size, 9, none⟩ = some (.int .i64 33) := cel hc5
   have g5_w4_9 : w5.cell? ⟨w4.heap.size, 9, none⟩ = some (.int .i64 1) := cel hc5
   clear hb5 hc5 hf5 g4_w1_25 g4_w1_17 g4_w2_9 g4_w3_9
   go_wp2_with fail
   refine (HW.out _ (Tab.below hT bel) (Tab.below hL bel) (Tab.below hG bel) (Tab.below hF bel) (Tab.below hP bel)).mono ?_
   rintro e w6 ⟨rfl, hb6⟩
   have hB6 : Below w.heap.size w w6 := bel
   obtain ⟨hc6, hf6⟩ := bcell hb6
   have hz6 := hb6.size
   try simp at hz6
   have hl6_w1 : w1.heap.size < w6.heap.size := by omega
   have hl6_w2 : w2.heap.size < w6.heap.size := by omega
   have hl6_w3 : w3.heap.size < w6.heap.size := by omega
   have hl6_w4 : w4.heap.size < w6.heap.size := by omega
   have hl6_w5 : w5.heap.size < w6.heap.size := by omega
   have g6_w1_25 : w6.cell? ⟨w1.heap.size, 25, none⟩ = some (.int .i64 S) := cel hc6
   have g6_w1_17 : w6.cell? ⟨w1.heap.size, 17, none⟩ = some (.int .i64 P) := cel hc6
   have g6_w2_9 : w6.cell? ⟨w2.heap.size, 9, none⟩ = some (.int .i64 49) := cel hc6
   have g6_w3_9 : w6.cell? ⟨w3.heap.size, 9, none⟩ = some (.int .i64 33) := cel hc6
   have g6_w4_9 : w6.cell? ⟨w4.heap.size, 9, none⟩ = some (.int .i64 1) := cel hc6
   have g6_w5_9 : w6.cell? ⟨w5.heap.size, 9, none⟩ = some (.int .i64 0) := cel hc6
   clear hb6 hc6 hf6 g5_w1_25 g5_w1_17 g5_w2_9 g5_w3_9 g5_w4_9
   go_wp2_with fail
   go_ret
   exact ⟨by first | rfl | (simp [*]; done), bel⟩
end Go.Proofs.YtankichdmlkfmaaGreatDoor
end
section
namespace Go.Proofs.YtankichdmlkfmaaGreatDoor
open Go.ChangeShapes Go.WideShapes Go.ChangeAt Go.RowKit Go.Lib Go.Sort Go.Shelf
namespace Dy
theorem om_all : ((List.range 14).all fun i => decide (atF (Fe.feastL i true) 25 = atF (Fe.feastL i true) 17 + 50 ∧ atF (Fe.feastL i true) 23 = atF (Fe.feastL i true) 17 + 33 ∧ Yr.okV i 7 false 15 = true ∧ atF (Fe.feastL i true) 17 = Yr.offV i 7 false 15 ∧ 0 ≤ Yr.offV i 7 false 15 ∧ Yr.offV i 7 false 15 + 60 ≤ Yr.lenV i) && (Fe.feastL i true).all fun x => decide (1 ≤ x.1 ∧ x.1 < 40)) = true := by decide +kernel
theorem find_all : ((List.range 14).all fun i => [17, 23, 25].all fun k => (Fe.feastL i true).any fun x => decide (x.1 = k)) = true := by decide +kernel
theorem atF_sh (F k : Int) : ∀ l : List (Int × Int), (l.any fun x => decide (x.1 = k)) = true → atF (l.map (Ev.sh F)) k = F + atF l k
 | [], h => by simp at h
 | x :: r, h => by
  unfold atF
  rw [List.map_cons, List.foldr_cons, List.foldr_cons]
  by_cases c : x.1 = k
  ·rw [if_pos (show (Ev.sh F x).1 = k from c), if_pos c]; rfl
  ·rw [if_neg (show ¬ (Ev.sh F x).1 = k from c), if_neg c]
   exact atF_sh F k r (by simpa [c] using h)
theorem in_year (y D : Int) (h1 : 1 ≤ y) (h2 : y ≤ 9999) (f1 : Cal.first y ≤ D) (f2 : D < Cal.first (y + 1)) : ∃ m d, D10.Valid y m d ∧ D = D10.dayOf y m d := by
 obtain ⟨m, d, m1, m2, d1, d2, e⟩ := D10.ahead_there y (D - Cal.first y + 1) h1 h2 (by omega) (by unfold Cal.long; omega)
 exact ⟨m, d, ⟨h1, h2, m1, m2, d1, d2⟩, by unfold D10.dayOf; omega⟩
end Dy
theorem WholeOmer_walk (y : Int) (hy : 0 ≤ y ∧ y ≤ 65535) (w : World) (hT : Tab w 7 kevCells) (hL : Tab w 6 lenCells) (hG : Tab w 4 Gr.gregCells) (hF : Tab w 2 Fe.cells) (hA : Tab w 3 Fa.cells) (hP : Tab w 5 powCells) :
  Calls Tryo.prog 6 #[.int .u16 y] w fun e w' => e = .returned (.bool true) ∧ Below w.heap.size w w' := by
 have k1 := Int.emod_nonneg y (show (9999 : Int) ≠ 0 by decide)
 have k2 := Int.emod_lt_of_pos y (show (0 : Int) < 9999 by decide)
 have y1 : 1 ≤ 1 + y % 9999 := by omega
 have y2 : 1 + y % 9999 ≤ 9999 := by omega
 generalize hk : 1 + y % 9999 = k at y1 y2
 obtain ⟨i, h⟩ := Yr.is_some k y1 y2
 have hi := h.2.2.1
 have hc := List.all_eq_true.1 Dy.om_all i (List.mem_range.2 hi)
 simp only [Bool.and_eq_true, decide_eq_true_eq] at hc
 obtain ⟨⟨c1, c2, c3, c4, c5, c6⟩, c7⟩ := hc
 have hfa := List.all_eq_true.1 Dy.find_all i (List.mem_range.2 hi)
 have s25 := Dy.atF_sh (Cal.first k) 25 _ (List.all_eq_true.1 hfa 25 (by simp))
 have s23 := Dy.atF_sh (Cal.first k) 23 _ (List.all_eq_true.1 hfa 23 (by simp))
 have s17 := Dy.atF_sh (Cal.first k) 17 _ (List.all_eq_true.1 hfa 17 (by simp))
 have hfb := Yr.first_bd h
 have hnf := Yr.next_first h
 have hom : Om.om k = Cal.first k + Yr.offV i 7 false 15 := (Yr.day_off h c3).2
 have hln := Dy.ev_at hi true
 have hlv := Sb.lenV_bd i hi
 have key : ∀ D : Int, Cal.first k ≤ D → D < Cal.first (k + 1) → ∃ f1 f2 f3 f4 f5 f6 f7 f8 f9 r1 r2 r3, Hid (∀ w : World, Tab w 7 kevCells → Tab w 6 lenCells → Tab w 2 Fe.cells → Tab w 3 Fa.cells → Tab w 4 Gr.gregCells → Calls Tryo.prog 30 #[.int .i64 D, .int .i64 1] w fun e w' => ∃ v p m c, v = .slice p m c ∧ e = .returned (.tuple #[.agg #[.int .i64 f1, .int .i64 f2, .int .i64 f3, .bool f4, .int .i64 f5, .int .i64 f6, .int .i64 f7, .int .i64 f8, .int .i64 f9, .int .i64 (Om.val (D - Om.om k)), v, .int .i64 r1, .int .i64 r2, .int .i64 r3], .int .i64 0]) ∧ Below w.heap.size w w') := by
  intro D d1 d2
  obtain ⟨m, d, hv, rfl⟩ := Dy.in_year k D y1 y2 d1 d2
  obtain ⟨r1, r2, r3, HS⟩ := day_at1 k m d i h hv
  exact ⟨_, _, _, _, _, _, _, _, _, r1, r2, r3, Lib.hid fun w hT hL hF hA hG => (HS.out w hT hL hF hA hG).mono (by rintro e w' ⟨v, rfl, hr, hb⟩; obtain ⟨p, c, rfl⟩ := hr.len; exact ⟨_, _, _, _, rfl, rfl, hb⟩)⟩
 obtain ⟨a1, a2, a3, a4, a5, a6, a7, a8, a9, q1, q2, q3, HD1⟩ := key (Om.om k + 50 - 1) (by omega) (by omega)
 obtain ⟨b1, b2, b3, b4, b5, b6, b7, b8, b9, o1, o2, o3, HD2⟩ := key (Om.om k + 33) (by omega) (by omega)
 obtain ⟨e1, e2, e3, e4, e5, e6, e7, e8, e9, t1, t2, t3, HD3⟩ := key (Om.om k + 1) (by omega) (by omega)
 obtain ⟨d1, d2, d3, d4, d5, d6, d7, d8, d9, u1, u2, u3, HD4⟩ := key (Om.om k) (by omega) (by omega)
 rw [show Om.val (Om.om k + 50 - 1 - Om.om k) = 49 by rw [show Om.om k + 50 - 1 - Om.om k = 49 by omega]; rfl] at HD1
 rw [show Om.val (Om.om k + 33 - Om.om k) = 33 by rw [show Om.om k + 33 - Om.om k = 33 by omega]; rfl] at HD2
 rw [show Om.val (Om.om k + 1 - Om.om k) = 1 by rw [show Om.om k + 1 - Om.om k = 1 by omega]; rfl] at HD3
 rw [show Om.val (Om.om k - Om.om k) = 0 by rw [show Om.om k - Om.om k = 0 by omega]; rfl] at HD4
 refine WholeOmer_go y (Om.om k + 50) (Om.om k + 33) (Om.om k) ((Fe.feastL i true).map (Ev.sh (Cal.first k))) _ a1 a2 a3 a4 a5 a6 a7 a8 a9 q1 q2 q3 b1 b2 b3 b4 b5 b6 b7 b8 b9 o1 o2 o3 e1 e2 e3 e4 e5 e6 e7 e8 e9 t1 t2 t3 d1 d2 d3 d4 d5 d6 d7 d8 d9 u1 u2 u3 w hy rfl (by rw [List.length_map]; exact hln.2.1) hT hL hF hA hG hP ?_ ?_ (Lib.hid (by rw [s25]; omega)) (Lib.hid (by rw [s23]; omega)) (Lib.hid (by rw [s17]; omega)) (by omega) (by omega) (by omega) HD1 HD2 HD3 HD4
 ·rw [hk]
  exact Lib.hid fun w hT hL hF => feast_Of_at k i true w h hT hL hF
 ·refine Lib.hid fun j kd d hj => ?_
  rw [List.getElem?_map] at hj
  obtain ⟨x, hx, hxe⟩ := Option.map_eq_some_iff.1 hj
  have h9 := of_decide_eq_true (List.all_eq_true.1 c7 x (List.mem_of_getElem? hx))
  have e9 : x.1 = kd := congrArg Prod.fst hxe
  exact ⟨kd.toNat, by omega, by omega, by omega⟩
end Go.Proofs.YtankichdmlkfmaaGreatDoor
end
