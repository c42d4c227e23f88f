/- Lists of events in memory; their order by the library. -/
import Derived.Test.YtbmcpeccofadhaaDoorEv
import Derived.Test.YtbmcpeccofadhaaDoorReg
import Derived.Test.YtbmcpeccofadhaaDoorOwn
import Derived.Test.YtbmcpeccofadhaaDoorLib
import Derived.Lib.OwnBridge
import Derived.Shelf.SlicesE.Clone
namespace Go.Proofs.YtbmcpeccofadhaaDoor
open Go.ChangeShapes Go.WideShapes Go.ChangeAt Go.RowKit Go.Lib Go.Sort Go.Shelf
set_option linter.unusedVariables false
set_option maxRecDepth 100000
theorem A_infoEvent : (Tryd.prog.info? 30).map (fun i => (i.zero, i.size, i.bytes)) = some (some (.agg #[.int .i64 0, .int .i64 0]), 2, 16) := by kernel_rfl
namespace Ev
/-- A slice of the call's own that holds these events. -/
def Own (w : World) (B : Nat) (v : Value) (l : List (Int × Int)) : Prop := w.ownsRow B 30 2 v l.length (flat l)
/-- A slice that holds these events, wherever it lies. -/
def Row (w : World) (v : Value) (l : List (Int × Int)) : Prop := (v = .slice none 0 0 ∧ l = []) ∨ ∃ b off cap, v = .slice (some ⟨b, off, none⟩) l.length cap ∧ ∀ j u, (flat l)[j]? = some u → w.cell? ⟨b, off + j, none⟩ = some u
theorem Own.nil (w : World) (B : Nat) : Own w B (.slice none 0 0) [] := World.ownsRow_nil w B _ _
theorem Own.row {w : World} {B : Nat} {v : Value} {l : List (Int × Int)} (h : Own w B v l) : Row w v l := by
  rcases h.2 with ⟨rfl, h0⟩ | ⟨g, cap, cur, rfl, hb, hg, hn, hm, hs, ht⟩
  · exact .inl ⟨rfl, List.eq_nil_of_length_eq_zero h0⟩
  · refine .inr ⟨g, 0, cap, rfl, fun j u hj => ?_⟩
    have := World.ownsRow.cells h rfl j u hj
    rwa [Addr.add_lit] at this
theorem Row.below {w w' : World} {v : Value} {l : List (Int × Int)} (h : Row w v l) (hb : Below w.heap.size w w') : Row w' v l := by
  rcases h with h | ⟨b, off, cap, rfl, hc⟩
  · exact .inl h
  · exact .inr ⟨b, off, cap, rfl, fun j u hj => (hb.cell (World.block_lt_of_cell? w _ (hc j u hj))).trans (hc j u hj)⟩
theorem grown_of {w w' : World} (hb : Below w.heap.size w w') : w.grownBy w' none := ⟨hb.os, hb.tape, hb.output, hb.size, fun k hk _ => hb.block k hk⟩
theorem Own.below {w w' : World} {B : Nat} {v : Value} {l : List (Int × Int)} (h : Own w B v l) (hb : Below w.heap.size w w') : Own w' B v l :=
  h.kept (grown_of hb) (by cases v.ownBlock <;> simp)
theorem Own.base {w : World} {B B' : Nat} {v : Value} {l : List (Int × Int)} (h : Own w B v l) (hB : B' ≤ B) : Own w B' v l := ⟨h.1, h.2.imp id fun ⟨g, cap, cur, e, hb, r⟩ => ⟨g, cap, cur, e, Nat.le_trans hB hb, r⟩⟩
theorem cells_at {w : World} {b off : Nat} {l : List (Int × Int)} (h : ∀ j u, (flat l)[j]? = some u → w.cell? ⟨b, off + j, none⟩ = some u) (i : Nat) (x : Int × Int) (hx : l[i]? = some x) :
    w.cell? ⟨b, off + i * 2, none⟩ = some (.int .i64 x.1) ∧ w.cell? ⟨b, off + i * 2 + 1, none⟩ = some (.int .i64 x.2) := by
  obtain ⟨h1, h2⟩ := flat_get l i x hx
  rw [Nat.mul_comm 2 i] at h1 h2
  exact ⟨h _ _ h1, by rw [Nat.add_assoc]; exact h _ _ h2⟩
/-- What a slice of these looks like. -/
theorem Row.len {w : World} {v : Value} {l : List (Int × Int)} (h : Row w v l) : ∃ p cap, v = .slice p l.length cap := by
  rcases h with ⟨rfl, rfl⟩ | ⟨b, off, cap, rfl, _⟩
  · exact ⟨_, _, rfl⟩
  · exact ⟨_, _, rfl⟩
theorem Row.at_some {w : World} {v : Value} {l : List (Int × Int)} (h : Row w v l) (h0 : 0 < l.length) : ∃ b off cap, v = .slice (some ⟨b, off, none⟩) l.length cap ∧ ∀ j u, (flat l)[j]? = some u → w.cell? ⟨b, off + j, none⟩ = some u := by
  rcases h with ⟨_, rfl⟩ | h
  · simp at h0
  · exact h
theorem flatK_flat (l : List (Int × Int)) : flatK enc 2 l.toArray = (flat l).toArray := by
  refine ext_get! (by simp [flat_len]) fun t ht => ?_
  have ht' : t < l.toArray.size * 2 := by simpa using ht
  rw [get_flatK _ _ _ t ht']
  have hi : t / 2 < l.length := by simp at ht'; omega
  obtain ⟨h1, h2⟩ := flat_get l (t / 2) l[t / 2] (List.getElem?_eq_getElem hi)
  have e : l.toArray[t / 2]! = l[t / 2] := by simp [hi]
  rw [e]
  rcases Nat.mod_two_eq_zero_or_one t with c | c
  · rw [c]
    rw [show 2 * (t / 2) = t by omega] at h1
    have hl := (List.getElem?_eq_some_iff.1 h1).1
    rw [getElem!_pos (flat l).toArray t (by simpa using hl)]
    have := (List.getElem?_eq_some_iff.1 h1).2
    simp only [List.getElem_toArray]
    rw [this]
    rfl
  · rw [c]
    rw [show 2 * (t / 2) + 1 = t by omega] at h2
    have hl := (List.getElem?_eq_some_iff.1 h2).1
    rw [getElem!_pos (flat l).toArray t (by simpa using hl)]
    have := (List.getElem?_eq_some_iff.1 h2).2
    simp only [List.getElem_toArray]
    rw [this]
    rfl
/-- A slice of the call's own that is not nil: where it lies. -/
theorem Own.form {w : World} {B : Nat} {v : Value} {l : List (Int × Int)} (h : Own w B v l) (hv : v ≠ .slice none 0 0) :
    ∃ g cap, v = .slice (some ⟨g, 0, none⟩) l.length cap ∧ B ≤ g ∧ g < w.heap.size ∧ HoldsK enc 2 w g 0 l.toArray := by
  have h' := h
  rcases h.2 with ⟨e, _⟩ | ⟨g, cap, cur, rfl, hb, hg, hn, hm, hs, ht⟩
  · exact absurd e hv
  · refine ⟨g, cap, rfl, hb, (Array.getElem?_eq_some_iff.1 hg).1, ?_⟩
    unfold HoldsK
    rw [flatK_flat]
    intro j hj
    have hj' : j < (flat l).length := by simpa using hj
    refine ⟨?_, ?_⟩
    · have := World.ownsRow.cells h' rfl j _ (List.getElem?_eq_getElem hj')
      rw [Addr.add_lit] at this
      rw [this]
      simp [hj']
    · rw [Nat.zero_add]; exact World.ownsRow.frozenAt h' j
theorem own_put {w : World} {B g cap n : Nat} {l ys : List (Int × Int)} {os : Array Obj} (h : Own w B (.slice (some ⟨g, 0, none⟩) l.length cap) l) (hy : ys.length = l.length) :
    Own (sortWorldK enc 2 w g 0 n ys.toArray os) B (.slice (some ⟨g, 0, none⟩) l.length cap) ys := by
  rcases h.2 with ⟨e0, _⟩ | ⟨g', cap', cur, e0, hb, hg, hn, hm, hs, ht⟩
  · cases e0
  · injection e0 with e1 _ e3
    injection e1 with e1
    injection e1 with e1
    subst e1; subst e3
    have hlt : g < w.heap.size := (Array.getElem?_eq_some_iff.1 hg).1
    have hF : (flat ys).length = l.length * 2 := by rw [flat_len, hy]
    refine ⟨by rw [hy]; exact hF, .inr ⟨g, cap, putCells id 0 (flat ys).toArray cur, by rw [hy], hb, ?_, by rw [hy]; exact hn, hm, by simpa [putCells] using hs, ?_⟩⟩
    · unfold sortWorldK putRowK
      rw [flatK_flat, heap_grow_old _ _ (by simpa using hlt)]
      simp [putRow, mapBlock, Sort.ahead, Array.getElem?_modify, hg, onCells]
    · rw [hy]
      apply List.ext_getElem?
      intro j
      rw [List.getElem?_take, Array.getElem?_toList]
      by_cases hj : j < l.length * 2
      · have hjc : j < cur.size := by rw [hs]; omega
        have hjF : j < (flat ys).length := by omega
        simp only [if_pos hj, putCells, Array.getElem?_mapIdx, Array.getElem?_eq_getElem hjc, Option.map_some]
        rw [if_pos (by simp; omega), List.getElem?_eq_getElem hjF]
        simp [hjF]
      · rw [if_neg hj, List.getElem?_eq_none (by omega)]
theorem below_put {w w1 : World} {g n : Nat} {ys : Array (Int × Int)} {os : Array Obj} (hB : Below w.heap.size w w1) (hg : w.heap.size ≤ g) : Below w.heap.size w (sortWorldK enc 2 w1 g 0 n ys os) := by
  have h1 : Below w.heap.size w (putRowK enc 2 (Sort.ahead w1 n) g 0 ys) := Lib.below_putRow hB hg
  refine ⟨h1.os, h1.tape, h1.output, Nat.le_trans h1.size (by simp [sortWorldK, grow]), fun k hk => ?_⟩
  rw [← h1.block k hk]
  exact heap_grow_old _ _ (Nat.lt_of_lt_of_le hk h1.size)
theorem enc_one : ∀ x : Int × Int, ∀ v ∈ enc x, v.oneCell' = true := by
  intro x v hv
  simp [enc] at hv
  rcases hv with rfl | rfl <;> rfl
end Ev
set_option maxHeartbeats 2000000 in
theorem feast_compare_ne (a b c d r : Int) (W : World) (HC : Hid (∀ W : World, Calls Tryd.prog 76 #[.int .i64 b, .int .i64 d] W fun e w' => e = .returned (.int .i64 r) ∧ w' = W)) (h : (r != 0) = true) :
    Calls Tryd.prog 48 #[.agg #[.int .i64 a, .int .i64 b], .agg #[.int .i64 c, .int .i64 d]] W fun e w' => e = .returned (.int .i64 r) ∧ ∃ q os', w' = grow (W.drewN q) os' := by
  go_enter Tryd.func48, Tryd.ntmps48
  go_wp2_with fail
  refine (HC.out _).mono ?_
  rintro e w' ⟨rfl, rfl⟩
  go_wp2_with fail
  go_ret
  exact ⟨rfl, 0, _, by rw [alloc_eq_grow, alloc_eq_grow, grow_grow]; rfl⟩
set_option maxHeartbeats 2000000 in
theorem feast_compare_eq (a b c d r : Int) (W : World) (HC : Hid (∀ W : World, Calls Tryd.prog 76 #[.int .i64 b, .int .i64 d] W fun e w' => e = .returned (.int .i64 0) ∧ w' = W)) (HK : Hid (∀ W : World, Calls Tryd.prog 76 #[.int .i64 a, .int .i64 c] W fun e w' => e = .returned (.int .i64 r) ∧ w' = W)) :
    Calls Tryd.prog 48 #[.agg #[.int .i64 a, .int .i64 b], .agg #[.int .i64 c, .int .i64 d]] W fun e w' => e = .returned (.int .i64 r) ∧ ∃ q os', w' = grow (W.drewN q) os' := by
  go_enter Tryd.func48, Tryd.ntmps48
  go_wp2_with fail
  refine (HC.out _).mono ?_
  rintro e w' ⟨rfl, rfl⟩
  go_wp2_with fail
  refine (HK.out _).mono ?_
  rintro e w' ⟨rfl, rfl⟩
  go_wp2_with fail
  go_ret
  exact ⟨rfl, 0, _, by rw [alloc_eq_grow, alloc_eq_grow, grow_grow]; rfl⟩
theorem feast_compare (x y : Int × Int) (W : World) : Calls Tryd.prog 48 #[.agg #[.int .i64 x.1, .int .i64 x.2], .agg #[.int .i64 y.1, .int .i64 y.2]] W fun e w' => e = .returned (.int .i64 (Ev.cf x y)) ∧ ∃ q os', w' = grow (W.drewN q) os' := by
  obtain ⟨a, b⟩ := x
  obtain ⟨c, d⟩ := y
  have hc := fun (p q : Int) => Lib.hid (fun W : World => Tryd.cmp_Compare_int p q W)
  unfold Ev.cf
  dsimp only
  have H1 := hc b d
  have H2 := hc a c
  clear hc
  generalize Lib.compareInt a c = r2 at *
  by_cases h : Lib.compareInt b d = 0
  · rw [if_pos h]
    rw [h] at H1
    exact feast_compare_eq a b c d r2 W H1 H2
  · rw [if_neg h]
    exact feast_compare_ne a b c d _ W H1 (by simpa using h)
theorem feast_cmpLays (blk off size : Nat) (w : World) : CmpLays Tryd.prog 48 #[] Ev.enc 2 Ev.cf blk off size w :=
  fun _ _ _ _ x y => feast_compare x y _
set_option maxHeartbeats 4000000 in
theorem feast_Sort (v : Value) (l : List (Int × Int)) (w : World) (h : Ev.Row w v l) (hl : l.length ≤ 100000) :
    Calls Tryd.prog 24 #[v] w fun e w' => ∃ v', e = .returned v' ∧ Ev.Own w' w.heap.size v' (Ev.sort l) ∧ Below w.heap.size w w' := by
  rcases h with ⟨rfl, rfl⟩ | ⟨b, off, cap, rfl, hc⟩
  · have h1 : ∀ W : World, Calls Tryd.prog 46 #[.slice none 0 0] W fun e w' => e = .returned (.slice none 0 0) ∧ w' = W := fun W => AnyE.slices_Clone_nil Tryd.layClone 0 0 W
    have h2 : ∀ W : World, Calls Tryd.prog 47 #[.slice none 0 0, .func (.func 48) #[] #[]] W fun e w' => e = .returned (.tuple #[]) ∧ w' = W := fun W => AnyF.slices_SortFunc_none Tryd.laySort none 0 (.func (.func 48) #[] #[]) W
    have H1 := Lib.hid h1
    have H2 := Lib.hid h2
    clear h1 h2
    go_enter Tryd.func24, Tryd.ntmps24
    go_wp2_with fail
    refine (H1.out _).mono ?_
    rintro e w' ⟨rfl, rfl⟩
    go_wp2_with fail
    refine (H2.out _).mono ?_
    rintro e w' ⟨rfl, rfl⟩
    go_wp2_with fail
    go_ret
    exact ⟨_, rfl, Ev.Own.nil _ _, Below.refl _ _⟩
  · obtain ⟨i0, hi, hz0, hz1, hz2⟩ := info_parts A_infoEvent
    have h1 : Calls Tryd.prog 46 #[.slice (some ⟨b, off, none⟩) l.length cap] w fun e w' => ∃ v', e = .returned v' ∧ w'.ownsRow w.heap.size 30 2 v' l.length (Ev.flat l) ∧ v' ≠ .slice none 0 0 ∧ Below w.heap.size w w' :=
      AnyE.slices_Clone Tryd.layClone i0 (.agg #[.int .i64 0, .int .i64 0]) 2 16 hi hz0 hz1 hz2 rfl (by decide) Tryd.sizeOf30 b off l.length cap (Ev.flat l) w (Ev.flat_len l) (by simp only [maxLen]; omega) (by omega) hc (Ev.flat_one l)
    have h2 : ∀ (v1 : Value) (w1 : World), Ev.Own w1 w.heap.size v1 l → v1 ≠ .slice none 0 0 → Below w.heap.size w w1 → Calls Tryd.prog 47 #[v1, .func (.func 48) #[] #[]] w1 fun e w' => e = .returned (.tuple #[]) ∧ Ev.Own w' w.heap.size v1 (Ev.sort l) ∧ Below w.heap.size w w' := by
      intro v1 w1 ho hv hB
      obtain ⟨g, cap1, rfl, hg1, hg2, hH⟩ := ho.form hv
      have h3 : Calls Tryd.prog 47 #[.slice (some ⟨g, 0, none⟩) l.toArray.size cap1, .func (.func 48) #[] #[]] w1 fun e w' => e = .returned (.tuple #[]) ∧ ∃ n os, w' = sortWorldK Ev.enc 2 w1 g 0 n (l.toArray.toList.mergeSort fun x y => !(ltOf Ev.cf) y x).toArray os :=
        AnyQ.slices_SortFunc_total Tryd.laySort 2 Tryd.isAgg30 Tryd.sizeOf30 Ev.enc (fun _ => rfl) Ev.enc_one Ev.cf Ev.swo 48 #[] g 0 cap1 l.toArray w1 (enters_of Tryd.func48 (by kernel_rfl) rfl) (feast_cmpLays g 0 _ w1) hH hg2 (by simp; omega) Ev.tot
      rw [List.size_toArray] at h3
      refine h3.mono ?_
      rintro e w' ⟨he, n, os, rfl⟩
      rw [show l.toArray.toList = l from rfl, Ev.sort_lib]
      exact ⟨he, Ev.own_put ho (Ev.sort_perm l).length_eq, Ev.below_put hB hg1⟩
    have H1 := Lib.hid h1
    have H2 := Lib.hid h2
    clear h1 h2 hc hi hz0 hz1 hz2
    go_enter Tryd.func24, Tryd.ntmps24
    go_wp2_with fail
    refine H1.out.mono ?_
    rintro e w1 ⟨v1, rfl, ho, hne, hB1⟩
    go_wp2_with fail
    refine (H2.out _ _ ho hne hB1).mono ?_
    rintro e w2 ⟨rfl, ho2, hB2⟩
    go_wp2_with fail
    go_ret
    exact ⟨_, rfl, ho2, hB2⟩
end Go.Proofs.YtbmcpeccofadhaaDoor
