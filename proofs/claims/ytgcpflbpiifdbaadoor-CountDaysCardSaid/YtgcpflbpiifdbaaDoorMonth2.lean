/- Layer 8: the document's months of a type. -/
import Derived.Test.YtgcpflbpiifdbaaDoorMonth
import Derived.Test.YtgcpflbpiifdbaaDoorOwn
import Derived.Deep.AppendLies
import Derived.OwnWalk
namespace Go.Proofs.YtgcpflbpiifdbaaDoor
open Go.ChangeShapes Go.WideShapes Go.ChangeAt Go.RowKit
set_option linter.unusedVariables false
set_option maxRecDepth 100000
theorem ints_of_own {w : World} {B g cap n e : Nat} {xs : List Int} {ys : List Value} (h : w.ownsRow B e 1 (.slice (some ⟨g, 0, none⟩) n cap) n ys) (hy : ys = xs.map (Value.int .i64)) (hn : n = xs.length) : Ints w B (.slice (some ⟨g, 0, none⟩) n cap) xs := by
  subst hy hn
  have hc := fun j hj => h.cellAt (g := g) (cap := cap) j hj
  obtain ⟨_, h2⟩ := h
  rcases h2 with ⟨h, _⟩ | ⟨g', cap', cur, hv, h1, h2, h3, h4, h5, h6⟩
  · cases h
  · simp only [Value.slice.injEq, Option.some.injEq, Addr.mk.injEq, and_true, true_and] at hv
    obtain ⟨rfl, rfl⟩ := hv
    refine ⟨_, _, rfl, h3, h1, (Array.getElem?_eq_some_iff.1 h2).1, fun j x hj => ?_⟩
    rw [hc j (by have := (List.getElem?_eq_some_iff.1 hj).1; omega), List.getElem?_map, hj]
    rfl
theorem A_info3 : (Tryd.prog.info? 3).map (fun i => (i.zero, i.size, i.bytes)) = some (some (.int .i64 0), 1, 8) := by kernel_rfl
theorem ints_one (l : List Int) : ∀ u ∈ l.map (Value.int .i64), u.oneCell' = true := by
  intro u hu
  obtain ⟨x, _, rfl⟩ := List.mem_map.1 hu
  rfl
set_option maxHeartbeats 1000000 in
theorem ref8_lengths_0f (b : Int) (w : World) :
    Calls Tryd.prog 34 #[.agg #[.int .i64 b, .int .i64 0, .bool false]] w fun e w' => ∃ v, e = .returned v ∧ Ints w' w.heap.size v [30, 29, 29, 29, 30, 29, 30, 29, 30, 29, 30, 29] ∧ Below w.heap.size w w' := by
  obtain ⟨i0, hi, hz0, hz1, hz2⟩ := info_parts A_info3
  go_enter Tryd.func34, Tryd.ntmps34
  go_wp2_with ((at_builtin; refine wpList_append_lies _ rfl (.tmp 20) (.tmp 21) _ rfl w.heap.size 3 i0 (.int .i64 0) 1 8 Tryd.underlying67 hi hz0 hz1 hz2 rfl (by decide) _ 5 ([.int .i64 30, .int .i64 29, .int .i64 29, .int .i64 29, .int .i64 30]) rfl ((own_lit_at (w.alloc _) #[.int .i64 30, .int .i64 29, .int .i64 29, .int .i64 29, .int .i64 30] _ 5 (w.heap.size + 1) w.heap.size (by simp) (by omega) (by decide) rfl).alloc _) ⟨w.heap.size + 2, 0, none⟩ 7 7 [.int .i64 29, .int .i64 30, .int .i64 29, .int .i64 30, .int .i64 29, .int .i64 30, .int .i64 29] rfl rfl (news_at _ #[.int .i64 29, .int .i64 30, .int .i64 29, .int .i64 30, .int .i64 29, .int .i64 30, .int .i64 29] _ _ (by simp)) (ints_one [29, 30, 29, 30, 29, 30, 29]) (by decide) (by simp [maxLen]) (by decide) (by simp; omega) _ rfl ?_; intro g1 cap1 w1 hown1 hgrow1 hat1 hlt1))
  go_ret
  refine ⟨_, rfl, ints_of_own hown1 rfl rfl, bgrown ?_ hgrow1 (fun k hk => by have h : w.heap.size + 1 = k := own_blk hk; omega)⟩
  repeat (first | exact Below.refl _ _ | assumption | (with_reducible refine bdrew ?_) | (with_reducible refine baa ?_ _) | (with_reducible refine bs ?_ (by first | exact Nat.le_refl _ | omega | (simp; omega)) _) | (with_reducible refine bt ?_ (by assumption)))
set_option maxHeartbeats 1000000 in
theorem ref8_lengths_2f (b : Int) (w : World) :
    Calls Tryd.prog 34 #[.agg #[.int .i64 b, .int .i64 2, .bool false]] w fun e w' => ∃ v, e = .returned v ∧ Ints w' w.heap.size v [30, 30, 30, 29, 30, 29, 30, 29, 30, 29, 30, 29] ∧ Below w.heap.size w w' := by
  obtain ⟨i0, hi, hz0, hz1, hz2⟩ := info_parts A_info3
  go_enter Tryd.func34, Tryd.ntmps34
  go_wp2_with ((at_builtin; refine wpList_append_lies _ rfl (.tmp 20) (.tmp 21) _ rfl w.heap.size 3 i0 (.int .i64 0) 1 8 Tryd.underlying67 hi hz0 hz1 hz2 rfl (by decide) _ 5 ([.int .i64 30, .int .i64 30, .int .i64 30, .int .i64 29, .int .i64 30]) rfl ((own_lit_at (w.alloc _) #[.int .i64 30, .int .i64 30, .int .i64 30, .int .i64 29, .int .i64 30] _ 5 (w.heap.size + 1) w.heap.size (by simp) (by omega) (by decide) rfl).alloc _) ⟨w.heap.size + 2, 0, none⟩ 7 7 [.int .i64 29, .int .i64 30, .int .i64 29, .int .i64 30, .int .i64 29, .int .i64 30, .int .i64 29] rfl rfl (news_at _ #[.int .i64 29, .int .i64 30, .int .i64 29, .int .i64 30, .int .i64 29, .int .i64 30, .int .i64 29] _ _ (by simp)) (ints_one [29, 30, 29, 30, 29, 30, 29]) (by decide) (by simp [maxLen]) (by decide) (by simp; omega) _ rfl ?_; intro g1 cap1 w1 hown1 hgrow1 hat1 hlt1))
  go_ret
  refine ⟨_, rfl, ints_of_own hown1 rfl rfl, bgrown ?_ hgrow1 (fun k hk => by have h : w.heap.size + 1 = k := own_blk hk; omega)⟩
  repeat (first | exact Below.refl _ _ | assumption | (with_reducible refine bdrew ?_) | (with_reducible refine baa ?_ _) | (with_reducible refine bs ?_ (by first | exact Nat.le_refl _ | omega | (simp; omega)) _) | (with_reducible refine bt ?_ (by assumption)))
set_option maxHeartbeats 1000000 in
theorem ref8_lengths_xf (b k : Int) (w : World) (h0 : ¬ k = 0) (h2 : ¬ k = 2) :
    Calls Tryd.prog 34 #[.agg #[.int .i64 b, .int .i64 k, .bool false]] w fun e w' => ∃ v, e = .returned v ∧ Ints w' w.heap.size v [30, 29, 30, 29, 30, 29, 30, 29, 30, 29, 30, 29] ∧ Below w.heap.size w w' := by
  obtain ⟨i0, hi, hz0, hz1, hz2⟩ := info_parts A_info3
  have q0 : (k == 0) = false := by simpa using h0
  have q2 : (k == 2) = false := by simpa using h2
  clear h0 h2
  go_enter Tryd.func34, Tryd.ntmps34
  go_wp2_with ((at_builtin; refine wpList_append_lies _ rfl (.tmp 20) (.tmp 21) _ rfl w.heap.size 3 i0 (.int .i64 0) 1 8 Tryd.underlying67 hi hz0 hz1 hz2 rfl (by decide) _ 5 ([.int .i64 30, .int .i64 29, .int .i64 30, .int .i64 29, .int .i64 30]) rfl ((own_lit_at (w.alloc _) #[.int .i64 30, .int .i64 29, .int .i64 30, .int .i64 29, .int .i64 30] _ 5 (w.heap.size + 1) w.heap.size (by simp) (by omega) (by decide) rfl).alloc _) ⟨w.heap.size + 2, 0, none⟩ 7 7 [.int .i64 29, .int .i64 30, .int .i64 29, .int .i64 30, .int .i64 29, .int .i64 30, .int .i64 29] rfl rfl (news_at _ #[.int .i64 29, .int .i64 30, .int .i64 29, .int .i64 30, .int .i64 29, .int .i64 30, .int .i64 29] _ _ (by simp)) (ints_one [29, 30, 29, 30, 29, 30, 29]) (by decide) (by simp [maxLen]) (by decide) (by simp; omega) _ rfl ?_; intro g1 cap1 w1 hown1 hgrow1 hat1 hlt1))
  go_ret
  refine ⟨_, rfl, ints_of_own hown1 rfl rfl, bgrown ?_ hgrow1 (fun k hk => by have h : w.heap.size + 1 = k := own_blk hk; omega)⟩
  repeat (first | exact Below.refl _ _ | assumption | (with_reducible refine bdrew ?_) | (with_reducible refine baa ?_ _) | (with_reducible refine bs ?_ (by first | exact Nat.le_refl _ | omega | (simp; omega)) _) | (with_reducible refine bt ?_ (by assumption)))
set_option maxHeartbeats 1000000 in
theorem ref8_lengths_0t (b : Int) (w : World) :
    Calls Tryd.prog 34 #[.agg #[.int .i64 b, .int .i64 0, .bool true]] w fun e w' => ∃ v, e = .returned v ∧ Ints w' w.heap.size v [30, 29, 29, 29, 30, 30, 29, 30, 29, 30, 29, 30, 29] ∧ Below w.heap.size w w' := by
  obtain ⟨i0, hi, hz0, hz1, hz2⟩ := info_parts A_info3
  go_enter Tryd.func34, Tryd.ntmps34
  go_wp2_with (first | (at_builtin; refine wpList_append_lies _ rfl (.tmp 17) (.tmp 18) _ rfl w.heap.size 3 i0 (.int .i64 0) 1 8 Tryd.underlying67 hi hz0 hz1 hz2 rfl (by decide) _ 5 ([.int .i64 30, .int .i64 29, .int .i64 29, .int .i64 29, .int .i64 30]) rfl ((own_lit_at (w.alloc _) #[.int .i64 30, .int .i64 29, .int .i64 29, .int .i64 29, .int .i64 30] _ 5 (w.heap.size + 1) w.heap.size (by simp) (by omega) (by decide) rfl).alloc _) ⟨w.heap.size + 2, 0, none⟩ 1 1 [.int .i64 30] rfl rfl (news_at _ #[.int .i64 30] _ _ (by simp)) (ints_one [30]) (by decide) (by simp [maxLen]) (by decide) (by simp; omega) _ rfl ?_; intro g1 cap1 w1 hown1 hgrow1 hat1 hlt1) | (at_builtin; refine wpList_append_lies _ rfl (.tmp 20) (.tmp 21) _ rfl w.heap.size 3 i0 (.int .i64 0) 1 8 Tryd.underlying67 hi hz0 hz1 hz2 rfl (by decide) _ 6 ([.int .i64 30, .int .i64 29, .int .i64 29, .int .i64 29, .int .i64 30] ++ [.int .i64 30]) rfl (hown1.alloc _) ⟨w1.heap.size, 0, none⟩ 7 7 [.int .i64 29, .int .i64 30, .int .i64 29, .int .i64 30, .int .i64 29, .int .i64 30, .int .i64 29] rfl rfl (news_at _ #[.int .i64 29, .int .i64 30, .int .i64 29, .int .i64 30, .int .i64 29, .int .i64 30, .int .i64 29] _ _ rfl) (ints_one [29, 30, 29, 30, 29, 30, 29]) (by decide) (by simp [maxLen]) (by decide) (by have := hgrow1.size; simp at this ⊢; omega) _ rfl ?_; intro g2 cap2 w2 hown2 hgrow2 hat2 hlt2))
  go_ret
  refine ⟨_, rfl, ints_of_own hown2 rfl rfl, bgrown (baa (bgrown ?_ hgrow1 (fun k hk => by have h : w.heap.size + 1 = k := own_blk hk; omega)) _) hgrow2 (fun k hk => (hown1.lt k hk).1)⟩
  repeat (first | exact Below.refl _ _ | assumption | (with_reducible refine bdrew ?_) | (with_reducible refine baa ?_ _) | (with_reducible refine bs ?_ (by first | exact Nat.le_refl _ | omega | (simp; omega)) _) | (with_reducible refine bt ?_ (by assumption)))
set_option maxHeartbeats 1000000 in
theorem ref8_lengths_2t (b : Int) (w : World) :
    Calls Tryd.prog 34 #[.agg #[.int .i64 b, .int .i64 2, .bool true]] w fun e w' => ∃ v, e = .returned v ∧ Ints w' w.heap.size v [30, 30, 30, 29, 30, 30, 29, 30, 29, 30, 29, 30, 29] ∧ Below w.heap.size w w' := by
  obtain ⟨i0, hi, hz0, hz1, hz2⟩ := info_parts A_info3
  go_enter Tryd.func34, Tryd.ntmps34
  go_wp2_with (first | (at_builtin; refine wpList_append_lies _ rfl (.tmp 17) (.tmp 18) _ rfl w.heap.size 3 i0 (.int .i64 0) 1 8 Tryd.underlying67 hi hz0 hz1 hz2 rfl (by decide) _ 5 ([.int .i64 30, .int .i64 30, .int .i64 30, .int .i64 29, .int .i64 30]) rfl ((own_lit_at (w.alloc _) #[.int .i64 30, .int .i64 30, .int .i64 30, .int .i64 29, .int .i64 30] _ 5 (w.heap.size + 1) w.heap.size (by simp) (by omega) (by decide) rfl).alloc _) ⟨w.heap.size + 2, 0, none⟩ 1 1 [.int .i64 30] rfl rfl (news_at _ #[.int .i64 30] _ _ (by simp)) (ints_one [30]) (by decide) (by simp [maxLen]) (by decide) (by simp; omega) _ rfl ?_; intro g1 cap1 w1 hown1 hgrow1 hat1 hlt1) | (at_builtin; refine wpList_append_lies _ rfl (.tmp 20) (.tmp 21) _ rfl w.heap.size 3 i0 (.int .i64 0) 1 8 Tryd.underlying67 hi hz0 hz1 hz2 rfl (by decide) _ 6 ([.int .i64 30, .int .i64 30, .int .i64 30, .int .i64 29, .int .i64 30] ++ [.int .i64 30]) rfl (hown1.alloc _) ⟨w1.heap.size, 0, none⟩ 7 7 [.int .i64 29, .int .i64 30, .int .i64 29, .int .i64 30, .int .i64 29, .int .i64 30, .int .i64 29] rfl rfl (news_at _ #[.int .i64 29, .int .i64 30, .int .i64 29, .int .i64 30, .int .i64 29, .int .i64 30, .int .i64 29] _ _ rfl) (ints_one [29, 30, 29, 30, 29, 30, 29]) (by decide) (by simp [maxLen]) (by decide) (by have := hgrow1.size; simp at this ⊢; omega) _ rfl ?_; intro g2 cap2 w2 hown2 hgrow2 hat2 hlt2))
  go_ret
  refine ⟨_, rfl, ints_of_own hown2 rfl rfl, bgrown (baa (bgrown ?_ hgrow1 (fun k hk => by have h : w.heap.size + 1 = k := own_blk hk; omega)) _) hgrow2 (fun k hk => (hown1.lt k hk).1)⟩
  repeat (first | exact Below.refl _ _ | assumption | (with_reducible refine bdrew ?_) | (with_reducible refine baa ?_ _) | (with_reducible refine bs ?_ (by first | exact Nat.le_refl _ | omega | (simp; omega)) _) | (with_reducible refine bt ?_ (by assumption)))
set_option maxHeartbeats 1000000 in
theorem ref8_lengths_xt (b k : Int) (w : World) (h0 : ¬ k = 0) (h2 : ¬ k = 2) :
    Calls Tryd.prog 34 #[.agg #[.int .i64 b, .int .i64 k, .bool true]] w fun e w' => ∃ v, e = .returned v ∧ Ints w' w.heap.size v [30, 29, 30, 29, 30, 30, 29, 30, 29, 30, 29, 30, 29] ∧ Below w.heap.size w w' := by
  obtain ⟨i0, hi, hz0, hz1, hz2⟩ := info_parts A_info3
  have q0 : (k == 0) = false := by simpa using h0
  have q2 : (k == 2) = false := by simpa using h2
  clear h0 h2
  go_enter Tryd.func34, Tryd.ntmps34
  go_wp2_with (first | (at_builtin; refine wpList_append_lies _ rfl (.tmp 17) (.tmp 18) _ rfl w.heap.size 3 i0 (.int .i64 0) 1 8 Tryd.underlying67 hi hz0 hz1 hz2 rfl (by decide) _ 5 ([.int .i64 30, .int .i64 29, .int .i64 30, .int .i64 29, .int .i64 30]) rfl ((own_lit_at (w.alloc _) #[.int .i64 30, .int .i64 29, .int .i64 30, .int .i64 29, .int .i64 30] _ 5 (w.heap.size + 1) w.heap.size (by simp) (by omega) (by decide) rfl).alloc _) ⟨w.heap.size + 2, 0, none⟩ 1 1 [.int .i64 30] rfl rfl (news_at _ #[.int .i64 30] _ _ (by simp)) (ints_one [30]) (by decide) (by simp [maxLen]) (by decide) (by simp; omega) _ rfl ?_; intro g1 cap1 w1 hown1 hgrow1 hat1 hlt1) | (at_builtin; refine wpList_append_lies _ rfl (.tmp 20) (.tmp 21) _ rfl w.heap.size 3 i0 (.int .i64 0) 1 8 Tryd.underlying67 hi hz0 hz1 hz2 rfl (by decide) _ 6 ([.int .i64 30, .int .i64 29, .int .i64 30, .int .i64 29, .int .i64 30] ++ [.int .i64 30]) rfl (hown1.alloc _) ⟨w1.heap.size, 0, none⟩ 7 7 [.int .i64 29, .int .i64 30, .int .i64 29, .int .i64 30, .int .i64 29, .int .i64 30, .int .i64 29] rfl rfl (news_at _ #[.int .i64 29, .int .i64 30, .int .i64 29, .int .i64 30, .int .i64 29, .int .i64 30, .int .i64 29] _ _ rfl) (ints_one [29, 30, 29, 30, 29, 30, 29]) (by decide) (by simp [maxLen]) (by decide) (by have := hgrow1.size; simp at this ⊢; omega) _ rfl ?_; intro g2 cap2 w2 hown2 hgrow2 hat2 hlt2))
  go_ret
  refine ⟨_, rfl, ints_of_own hown2 rfl rfl, bgrown (baa (bgrown ?_ hgrow1 (fun k hk => by have h : w.heap.size + 1 = k := own_blk hk; omega)) _) hgrow2 (fun k hk => (hown1.lt k hk).1)⟩
  repeat (first | exact Below.refl _ _ | assumption | (with_reducible refine bdrew ?_) | (with_reducible refine baa ?_ _) | (with_reducible refine bs ?_ (by first | exact Nat.le_refl _ | omega | (simp; omega)) _) | (with_reducible refine bt ?_ (by assumption)))
theorem ref8_lengths (b k : Int) (l : Bool) (w : World) :
    Calls Tryd.prog 34 #[.agg #[.int .i64 b, .int .i64 k, .bool l]] w fun e w' => ∃ v, e = .returned v ∧ Ints w' w.heap.size v (lens k l) ∧ Below w.heap.size w w' := by
  by_cases h0 : k = 0
  · subst h0
    cases l
    · rw [lens_0f]; exact ref8_lengths_0f b w
    · rw [lens_0t]; exact ref8_lengths_0t b w
  · by_cases h2 : k = 2
    · subst h2
      cases l
      · rw [lens_2f]; exact ref8_lengths_2f b w
      · rw [lens_2t]; exact ref8_lengths_2t b w
    · cases l
      · rw [lens_xf k h0 h2]; exact ref8_lengths_xf b k w h0 h2
      · rw [lens_xt k h0 h2]; exact ref8_lengths_xt b k w h0 h2
end Go.Proofs.YtgcpflbpiifdbaaDoor
