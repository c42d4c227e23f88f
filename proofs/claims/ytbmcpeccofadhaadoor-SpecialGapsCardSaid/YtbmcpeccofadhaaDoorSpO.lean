/- Layer 22: special.Of. -/
import Derived.Test.YtbmcpeccofadhaaDoorSpG
import Derived.Test.YtbmcpeccofadhaaDoorEvT
import Derived.Test.YtbmcpeccofadhaaDoorTail1
import Derived.Laws.EntriesVeiled
namespace Go.Proofs.YtbmcpeccofadhaaDoor
open Go.ChangeShapes Go.WideShapes Go.ChangeAt Go.RowKit Go.Lib Go.Sort Go.Shelf
set_option linter.unusedVariables false
set_option maxRecDepth 100000
namespace Sp
def upto (y : Int) (n : Nat) : List (Int × Int) := (List.range n).map fun j => (kind j, day y j)
theorem upto_next (y : Int) (j : Nat) : upto y (j + 1) = upto y j ++ [(kind j, day y j)] := by simp [upto, List.range_succ]
end Sp
theorem Sp.own_snoc {w : World} {B n : Nat} {v : Value} {l : List (Int × Int)} {x1 x2 : Int} (hn : n = l.length) (h : w.ownsRow B 30 2 v (n + 1) (Ev.flat l ++ [.int .i64 x1, .int .i64 x2])) : Ev.Own w B v (l ++ [(x1, x2)]) := by
  subst hn
  unfold Ev.Own
  rw [List.length_append, Ev.flat_app]
  exact h
set_option maxHeartbeats 4000000 in
theorem special_Of_go (y : Int) (w : World) (hy1 : 1 ≤ y) (hy2 : y ≤ 9999) (hT : Tab w 1 kevCells) (hL : Tab w 0 lenCells) 
    (HRu : Hid (∀ w : World, Calls Tryd.prog 23 #[] w fun e w' => ∃ (g : Nat) (u : Nat → Value), e = .returned (.slice (some ⟨g, 0, none⟩) 8 8) ∧ Hid (∀ j, j < 8 → w'.cell? ⟨g, j * 2, none⟩ = some (.int .i64 (Sp.kind j)) ∧ w'.cell? ⟨g, j * 2 + 1, none⟩ = some (u j) ∧ Sp.Finds w' (u j) y (Sp.day y j)) ∧ g < w'.heap.size ∧ Below w.heap.size w w')) :
    Calls Tryd.prog 7 #[.int .i64 y] w fun e w' => ∃ v, e = .returned (.tuple #[v, .int .i64 0]) ∧ Ev.Own w' w.heap.size v (Ev.sort (Sp.upto y 8)) ∧ Below w.heap.size w w' := by
  obtain ⟨i0, ih, iz0, iz1, iz2⟩ := info_parts A_infoEvent
  go_enter Tryd.func7, Tryd.ntmps7
  go_wp2_with fail
  refine (HRu.out _).mono ?_
  rintro e w1 ⟨g, u, rfl, HU, hg, hb1⟩
  go_wp2_with fail
  go_loopw [4, 15] (fun v i wr => ∃ (j : Nat) (S : List (Int × Int)), j ≤ 8 ∧ i = .int .i64 (j : Int) ∧ Hid (S = Sp.upto y j) ∧ S.length ≤ j ∧ Ev.Own wr w1.heap.size v S ∧ Below w1.heap.size w1 wr) (fun _ i _ => 8 - (intOf i).toNat)
  case atStart => exact ⟨0, [], by omega, rfl, Lib.hid rfl, by simp, Ev.Own.nil _ _, Below.refl _ _⟩
  case round =>
    obtain ⟨j, S, hj, rfl, HS, hlen, HO, hB⟩ := hrel
    obtain ⟨w5, rfl⟩ : ∃ x, x = wr := ⟨_, rfl⟩
    have hBw : Below w.heap.size w w5 := bt hb1 hB
    have hsz := hBw.size
    have hsz1 := hB.size
    by_cases hlt : j < 8
    · obtain ⟨q1, q2, hF⟩ := HU.out j hlt
      obtain ⟨gf, b1, b2, eu, eg, hf⟩ := hF
      rw [eu] at q2
      have HN := Lib.hid (Sp.upto_next y j)
      have HC := Lib.hid hf
      clear eu hf
      generalize Sp.kind j = kd at *
      generalize Sp.day y j = D at *
      have c1 := (hB.cell hg).trans q1
      have c2 := (hB.cell hg).trans q2
      have lg : g < w5.heap.size := by omega
      clear q1 q2
      have j0 : (0 : Int) ≤ (j : Int) := by omega
      have j1 : (j : Int) < 8 := by omega
      go_wp2_with fail
      refine settle (fun W => W.cell? ⟨w5.heap.size, 0, none⟩ = some (.int .i64 kd) ∧ W.cell? ⟨w5.heap.size, 1, none⟩ = some (.func (.func gf) #[] #[.pointer (some ⟨b1, 0, none⟩), .pointer (some ⟨b2, 0, none⟩)]) ∧ w5.heap.size < W.heap.size ∧ Below w5.heap.size w5 W) ⟨?_, ?_, ?_, ?_⟩ ?_
      · (first | (with_reducible assumption) | (simp [go_sem, *]; done) | assumption)
      · (first | (with_reducible assumption) | (simp [go_sem, *]; done) | assumption)
      · (first | assumption | (simp; done) | (simp; omega) | omega)
      · (repeat (first | exact Below.refl _ _ | assumption | (with_reducible refine bdrew ?_) | (with_reducible refine baa ?_ _) | (with_reducible refine bs ?_ (by first | exact Nat.le_refl _ | omega | (simp; done) | (simp; omega)) _) | (with_reducible refine bt ?_ (by assumption))))
      rintro W6 ⟨r6x0, r6x1, rs6x0, hB6⟩
      have hW6 : Below w.heap.size w W6 := bt hBw hB6
      have hT6 : Tab W6 1 kevCells := Tab.below hT hW6
      have hL6 : Tab W6 0 lenCells := Tab.below hL hW6
      refine wp_region_tail1 8 _ _ ?_ rfl rfl (fun _ _ _ h => h) (by kernel_rfl) (by kernel_rfl) (by rfl) ?_ ?_
      rotate_left 1
      · first | (intro w; go_simp; done) | (intro w; go_simp; with_reducible rfl)
      intro hall
      simp only [List.setIfInBounds_toArray, List.set_cons_succ, List.set_cons_zero]
      simp only [List.take_succ_cons, List.take_zero, List.drop_succ_cons, List.drop_zero]
      repeat (first | go_big_quiet_skip | (go_big_quiet_want; first | (refine quiet_load1 _ _ _ rfl rfl ?_ ?_ ?_; (focus (intro _; simp; done)); (focus (first | assumption | omega | (simp; done) | (simp; omega))); apply Exists.intro; refine ⟨?_, ?_⟩; assumption; go_simp; go_big_quiet_on) | (refine quiet_load2 _ _ _ _ rfl rfl ?_ ?_ ?_ ?_; (focus (intro _; simp; done)); (focus (intro _; simp; done)); (focus (first | assumption | omega | (simp; done) | (simp; omega))); apply Exists.intro; apply Exists.intro; refine ⟨?_, ?_, ?_⟩; assumption; assumption; go_simp; go_big_quiet_on) | (refine quiet_load3 _ _ _ _ rfl rfl ?_ ?_ ?_ ?_; (focus (intro _; simp; done)); (focus (intro _; simp; done)); (focus (first | assumption | omega | (simp; done) | (simp; omega))); apply Exists.intro; apply Exists.intro; apply Exists.intro; refine ⟨?_, ?_, ?_, ?_⟩; assumption; assumption; assumption; go_simp; go_big_quiet_on) | (refine quiet_load4 _ _ _ _ rfl rfl ?_ ?_ ?_ ?_; (focus (intro _; simp; done)); (focus (intro _; simp; done)); (focus (first | assumption | omega | (simp; done) | (simp; omega))); apply Exists.intro; apply Exists.intro; apply Exists.intro; apply Exists.intro; refine ⟨?_, ?_, ?_, ?_, ?_⟩; assumption; assumption; assumption; assumption; go_simp; go_big_quiet_on) | (go_big_quiet_op; first | go_big_quiet_on | (apply Exists.intro; refine ⟨fun x hx => ?_, ?_⟩; (first | (with_reducible exact call_below hx (HC.out x (bt hB (bt hB6 hx)) (Tab.below hT6 hx) (Tab.below hL6 hx))) | exact call_below hx (HC.out x (bt hB (bt hB6 hx)) (Tab.below hT6 hx) (Tab.below hL6 hx))); go_big_quiet_on))))
      refine wpQuiet_nil ?_
      clear hall
      intro x7 hx7
      have hB7 : Below w5.heap.size w5 x7 := bt hB6 hx7
      have HO7 : x7.ownsRow w1.heap.size 30 2 u4 S.length (Ev.flat S) := Ev.Own.below HO hB7
      have hz7 := hB7.size
      go_wp2_with (at_builtin; refine wpList_append_own_at _ rfl (.tmp 19) (.tmp 27) 23 rfl w1.heap.size 30 i0 (.agg #[.int .i64 0, .int .i64 0]) 2 16 Tryd.underlying23 ih iz0 iz1 iz2 rfl (by decide) _ S.length (Ev.flat S) rfl (HO7.alloc _) ⟨x7.heap.size, 0, none⟩ 1 1 [.int .i64 _, .int .i64 _] rfl rfl (ev_news _ _ _) (ev_one _ _) (by simp only [maxLen]; omega) (by omega) (by first | assumption | (simp; omega) | omega) ?_; intro v8 w8 hown8 hgrow8 _ hblk8)
      go_roundw
      case rel =>
        have hb8 : Below w1.heap.size w1 w8 := by
          have h9 : Below w1.heap.size w1 x7 := bt hB hB7
          exact bgrown (baa h9 _) hgrow8 (fun k e => (World.ownsRow.lt HO7 k e).1)
        exact ⟨j + 1, S ++ [(kd, D)], by omega, by go_num, Lib.hid (by rw [HN.out, HS.out]), by simp; omega, Sp.own_snoc rfl hown8, hb8⟩
      case measure => simp [intOf]; omega
    · obtain rfl : j = 8 := by omega
      clear hlt
      go_wp2_with fail
      refine (feast_Sort _ S _ HO.row (by omega)).mono ?_
      rintro e w9 ⟨v9, rfl, ho9, hb9⟩
      go_wp2_with fail
      go_ret2
      exact ⟨_, rfl, by rw [← HS.out]; exact ho9.base hBw.size, bt hBw hb9⟩
end Go.Proofs.YtbmcpeccofadhaaDoor
