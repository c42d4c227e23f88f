/- Layer 19: what its laws lean on, and its example. -/
import Derived.Test.YtagmdglmflcegaaDoorFeM
import Derived.LoopTactic
namespace Go.Proofs.YtagmdglmflcegaaDoor
open Go.ChangeShapes Go.WideShapes Go.ChangeAt Go.RowKit Go.Lib Go.Sort Go.Shelf
set_option linter.unusedVariables false
set_option maxRecDepth 100000
def Fe.restV (x : Int) : Bool := [1, 3, 4, 5, 6, 7, 8, 17, 18, 25].any (x == ·)
set_option maxHeartbeats 1000000 in
theorem feast_Rest_1 (w : World) : Calls Tryd.prog 16 #[.int .i64 1] w fun e w' => e = .returned (.bool true) ∧ w = w' := by
  go_enter Tryd.func16, Tryd.ntmps16
  go_wp2_with fail
  go_ret
  exact ⟨rfl, rfl⟩
set_option maxHeartbeats 1000000 in
theorem feast_Rest_3 (w : World) : Calls Tryd.prog 16 #[.int .i64 3] w fun e w' => e = .returned (.bool true) ∧ w = w' := by
  go_enter Tryd.func16, Tryd.ntmps16
  go_wp2_with fail
  go_ret
  exact ⟨rfl, rfl⟩
set_option maxHeartbeats 1000000 in
theorem feast_Rest_4 (w : World) : Calls Tryd.prog 16 #[.int .i64 4] w fun e w' => e = .returned (.bool true) ∧ w = w' := by
  go_enter Tryd.func16, Tryd.ntmps16
  go_wp2_with fail
  go_ret
  exact ⟨rfl, rfl⟩
set_option maxHeartbeats 1000000 in
theorem feast_Rest_5 (w : World) : Calls Tryd.prog 16 #[.int .i64 5] w fun e w' => e = .returned (.bool true) ∧ w = w' := by
  go_enter Tryd.func16, Tryd.ntmps16
  go_wp2_with fail
  go_ret
  exact ⟨rfl, rfl⟩
set_option maxHeartbeats 1000000 in
theorem feast_Rest_6 (w : World) : Calls Tryd.prog 16 #[.int .i64 6] w fun e w' => e = .returned (.bool true) ∧ w = w' := by
  go_enter Tryd.func16, Tryd.ntmps16
  go_wp2_with fail
  go_ret
  exact ⟨rfl, rfl⟩
set_option maxHeartbeats 1000000 in
theorem feast_Rest_7 (w : World) : Calls Tryd.prog 16 #[.int .i64 7] w fun e w' => e = .returned (.bool true) ∧ w = w' := by
  go_enter Tryd.func16, Tryd.ntmps16
  go_wp2_with fail
  go_ret
  exact ⟨rfl, rfl⟩
set_option maxHeartbeats 1000000 in
theorem feast_Rest_8 (w : World) : Calls Tryd.prog 16 #[.int .i64 8] w fun e w' => e = .returned (.bool true) ∧ w = w' := by
  go_enter Tryd.func16, Tryd.ntmps16
  go_wp2_with fail
  go_ret
  exact ⟨rfl, rfl⟩
set_option maxHeartbeats 1000000 in
theorem feast_Rest_17 (w : World) : Calls Tryd.prog 16 #[.int .i64 17] w fun e w' => e = .returned (.bool true) ∧ w = w' := by
  go_enter Tryd.func16, Tryd.ntmps16
  go_wp2_with fail
  go_ret
  exact ⟨rfl, rfl⟩
set_option maxHeartbeats 1000000 in
theorem feast_Rest_18 (w : World) : Calls Tryd.prog 16 #[.int .i64 18] w fun e w' => e = .returned (.bool true) ∧ w = w' := by
  go_enter Tryd.func16, Tryd.ntmps16
  go_wp2_with fail
  go_ret
  exact ⟨rfl, rfl⟩
set_option maxHeartbeats 1000000 in
theorem feast_Rest_25 (w : World) : Calls Tryd.prog 16 #[.int .i64 25] w fun e w' => e = .returned (.bool true) ∧ w = w' := by
  go_enter Tryd.func16, Tryd.ntmps16
  go_wp2_with fail
  go_ret
  exact ⟨rfl, rfl⟩
set_option maxHeartbeats 1000000 in
theorem feast_Rest_14 (w : World) : Calls Tryd.prog 16 #[.int .i64 14] w fun e w' => e = .returned (.bool false) ∧ w = w' := by
  go_enter Tryd.func16, Tryd.ntmps16
  go_wp2_with fail
  go_ret
  exact ⟨rfl, rfl⟩
set_option maxHeartbeats 1000000 in
theorem feast_Rest_no (x : Int) (w : World) (h1 : (x == 1) = false) (h3 : (x == 3) = false) (h4 : (x == 4) = false) (h5 : (x == 5) = false) (h6 : (x == 6) = false) (h7 : (x == 7) = false) (h8 : (x == 8) = false) (h17 : (x == 17) = false) (h18 : (x == 18) = false) (h25 : (x == 25) = false) : Calls Tryd.prog 16 #[.int .i64 x] w fun e w' => e = .returned (.bool false) ∧ w = w' := by
  go_enter Tryd.func16, Tryd.ntmps16
  go_wp2_with fail
  go_ret
  exact ⟨rfl, rfl⟩
theorem feast_Rest (x : Int) (w : World) : Calls Tryd.prog 16 #[.int .i64 x] w fun e w' => e = .returned (.bool (Fe.restV x)) ∧ w = w' := by
  by_cases e1 : x = 1
  · subst e1; exact feast_Rest_1 w
  by_cases e3 : x = 3
  · subst e3; exact feast_Rest_3 w
  by_cases e4 : x = 4
  · subst e4; exact feast_Rest_4 w
  by_cases e5 : x = 5
  · subst e5; exact feast_Rest_5 w
  by_cases e6 : x = 6
  · subst e6; exact feast_Rest_6 w
  by_cases e7 : x = 7
  · subst e7; exact feast_Rest_7 w
  by_cases e8 : x = 8
  · subst e8; exact feast_Rest_8 w
  by_cases e17 : x = 17
  · subst e17; exact feast_Rest_17 w
  by_cases e18 : x = 18
  · subst e18; exact feast_Rest_18 w
  by_cases e25 : x = 25
  · subst e25; exact feast_Rest_25 w
  rw [show Fe.restV x = false by simp [Fe.restV, e1, e3, e4, e5, e6, e7, e8, e17, e18, e25]]
  exact feast_Rest_no x w (by simpa using e1) (by simpa using e3) (by simpa using e4) (by simpa using e5) (by simpa using e6) (by simpa using e7) (by simpa using e8) (by simpa using e17) (by simpa using e18) (by simpa using e25)
set_option maxHeartbeats 1000000 in
theorem feast_Of_bad (y p : Int) (w : World) (h0 : (p != 0) = true) (h1 : (p != 1) = true) : Calls Tryd.prog 13 #[.int .i64 y, .int .i64 p] w fun e w' => e = .returned (.tuple #[.slice none 0 0, .int .i64 1]) ∧ w = w' := by
  go_enter Tryd.func13, Tryd.ntmps13
  go_wp2_with fail
  go_ret2
  exact ⟨rfl, rfl⟩
theorem Yr.is_5784 : Yr.Is 5784 12 := ⟨by omega, by omega, by omega, by decide +kernel, by decide +kernel, by decide +kernel⟩
theorem Yr.first_5784 : Cal.first 5784 = 738779 := by decide +kernel
namespace Fe
def pes (l : List (Int × Int)) : Int × Int := l.foldl (fun s x => if x.1 = 17 then (s.1 + 1, x.2) else s) (0, 0)
theorem pes_next (l : List (Int × Int)) (j : Nat) (x : Int × Int) (h : l[j]? = some x) : pes (l.take (j + 1)) = if x.1 = 17 then ((pes (l.take j)).1 + 1, x.2) else pes (l.take j) := by
  unfold pes
  rw [List.take_add_one, h]
  simp [List.foldl_append]
theorem pes_bd (l : List (Int × Int)) : ∀ j : Nat, 0 ≤ (pes (l.take j)).1 ∧ (pes (l.take j)).1 ≤ j
  | 0 => by simp [pes]
  | j + 1 => by
    have ih := pes_bd l j
    cases h : l[j]? with
    | none =>
      have : l.take (j + 1) = l.take j := by rw [List.take_add_one, h]; simp
      rw [this]; omega
    | some x =>
      rw [pes_next l j x h]
      split <;> (try dsimp only) <;> omega
theorem ex_5784 : pes ((feastL 12 false).map (Ev.sh 738779)) = (4, 739006) ∧ (feastL 12 false).length ≤ 60 := by decide +kernel
end Fe
set_option maxHeartbeats 4000000 in
theorem awake19_go (n : Nat) (l : List (Int × Int)) (w : World) (hT : Tab w 3 kevCells) (hL : Tab w 2 lenCells) (hF : Tab w 0 Fe.cells) (hl : l.length = n) (hn : n ≤ 60) (hp : Hid (Fe.pes l = (4, 739006)))
    (HO : Hid (∀ w : World, Tab w 3 kevCells → Tab w 2 lenCells → Tab w 0 Fe.cells → Calls Tryd.prog 13 #[.int .i64 5784, .int .i64 0] w fun e w' => ∃ v, e = .returned (.tuple #[v, .int .i64 0]) ∧ Ev.Own w' w.heap.size v l ∧ Below w.heap.size w w')) :
    Calls Tryd.prog 12 #[] w fun e w' => e = .returned (.bool true) ∧ Below w.heap.size w w' := by
  have HBad := Lib.hid (fun w => feast_Of_bad 5784 2 w (by decide) (by decide))
  go_enter Tryd.func12, Tryd.ntmps12
  go_wp2_with fail
  refine (HO.out _ (Tab.below hT (by repeat (first | (with_reducible exact Below.refl _ _) | (with_reducible assumption) | (with_reducible refine bdrew ?_) | (with_reducible refine baa ?_ _) | (with_reducible refine bs ?_ (by first | exact Nat.le_refl _ | omega | (simp; done) | (simp; omega)) _) | (with_reducible refine bt ?_ (by with_reducible assumption))))) (Tab.below hL (by repeat (first | (with_reducible exact Below.refl _ _) | (with_reducible assumption) | (with_reducible refine bdrew ?_) | (with_reducible refine baa ?_ _) | (with_reducible refine bs ?_ (by first | exact Nat.le_refl _ | omega | (simp; done) | (simp; omega)) _) | (with_reducible refine bt ?_ (by with_reducible assumption))))) (Tab.below hF (by repeat (first | (with_reducible exact Below.refl _ _) | (with_reducible assumption) | (with_reducible refine bdrew ?_) | (with_reducible refine baa ?_ _) | (with_reducible refine bs ?_ (by first | exact Nat.le_refl _ | omega | (simp; done) | (simp; omega)) _) | (with_reducible refine bt ?_ (by with_reducible assumption)))))).mono ?_
  rintro e w1 ⟨v1, rfl, ho1, hb1⟩
  have hr := ho1.row
  obtain ⟨p1, c1, rfl⟩ := hr.len
  rw [hl]
  go_wp2_with fail
  go_loopw [3, 4, 5] (fun a d i wr => ∃ j : Nat, j ≤ n ∧ i = .int .i64 (j : Int) ∧ a = .int .i64 (Fe.pes (l.take j)).1 ∧ d = .int .i64 (Fe.pes (l.take j)).2 ∧ Below w1.heap.size w1 wr) (fun _ _ i _ => n - (intOf i).toNat)
  case atStart => exact ⟨0, Nat.zero_le _, rfl, rfl, rfl, Below.refl _ _⟩
  case round =>
    obtain ⟨j, hj, rfl, rfl, rfl, hB⟩ := hrel
    have hbd := Fe.pes_bd l j
    by_cases hlt : j < n
    · obtain ⟨x, hx⟩ : ∃ x, l[j]? = some x := ⟨_, List.getElem?_eq_getElem (by omega)⟩
      have hnx := Fe.pes_next l j x hx
      obtain ⟨b, off, cc, hp1, hc⟩ := (hr.below hB).at_some (by omega)
      simp only [Value.slice.injEq] at hp1
      obtain ⟨rfl, _, rfl⟩ := hp1
      obtain ⟨cx1, cx2⟩ := Ev.cells_at hc j x hx
      have lx := World.block_lt_of_cell? _ _ cx1
      dsimp only at lx
      obtain ⟨kd, d⟩ := x
      dsimp only at cx1 cx2
      have j0 : (0 : Int) ≤ (j : Int) := by omega
      have j1 : (j : Int) < (n : Int) := by omega
      have HN := Lib.hid hnx
      clear hnx hx hc
      generalize (Fe.pes (l.take j)) = ss at *
      obtain ⟨q1, q2⟩ := ss
      try dsimp only at hbd
      by_cases hk : kd = 17
      · subst hk
        go_wp2_with fail
        refine wp_region_class (by kernel_rfl) (by kernel_rfl) (fun hall => ?_)
        repeat (first | go_big_quiet_skip | (go_big_quiet_want; first | (refine quiet_load1 _ _ _ rfl rfl ?_ ?_ ?_; (focus (intro _; simp; done)); (focus (first | assumption | omega | (simp; done) | (simp; omega))); apply Exists.intro; refine ⟨?_, ?_⟩; assumption; go_simp; go_big_quiet_on) | (refine quiet_load2 _ _ _ _ rfl rfl ?_ ?_ ?_ ?_; (focus (intro _; simp; done)); (focus (intro _; simp; done)); (focus (first | assumption | omega | (simp; done) | (simp; omega))); apply Exists.intro; apply Exists.intro; refine ⟨?_, ?_, ?_⟩; assumption; assumption; go_simp; go_big_quiet_on) | (refine quiet_load3 _ _ _ _ rfl rfl ?_ ?_ ?_ ?_; (focus (intro _; simp; done)); (focus (intro _; simp; done)); (focus (first | assumption | omega | (simp; done) | (simp; omega))); apply Exists.intro; apply Exists.intro; apply Exists.intro; refine ⟨?_, ?_, ?_, ?_⟩; assumption; assumption; assumption; go_simp; go_big_quiet_on) | (refine quiet_load4 _ _ _ _ rfl rfl ?_ ?_ ?_ ?_; (focus (intro _; simp; done)); (focus (intro _; simp; done)); (focus (first | assumption | omega | (simp; done) | (simp; omega))); apply Exists.intro; apply Exists.intro; apply Exists.intro; apply Exists.intro; refine ⟨?_, ?_, ?_, ?_, ?_⟩; assumption; assumption; assumption; assumption; go_simp; go_big_quiet_on) | (go_big_quiet_op; first | go_big_quiet_on | (apply Exists.intro; refine ⟨fun x hx => ?_, ?_⟩; (first | fail); go_big_quiet_on))))
        refine wpQuiet_nil ?_
        clear hall
        intro x7 hx7
        go_wp2_with fail
        go_roundw
        case rel => exact ⟨j + 1, by omega, by go_num, by rw [HN.out]; rfl, by rw [HN.out]; rfl, bt hB hx7⟩
        case measure => simp [intOf]; omega
      · have hk2 : (kd == 17) = false := by simpa using hk
        have HK := Lib.hid hk
        clear hk
        go_wp2_with fail
        go_roundw
        case rel => exact ⟨j + 1, by omega, by go_num, by rw [HN.out]; simp [HK.out], by rw [HN.out]; simp [HK.out], hB⟩
        case measure => simp [intOf]; omega
    · obtain rfl : j = n := by omega
      rw [List.take_of_length_le (by omega), hp.out]
      clear hlt hbd
      go_wp2_with fail
      refine (HBad.out _).mono ?_
      rintro e w' ⟨rfl, rfl⟩
      go_wp2_with fail
      refine (feast_Rest_17 _).mono ?_
      rintro e w' ⟨rfl, rfl⟩
      go_wp2_with fail
      refine (feast_Rest_14 _).mono ?_
      rintro e w' ⟨rfl, rfl⟩
      go_wp2_with fail
      go_ret
      exact ⟨rfl, bt hb1 hB⟩
theorem awake19 (w : World) (hT : Tab w 3 kevCells) (hL : Tab w 2 lenCells) (hF : Tab w 0 Fe.cells) : Calls Tryd.prog 12 #[] w fun e w' => e = .returned (.bool true) ∧ Below w.heap.size w w' := by
  have h := Fe.ex_5784
  rw [← Yr.first_5784] at h
  exact awake19_go _ ((Fe.feastL 12 false).map (Ev.sh (Cal.first 5784))) w hT hL hF rfl (by rw [List.length_map]; exact h.2) (Lib.hid h.1) (Lib.hid (fun w hT hL hF => feast_Of_at 5784 12 false w Yr.is_5784 hT hL hF))
end Go.Proofs.YtagmdglmflcegaaDoor
