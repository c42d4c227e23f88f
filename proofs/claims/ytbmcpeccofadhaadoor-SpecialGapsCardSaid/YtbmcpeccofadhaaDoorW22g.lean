/- Layer 22: SpecialGaps. -/
import Derived.Test.YtbmcpeccofadhaaDoorW22
import Derived.Test.YtbmcpeccofadhaaDoorTail
namespace Go.Proofs.YtbmcpeccofadhaaDoor
open Go.ChangeShapes Go.WideShapes Go.ChangeAt Go.RowKit Go.Lib Go.Sort Go.Shelf
set_option linter.unusedVariables false
set_option maxRecDepth 100000
namespace Sp
/-- The day of the last event of kind k; 0, if there is none. -/
def atV (l : List (Int × Int)) (k : Int) : Int := l.foldl (fun r x => if x.1 = k then x.2 else r) 0
theorem atV_next (l : List (Int × Int)) (j : Nat) (kd d k : Int) (h : l[j]? = some (kd, d)) : atV (l.take (j + 1)) k = if kd = k then d else atV (l.take j) k := by
  unfold atV
  rw [List.take_add_one, h, List.foldl_append]
  rfl
end Sp
set_option maxHeartbeats 16000000 in
theorem SpecialGaps_go (y a30 a31 a32 a33 a36 a37 : Int) (l : List (Int × Int)) (w : World) (hy : 0 ≤ y ∧ y ≤ 65535) (hT : Tab w 1 kevCells) (hL : Tab w 0 lenCells) (hl : l.length = 8)
    (HO : Hid (∀ w : World, Tab w 1 kevCells → Tab w 0 lenCells → Calls Tryd.prog 7 #[.int .i64 (1 + y % 9999)] w fun e w' => ∃ v, e = .returned (.tuple #[v, .int .i64 0]) ∧ Ev.Own w' w.heap.size v l ∧ Below w.heap.size w w'))
    (HK : Hid (∀ (j : Nat) (kd d : Int), l[j]? = some (kd, d) → ∃ q : Nat, kd = (q : Int) ∧ 30 ≤ q ∧ q ≤ 37))
    (H30 : Hid (Sp.atV l 30 = a30)) (H31 : Hid (Sp.atV l 31 = a31)) (H32 : Hid (Sp.atV l 32 = a32)) (H33 : Hid (Sp.atV l 33 = a33)) (H36 : Hid (Sp.atV l 36 = a36)) (H37 : Hid (Sp.atV l 37 = a37))
    (b30 : -3000000 ≤ a30 ∧ a30 ≤ 3000000) (b33 : -3000000 ≤ a33 ∧ a33 ≤ 3000000) (b37 : -3000000 ≤ a37 ∧ a37 ≤ 3000000) (e1 : a33 - a32 = 7) (e2 : a33 - a30 = 28 ∨ a33 - a30 = 35) (e3 : a37 - a36 = 7) (e4 : a31 < a32) (e5 : a30 < a31) (HAw : Hid (∀ w : World, Tab w 1 kevCells → Tab w 0 lenCells → Calls Tryd.prog 11 #[] w fun e w' => e = .returned (.bool true) ∧ Below w.heap.size w w')) :
    Calls Tryd.prog 4 #[.int .u16 y] w fun e w' => e = .returned (.bool true) ∧ Below w.heap.size w w' := by
  have y0 : 0 ≤ y % 9999 := by omega
  have y1 : y % 9999 < 9999 := by omega
  go_enter Tryd.func4, Tryd.ntmps4
  go_wp2_with fail
  refine (HO.out _ (Tab.below hT (by repeat (first | (with_reducible exact Below.refl _ _) | (with_reducible assumption) | (with_reducible refine bdrew ?_) | (with_reducible refine baa ?_ _) | (with_reducible refine bs ?_ (by first | exact Nat.le_refl _ | omega | (simp; done) | (simp; omega)) _) | (with_reducible refine bt ?_ (by with_reducible assumption))))) (Tab.below hL (by repeat (first | (with_reducible exact Below.refl _ _) | (with_reducible assumption) | (with_reducible refine bdrew ?_) | (with_reducible refine baa ?_ _) | (with_reducible refine bs ?_ (by first | exact Nat.le_refl _ | omega | (simp; done) | (simp; omega)) _) | (with_reducible refine bt ?_ (by with_reducible assumption)))))).mono ?_
  rintro e w1 ⟨v1, rfl, ho1, hb1⟩
  have hr := ho1.row
  obtain ⟨p1, c1, rfl⟩ := hr.len
  rw [hl]
  clear ho1
  go_wp2_with fail
  go_loopw [6] (fun i wr => ∃ j : Nat, j ≤ 8 ∧ i = .int .i64 (j : Int) ∧ Hid (∀ k : Nat, k < 40 → wr.cell? ⟨w1.heap.size, k, none⟩ = some (.int .i64 (Sp.atV (l.take j) (k : Int))) ∧ wr.frozen? ⟨w1.heap.size, k, none⟩ = false) ∧ Below w1.heap.size w1 wr ∧ w1.heap.size < wr.heap.size) (fun i _ => 8 - (intOf i).toNat)
  case atStart =>
    refine ⟨0, Nat.zero_le _, rfl, Lib.hid (fun k hk => ⟨?_, ?_⟩), by repeat (first | (with_reducible exact Below.refl _ _) | (with_reducible assumption) | (with_reducible refine bdrew ?_) | (with_reducible refine baa ?_ _) | (with_reducible refine bs ?_ (by first | exact Nat.le_refl _ | omega | (simp; done) | (simp; omega)) _) | (with_reducible refine bt ?_ (by with_reducible assumption))), by simp⟩
    · rw [show Sp.atV (l.take 0) (k : Int) = 0 from rfl]
      rcases (show k = 0 ∨ k = 1 ∨ k = 2 ∨ k = 3 ∨ k = 4 ∨ k = 5 ∨ k = 6 ∨ k = 7 ∨ k = 8 ∨ k = 9 ∨ k = 10 ∨ k = 11 ∨ k = 12 ∨ k = 13 ∨ k = 14 ∨ k = 15 ∨ k = 16 ∨ k = 17 ∨ k = 18 ∨ k = 19 ∨ k = 20 ∨ k = 21 ∨ k = 22 ∨ k = 23 ∨ k = 24 ∨ k = 25 ∨ k = 26 ∨ k = 27 ∨ k = 28 ∨ k = 29 ∨ k = 30 ∨ k = 31 ∨ k = 32 ∨ k = 33 ∨ k = 34 ∨ k = 35 ∨ k = 36 ∨ k = 37 ∨ k = 38 ∨ k = 39 by omega) with rfl | rfl | rfl | rfl | rfl | rfl | rfl | rfl | rfl | rfl | rfl | rfl | rfl | rfl | rfl | rfl | rfl | rfl | rfl | rfl | rfl | rfl | rfl | rfl | rfl | rfl | rfl | rfl | rfl | rfl | rfl | rfl | rfl | rfl | rfl | rfl | rfl | rfl | rfl | rfl <;> exact (World.cell?_alloc_mark w1 _ _ _ _).trans rfl
    · exact World.frozen?_alloc_new _ _ _ _
  case round =>
    obtain ⟨j, hj, rfl, HA, hB, hsz⟩ := hrel
    by_cases hlt : j < 8
    · obtain ⟨x, hx⟩ : ∃ x, l[j]? = some x := ⟨_, List.getElem?_eq_getElem (by omega)⟩
      obtain ⟨kd, d⟩ := x
      obtain ⟨q, rfl, q1, q2⟩ := HK.out j kd d hx
      have HN := Lib.hid (fun k => Sp.atV_next l j q d k hx)
      obtain ⟨b, off, cc, hp1, hc⟩ := (hr.below hB).at_some (by omega)
      simp only [Value.slice.injEq] at hp1
      obtain ⟨rfl, _, rfl⟩ := hp1
      obtain ⟨cx1, cx2⟩ := Ev.cells_at hc j (q, d) hx
      have lx := World.block_lt_of_cell? _ _ cx1
      dsimp only at lx cx1 cx2
      have j0 : (0 : Int) ≤ (j : Int) := by omega
      have j1 : (j : Int) < 8 := by omega
      have r0 : (0 : Int) < (q : Int) := by omega
      have r1 : (q : Int) < 40 := by omega
      have r2 : (0 : Int) ≤ (q : Int) := by omega
      have R0 : decide ((0 : Int) < (q : Int)) = true := by simpa using r0
      have R1 : decide ((q : Int) < 40) = true := by simpa using r1
      obtain ⟨z1, z2⟩ := HA.out q (by omega)
      have lb : b < w1.heap.size := by
        obtain ⟨b', off', c', e', hc'⟩ := hr.at_some (by omega)
        simp only [Value.slice.injEq, Option.some.injEq, Addr.mk.injEq] at e'
        obtain ⟨⟨rfl, _, _⟩, _, _⟩ := e'
        have h0 := Ev.cells_at hc' j (q, d) hx
        exact World.block_lt_of_cell? _ _ h0.1
      clear hc hx
      go_wp2_with fail
      refine wp_region_tail 11 (by kernel_rfl) (by kernel_rfl) (fun hall => ?_)
      simp only [List.take_succ_cons, List.take_zero, List.drop_succ_cons, List.drop_zero]
      repeat (first | go_big_quiet_skip | (go_big_quiet_want; first | (refine quiet_load1 _ _ _ rfl rfl ?_ ?_ ?_; (focus (intro _; simp; done)); (focus (first | assumption | omega | (simp; done) | (simp; omega))); apply Exists.intro; refine ⟨?_, ?_⟩; assumption; go_simp; go_big_quiet_on) | (refine quiet_load2 _ _ _ _ rfl rfl ?_ ?_ ?_ ?_; (focus (intro _; simp; done)); (focus (intro _; simp; done)); (focus (first | assumption | omega | (simp; done) | (simp; omega))); apply Exists.intro; apply Exists.intro; refine ⟨?_, ?_, ?_⟩; assumption; assumption; go_simp; go_big_quiet_on) | (refine quiet_load3 _ _ _ _ rfl rfl ?_ ?_ ?_ ?_; (focus (intro _; simp; done)); (focus (intro _; simp; done)); (focus (first | assumption | omega | (simp; done) | (simp; omega))); apply Exists.intro; apply Exists.intro; apply Exists.intro; refine ⟨?_, ?_, ?_, ?_⟩; assumption; assumption; assumption; go_simp; go_big_quiet_on) | (refine quiet_load4 _ _ _ _ rfl rfl ?_ ?_ ?_ ?_; (focus (intro _; simp; done)); (focus (intro _; simp; done)); (focus (first | assumption | omega | (simp; done) | (simp; omega))); apply Exists.intro; apply Exists.intro; apply Exists.intro; apply Exists.intro; refine ⟨?_, ?_, ?_, ?_, ?_⟩; assumption; assumption; assumption; assumption; go_simp; go_big_quiet_on) | (go_big_quiet_op; first | go_big_quiet_on | (apply Exists.intro; refine ⟨fun x hx => ?_, ?_⟩; (first | fail); go_big_quiet_on))))
      refine wpQuiet_nil ?_
      clear hall
      intro x7 hx7
      have z3 := (hx7.cell (p := ⟨w1.heap.size, q, none⟩) hsz).trans z1
      have z4 := (hx7.frozen (p := ⟨w1.heap.size, q, none⟩) hsz).trans z2
      have hs7 := hx7.size
      go_wp2_with fail
      go_roundw
      case rel =>
        refine ⟨j + 1, by omega, by go_num, Lib.hid (fun k hk => ?_), by repeat (first | (with_reducible exact Below.refl _ _) | (with_reducible assumption) | (with_reducible refine bdrew ?_) | (with_reducible refine baa ?_ _) | (with_reducible refine bs ?_ (by first | exact Nat.le_refl _ | omega | (simp; done) | (simp; omega)) _) | (with_reducible refine bt ?_ (by with_reducible assumption))), by simp; omega⟩
        obtain ⟨y1, y2⟩ := HA.out k hk
        have Y1 := (hx7.cell (p := ⟨w1.heap.size, k, none⟩) hsz).trans y1
        have Y2 := (hx7.frozen (p := ⟨w1.heap.size, k, none⟩) hsz).trans y2
        refine ⟨?_, by rw [World.frozen?_setCell]; exact Y2⟩
        rw [HN.out]
        by_cases c : q = k
        · subst c
          rw [if_pos rfl]
          exact World.cell?_setCell_same _ _ _ z3
        · rw [if_neg (by omega), World.cell?_setCell_other _ _ _ _ (fun h => c (by injection h))]
          exact Y1
      case measure => simp [intOf]; omega
    · obtain rfl : j = 8 := by omega
      have A30 := (HA.out 30 (by omega)).1
      have A31 := (HA.out 31 (by omega)).1
      have A32 := (HA.out 32 (by omega)).1
      have A33 := (HA.out 33 (by omega)).1
      have A36 := (HA.out 36 (by omega)).1
      have A37 := (HA.out 37 (by omega)).1
      rw [List.take_of_length_le (by omega)] at A30 A31 A32 A33 A36 A37
      rw [show ((30 : Nat) : Int) = 30 from rfl, H30.out] at A30
      rw [show ((31 : Nat) : Int) = 31 from rfl, H31.out] at A31
      rw [show ((32 : Nat) : Int) = 32 from rfl, H32.out] at A32
      rw [show ((33 : Nat) : Int) = 33 from rfl, H33.out] at A33
      rw [show ((36 : Nat) : Int) = 36 from rfl, H36.out] at A36
      rw [show ((37 : Nat) : Int) = 37 from rfl, H37.out] at A37
      clear hlt HA
      have hBw : Below w.heap.size w wr := by repeat (first | (with_reducible exact Below.refl _ _) | (with_reducible assumption) | (with_reducible refine bdrew ?_) | (with_reducible refine baa ?_ _) | (with_reducible refine bs ?_ (by first | exact Nat.le_refl _ | omega | (simp; done) | (simp; omega)) _) | (with_reducible refine bt ?_ (by with_reducible assumption)))
      have E1 : (a33 - a32 == 7) = true := by simpa using e1
      have E3 : (a37 - a36 == 7) = true := by simpa using e3
      have E4 : decide (a31 < a32) = true := by simpa using e4
      have E5 : decide (a30 < a31) = true := by simpa using e5
      have i1 : -3000100 ≤ a32 ∧ a32 ≤ 3000100 := by omega
      have i2 : -3000100 ≤ a36 ∧ a36 ≤ 3000100 := by omega
      obtain ⟨n1, n2⟩ := b30
      obtain ⟨n3, n4⟩ := b33
      obtain ⟨n5, n6⟩ := b37
      obtain ⟨n7, n8⟩ := i1
      obtain ⟨n9, n10⟩ := i2
      rcases e2 with e2 | e2
      · have E2 : (a33 - a30 == 28) = true := by simpa using e2
        clear e1 e2 e3
        go_wp2_with fail
        refine (HAw.out _ (Tab.below hT (by repeat (first | (with_reducible exact Below.refl _ _) | (with_reducible assumption) | (with_reducible refine bdrew ?_) | (with_reducible refine baa ?_ _) | (with_reducible refine bs ?_ (by first | exact Nat.le_refl _ | omega | (simp; done) | (simp; omega)) _) | (with_reducible refine bt ?_ (by with_reducible assumption))))) (Tab.below hL (by repeat (first | (with_reducible exact Below.refl _ _) | (with_reducible assumption) | (with_reducible refine bdrew ?_) | (with_reducible refine baa ?_ _) | (with_reducible refine bs ?_ (by first | exact Nat.le_refl _ | omega | (simp; done) | (simp; omega)) _) | (with_reducible refine bt ?_ (by with_reducible assumption)))))).mono ?_
        rintro e w9 ⟨rfl, hb9⟩
        have hs9 : w1.heap.size < w9.heap.size := by have := hb9.size; omega
        have A30 := (hb9.cell (p := ⟨w1.heap.size, 30, none⟩) hsz).trans A30
        have A31 := (hb9.cell (p := ⟨w1.heap.size, 31, none⟩) hsz).trans A31
        have A32 := (hb9.cell (p := ⟨w1.heap.size, 32, none⟩) hsz).trans A32
        have A33 := (hb9.cell (p := ⟨w1.heap.size, 33, none⟩) hsz).trans A33
        have A36 := (hb9.cell (p := ⟨w1.heap.size, 36, none⟩) hsz).trans A36
        have A37 := (hb9.cell (p := ⟨w1.heap.size, 37, none⟩) hsz).trans A37
        go_wp2_with fail
        go_ret
        exact ⟨by first | rfl | (simp [*]; done), by repeat (first | (with_reducible exact Below.refl _ _) | (with_reducible assumption) | (with_reducible refine bdrew ?_) | (with_reducible refine baa ?_ _) | (with_reducible refine bs ?_ (by first | exact Nat.le_refl _ | omega | (simp; done) | (simp; omega)) _) | (with_reducible refine bt ?_ (by with_reducible assumption)))⟩
      · have E2 : (a33 - a30 == 28) = false := by rw [e2]; rfl
        have E6 : (a33 - a30 == 35) = true := by simpa using e2
        clear e1 e2 e3
        go_wp2_with fail
        refine (HAw.out _ (Tab.below hT (by repeat (first | (with_reducible exact Below.refl _ _) | (with_reducible assumption) | (with_reducible refine bdrew ?_) | (with_reducible refine baa ?_ _) | (with_reducible refine bs ?_ (by first | exact Nat.le_refl _ | omega | (simp; done) | (simp; omega)) _) | (with_reducible refine bt ?_ (by with_reducible assumption))))) (Tab.below hL (by repeat (first | (with_reducible exact Below.refl _ _) | (with_reducible assumption) | (with_reducible refine bdrew ?_) | (with_reducible refine baa ?_ _) | (with_reducible refine bs ?_ (by first | exact Nat.le_refl _ | omega | (simp; done) | (simp; omega)) _) | (with_reducible refine bt ?_ (by with_reducible assumption)))))).mono ?_
        rintro e w9 ⟨rfl, hb9⟩
        have hs9 : w1.heap.size < w9.heap.size := by have := hb9.size; omega
        have A30 := (hb9.cell (p := ⟨w1.heap.size, 30, none⟩) hsz).trans A30
        have A31 := (hb9.cell (p := ⟨w1.heap.size, 31, none⟩) hsz).trans A31
        have A32 := (hb9.cell (p := ⟨w1.heap.size, 32, none⟩) hsz).trans A32
        have A33 := (hb9.cell (p := ⟨w1.heap.size, 33, none⟩) hsz).trans A33
        have A36 := (hb9.cell (p := ⟨w1.heap.size, 36, none⟩) hsz).trans A36
        have A37 := (hb9.cell (p := ⟨w1.heap.size, 37, none⟩) hsz).trans A37
        go_wp2_with fail
        go_ret
        exact ⟨by first | rfl | (simp [*]; done), by repeat (first | (with_reducible exact Below.refl _ _) | (with_reducible assumption) | (with_reducible refine bdrew ?_) | (with_reducible refine baa ?_ _) | (with_reducible refine bs ?_ (by first | exact Nat.le_refl _ | omega | (simp; done) | (simp; omega)) _) | (with_reducible refine bt ?_ (by with_reducible assumption)))⟩
namespace Sp
theorem gaps_ok : ((List.range 14).all fun i => decide (atV (spL i) 33 - atV (spL i) 32 = 7) && ((decide (atV (spL i) 33 - atV (spL i) 30 = 28) || decide (atV (spL i) 33 - atV (spL i) 30 = 35)) && (decide (atV (spL i) 37 - atV (spL i) 36 = 7) && (decide (atV (spL i) 31 < atV (spL i) 32) && (decide (atV (spL i) 30 < atV (spL i) 31) && (decide (0 ≤ atV (spL i) 30) && (decide (atV (spL i) 30 ≤ 400) && (decide (0 ≤ atV (spL i) 33) && (decide (atV (spL i) 33 ≤ 400) && (decide (0 ≤ atV (spL i) 37) && decide (atV (spL i) 37 ≤ 400))))))))))) = true := by decide +kernel
theorem atV_sh (F : Int) (i : Nat) : atV ((spL i).map (Ev.sh F)) 30 = F + atV (spL i) 30 ∧ atV ((spL i).map (Ev.sh F)) 31 = F + atV (spL i) 31 ∧ atV ((spL i).map (Ev.sh F)) 32 = F + atV (spL i) 32 ∧ atV ((spL i).map (Ev.sh F)) 33 = F + atV (spL i) 33 ∧ atV ((spL i).map (Ev.sh F)) 36 = F + atV (spL i) 36 ∧ atV ((spL i).map (Ev.sh F)) 37 = F + atV (spL i) 37 := by
  refine ⟨?_, ?_, ?_, ?_, ?_, ?_⟩ <;> simp [atV, spL, Ev.sh]
end Sp
theorem SpecialGaps_walk (y : Int) (hy : 0 ≤ y ∧ y ≤ 65535) (w : World) (hT : Tab w 1 kevCells) (hL : Tab w 0 lenCells) :
    Calls Tryd.prog 4 #[.int .u16 y] w fun e w' => e = .returned (.bool true) ∧ Below w.heap.size w w' := by
  obtain ⟨i, hi⟩ := Yr.is_some (1 + y % 9999) (by omega) (by omega)
  have hb := Yr.first_bd hi
  have hc := List.all_eq_true.1 Sp.gaps_ok i (List.mem_range.2 hi.2.2.1)
  simp only [Bool.and_eq_true, Bool.or_eq_true, decide_eq_true_eq] at hc
  obtain ⟨c1, c2, c3, c4, c5, c6, c7, c8, c9, c10, c11⟩ := hc
  obtain ⟨s1, s2, s3, s4, s5, s6⟩ := Sp.atV_sh (Cal.first (1 + y % 9999)) i
  refine SpecialGaps_go y _ _ _ _ _ _ ((Sp.spL i).map (Ev.sh (Cal.first (1 + y % 9999)))) w hy hT hL (by rw [List.length_map]; rfl) (Lib.hid (fun w hT hL => special_Of_at (1 + y % 9999) i w hi hT hL)) (Lib.hid (fun j kd d hj => ?_)) (Lib.hid s1) (Lib.hid s2) (Lib.hid s3) (Lib.hid s4) (Lib.hid s5) (Lib.hid s6) (by omega) (by omega) (by omega) (by omega) (by omega) (by omega) (by omega) (by omega) (Lib.hid (fun w hT hL => awake22 w hT hL))
  have hlt := (List.getElem?_eq_some_iff.1 hj).1
  rw [List.length_map, Sp.len] at hlt
  rcases (show j = 0 ∨ j = 1 ∨ j = 2 ∨ j = 3 ∨ j = 4 ∨ j = 5 ∨ j = 6 ∨ j = 7 by omega) with rfl | rfl | rfl | rfl | rfl | rfl | rfl | rfl <;>
    (simp [Sp.spL, Ev.sh] at hj; obtain ⟨rfl, _⟩ := hj)
  · exact ⟨35, rfl, by omega, by omega⟩
  · exact ⟨30, rfl, by omega, by omega⟩
  · exact ⟨31, rfl, by omega, by omega⟩
  · exact ⟨32, rfl, by omega, by omega⟩
  · exact ⟨33, rfl, by omega, by omega⟩
  · exact ⟨34, rfl, by omega, by omega⟩
  · exact ⟨36, rfl, by omega, by omega⟩
  · exact ⟨37, rfl, by omega, by omega⟩
end Go.Proofs.YtbmcpeccofadhaaDoor
