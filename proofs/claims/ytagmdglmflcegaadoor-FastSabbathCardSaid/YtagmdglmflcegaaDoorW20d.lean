/- Layer 20: FastSabbath. -/
import Derived.Test.YtagmdglmflcegaaDoorW20
namespace Go.Proofs.YtagmdglmflcegaaDoor
open Go.ChangeShapes Go.WideShapes Go.ChangeAt Go.RowKit Go.Lib Go.Sort Go.Shelf
set_option linter.unusedVariables false
set_option maxRecDepth 100000
namespace Fa
def dayOk (l : List (Int × Int)) (j : Nat) (kd d : Int) : Prop :=
  (d % 7 = 6 → kd = 24) ∧ (kd = 21 → d % 7 = 2 ∨ d % 7 = 3 ∨ d % 7 = 4) ∧ ∀ q, q < j → ∀ k' d', l[q]? = some (k', d') → k' ≠ kd ∧ d' ≤ d
def chk (b : Int) (O : List (Int × Int)) : Bool := (List.range O.length).all fun j => match O[j]? with
  | some (kd, o) => (!((b + o) % 7 == 6) || kd == 24) && ((!(kd == 21) || [2, 3, 4].contains ((b + o) % 7)) && (List.range j).all fun q => match O[q]? with | some (k', o') => !(k' == kd) && decide (o' ≤ o) | none => true)
  | none => true
theorem chk_ok {b F : Int} {O : List (Int × Int)} (hb : F % 7 = b) (h : chk b O = true) (j : Nat) (kd d : Int) (hj : (O.map (Ev.sh F))[j]? = some (kd, d)) : dayOk (O.map (Ev.sh F)) j kd d := by
  rw [List.getElem?_map] at hj
  cases hO : O[j]? with
  | none => rw [hO] at hj; simp at hj
  | some x =>
    obtain ⟨kd', o⟩ := x
    rw [hO] at hj
    simp only [Option.map_some, Option.some.injEq, Ev.sh, Prod.mk.injEq] at hj
    obtain ⟨rfl, rfl⟩ := hj
    have hlt := (List.getElem?_eq_some_iff.1 hO).1
    have hc := List.all_eq_true.1 h j (List.mem_range.2 hlt)
    rw [hO] at hc
    simp only [Bool.and_eq_true] at hc
    obtain ⟨c1, c2, c3⟩ := hc
    have hm : (F + o) % 7 = (b + o) % 7 := by omega
    refine ⟨fun e => ?_, fun e => ?_, fun q hq k' d' hp => ?_⟩
    · rw [hm] at e
      simpa [e] using c1
    · rw [hm]
      simpa [e] using c2
    · rw [List.getElem?_map] at hp
      cases hO1 : O[q]? with
      | none => rw [hO1] at hp; simp at hp
      | some z =>
        obtain ⟨k2, o2⟩ := z
        rw [hO1] at hp
        simp only [Option.map_some, Option.some.injEq, Ev.sh, Prod.mk.injEq] at hp
        obtain ⟨rfl, rfl⟩ := hp
        have c4 := List.all_eq_true.1 c3 q (List.mem_range.2 hq)
        rw [hO1] at c4
        simp at c4
        exact ⟨c4.1, by omega⟩
theorem all_chk : ((List.range 14).all fun i => chk (kevB i) (fastL i)) = true := by decide +kernel
end Fa
set_option maxHeartbeats 16000000 in
theorem FastSabbath_go (y : Int) (l : List (Int × Int)) (w : World) (hy : 0 ≤ y ∧ y ≤ 65535) (hT : Tab w 3 kevCells) (hL : Tab w 2 lenCells) (hF : Tab w 1 Fa.cells) (hl : l.length = 10)
    (HO : Hid (∀ w : World, Tab w 3 kevCells → Tab w 2 lenCells → Tab w 1 Fa.cells → Calls Tryd.prog 23 #[.int .i64 (1 + y % 9999)] w fun e w' => ∃ v, e = .returned (.tuple #[v, .int .i64 0]) ∧ Ev.Own w' w.heap.size v l ∧ Below w.heap.size w w'))
    (HDs : Hid (∀ j kd d, l[j]? = some (kd, d) → Fa.dayOk l j kd d)) (HAw : Hid (∀ w : World, Tab w 3 kevCells → Tab w 2 lenCells → Tab w 1 Fa.cells → Calls Tryd.prog 25 #[] w fun e w' => e = .returned (.bool true) ∧ Below w.heap.size w w')) :
    Calls Tryd.prog 7 #[.int .u16 y] w fun e w' => e = .returned (.bool true) ∧ Below w.heap.size w w' := by
  have HW := Lib.hid (fun d w => ref4_Weekday d w)
  have y0 : 0 ≤ y % 9999 := by omega
  have y1 : y % 9999 < 9999 := by omega
  go_enter Tryd.func7, Tryd.ntmps7
  go_wp2_with fail
  refine (HO.out _ (Tab.below hT (by repeat (first | (with_reducible exact Below.refl _ _) | (with_reducible assumption) | (with_reducible refine bdrew ?_) | (with_reducible refine baa ?_ _) | (with_reducible refine bs ?_ (by first | exact Nat.le_refl _ | omega | (simp; done) | (simp; omega)) _) | (with_reducible refine bt ?_ (by with_reducible assumption))))) (Tab.below hL (by repeat (first | (with_reducible exact Below.refl _ _) | (with_reducible assumption) | (with_reducible refine bdrew ?_) | (with_reducible refine baa ?_ _) | (with_reducible refine bs ?_ (by first | exact Nat.le_refl _ | omega | (simp; done) | (simp; omega)) _) | (with_reducible refine bt ?_ (by with_reducible assumption))))) (Tab.below hF (by repeat (first | (with_reducible exact Below.refl _ _) | (with_reducible assumption) | (with_reducible refine bdrew ?_) | (with_reducible refine baa ?_ _) | (with_reducible refine bs ?_ (by first | exact Nat.le_refl _ | omega | (simp; done) | (simp; omega)) _) | (with_reducible refine bt ?_ (by with_reducible assumption)))))).mono ?_
  rintro e w1 ⟨v1, rfl, ho1, hb1⟩
  have hr := ho1.row
  obtain ⟨p1, c1, rfl⟩ := hr.len
  rw [hl]
  go_wp2_with fail
  clear ho1
  go_loopw [6] (fun i wr => ∃ j : Nat, j ≤ 10 ∧ i = .int .i64 (j : Int) ∧ Below w1.heap.size w1 wr) (fun i _ => 10 - (intOf i).toNat)
  case atStart => exact ⟨0, Nat.zero_le _, rfl, Below.refl _ _⟩
  case round =>
    obtain ⟨j, hj, rfl, hB⟩ := hrel
    by_cases hlt : j < 10
    · obtain ⟨x, hx⟩ : ∃ x, l[j]? = some x := ⟨_, List.getElem?_eq_getElem (by omega)⟩
      obtain ⟨kd, d⟩ := x
      have HD := Lib.hid (HDs.out j kd d hx)
      obtain ⟨b, off, cc, hp1, hc⟩ := (hr.below hB).at_some (by omega)
      simp only [Value.slice.injEq] at hp1
      obtain ⟨rfl, _, rfl⟩ := hp1
      obtain ⟨cx1, cx2⟩ := Ev.cells_at hc j (kd, d) hx
      have lx := World.block_lt_of_cell? _ _ cx1
      dsimp only at lx cx1 cx2
      have HX := Lib.hid hx
      have j0 : (0 : Int) ≤ (j : Int) := by omega
      have j1 : (j : Int) < 10 := by omega
      clear hx hc
      go_wp2_with fail
      refine (HW.out d _).mono ?_
      rintro e w' ⟨rfl, rfl⟩
      by_cases c6 : d % 7 = 6
      · have ek := HD.out.1 c6
        subst ek
        have w6 : (d % 7 == 6) = true := by simpa using c6
        clear c6
        go_wp2_with fail
        go_loopw [8] (fun i ws => ∃ q : Nat, q ≤ j ∧ i = .int .i64 (q : Int) ∧ Below w1.heap.size w1 ws) (fun i _ => j - (intOf i).toNat)
        case atStart => exact ⟨0, Nat.zero_le _, rfl, hB⟩
        case round =>
          obtain ⟨q, hq, rfl, hC⟩ := hrel
          by_cases hqt : q < j
          · obtain ⟨z, hz⟩ : ∃ x, l[q]? = some x := ⟨_, List.getElem?_eq_getElem (by omega)⟩
            obtain ⟨k', d'⟩ := z
            have hne := HD.out.2.2 q hqt k' d' hz
            obtain ⟨b', off', cc, hp1, hc⟩ := (hr.below hC).at_some (by omega)
            simp only [Value.slice.injEq, Option.some.injEq, Addr.mk.injEq] at hp1
            obtain ⟨⟨rfl, rfl, -⟩, -, -⟩ := hp1
            obtain ⟨cy1, cy2⟩ := Ev.cells_at hc j (24, d) HX.out
            obtain ⟨cz1, cz2⟩ := Ev.cells_at hc q (k', d') hz
            have lz := World.block_lt_of_cell? _ _ cz1
            dsimp only at cy1 cy2 lz cz1 cz2
            have q0 : (0 : Int) ≤ (q : Int) := by omega
            have q1 : (q : Int) < (j : Int) := by omega
            have q2 : (q : Int) < 10 := by omega
            have e1 : (k' == 24) = false := by simpa using hne.1
            have b1 : ¬ d < d' := by omega
            have B1 : decide (d < d') = false := by simpa using b1
            clear hne hz hc
            go_wp2_with fail
            refine wp_region_class (by kernel_rfl) (by kernel_rfl) (fun hall => ?_)
            repeat (first | go_big_quiet_skip | (go_big_quiet_want; first | (refine quiet_load1 _ _ _ rfl rfl ?_ ?_ ?_; (focus (intro _; simp; done)); (focus (first | assumption | omega | (simp; done) | (simp; omega))); apply Exists.intro; refine ⟨?_, ?_⟩; assumption; go_simp; go_big_quiet_on) | (refine quiet_load2 _ _ _ _ rfl rfl ?_ ?_ ?_ ?_; (focus (intro _; simp; done)); (focus (intro _; simp; done)); (focus (first | assumption | omega | (simp; done) | (simp; omega))); apply Exists.intro; apply Exists.intro; refine ⟨?_, ?_, ?_⟩; assumption; assumption; go_simp; go_big_quiet_on) | (refine quiet_load3 _ _ _ _ rfl rfl ?_ ?_ ?_ ?_; (focus (intro _; simp; done)); (focus (intro _; simp; done)); (focus (first | assumption | omega | (simp; done) | (simp; omega))); apply Exists.intro; apply Exists.intro; apply Exists.intro; refine ⟨?_, ?_, ?_, ?_⟩; assumption; assumption; assumption; go_simp; go_big_quiet_on) | (refine quiet_load4 _ _ _ _ rfl rfl ?_ ?_ ?_ ?_; (focus (intro _; simp; done)); (focus (intro _; simp; done)); (focus (first | assumption | omega | (simp; done) | (simp; omega))); apply Exists.intro; apply Exists.intro; apply Exists.intro; apply Exists.intro; refine ⟨?_, ?_, ?_, ?_, ?_⟩; assumption; assumption; assumption; assumption; go_simp; go_big_quiet_on) | (go_big_quiet_op; first | go_big_quiet_on | (apply Exists.intro; refine ⟨fun x hx => ?_, ?_⟩; (first | fail); go_big_quiet_on))))
            refine wpQuiet_nil ?_
            clear hall
            intro x16 hx16
            go_wp2_with fail
            go_roundw
            case rel => exact ⟨q + 1, by omega, by go_num, bt hC hx16⟩
            case measure => simp [intOf]; omega
          · obtain rfl : q = j := by omega
            clear hqt
            go_wp2_with fail
            go_roundw
            case rel => exact ⟨q + 1, by omega, by go_num, hC⟩
            case measure => simp [intOf]; omega
      · have w6 : (d % 7 == 6) = false := by simpa using c6
        clear c6
        by_cases c21 : kd = 21
        · subst c21
          rcases HD.out.2.1 rfl with c | c | c
          · have w2 : (d % 7 != 2) = false := by simpa using c
            clear c
            go_wp2_with fail
            go_loopw [8] (fun i ws => ∃ q : Nat, q ≤ j ∧ i = .int .i64 (q : Int) ∧ Below w1.heap.size w1 ws) (fun i _ => j - (intOf i).toNat)
            case atStart => exact ⟨0, Nat.zero_le _, rfl, hB⟩
            case round =>
              obtain ⟨q, hq, rfl, hC⟩ := hrel
              by_cases hqt : q < j
              · obtain ⟨z, hz⟩ : ∃ x, l[q]? = some x := ⟨_, List.getElem?_eq_getElem (by omega)⟩
                obtain ⟨k', d'⟩ := z
                have hne := HD.out.2.2 q hqt k' d' hz
                obtain ⟨b', off', cc, hp1, hc⟩ := (hr.below hC).at_some (by omega)
                simp only [Value.slice.injEq, Option.some.injEq, Addr.mk.injEq] at hp1
                obtain ⟨⟨rfl, rfl, -⟩, -, -⟩ := hp1
                obtain ⟨cy1, cy2⟩ := Ev.cells_at hc j (21, d) HX.out
                obtain ⟨cz1, cz2⟩ := Ev.cells_at hc q (k', d') hz
                have lz := World.block_lt_of_cell? _ _ cz1
                dsimp only at cy1 cy2 lz cz1 cz2
                have q0 : (0 : Int) ≤ (q : Int) := by omega
                have q1 : (q : Int) < (j : Int) := by omega
                have q2 : (q : Int) < 10 := by omega
                have e1 : (k' == 21) = false := by simpa using hne.1
                have b1 : ¬ d < d' := by omega
                have B1 : decide (d < d') = false := by simpa using b1
                clear hne hz hc
                go_wp2_with fail
                refine wp_region_class (by kernel_rfl) (by kernel_rfl) (fun hall => ?_)
                repeat (first | go_big_quiet_skip | (go_big_quiet_want; first | (refine quiet_load1 _ _ _ rfl rfl ?_ ?_ ?_; (focus (intro _; simp; done)); (focus (first | assumption | omega | (simp; done) | (simp; omega))); apply Exists.intro; refine ⟨?_, ?_⟩; assumption; go_simp; go_big_quiet_on) | (refine quiet_load2 _ _ _ _ rfl rfl ?_ ?_ ?_ ?_; (focus (intro _; simp; done)); (focus (intro _; simp; done)); (focus (first | assumption | omega | (simp; done) | (simp; omega))); apply Exists.intro; apply Exists.intro; refine ⟨?_, ?_, ?_⟩; assumption; assumption; go_simp; go_big_quiet_on) | (refine quiet_load3 _ _ _ _ rfl rfl ?_ ?_ ?_ ?_; (focus (intro _; simp; done)); (focus (intro _; simp; done)); (focus (first | assumption | omega | (simp; done) | (simp; omega))); apply Exists.intro; apply Exists.intro; apply Exists.intro; refine ⟨?_, ?_, ?_, ?_⟩; assumption; assumption; assumption; go_simp; go_big_quiet_on) | (refine quiet_load4 _ _ _ _ rfl rfl ?_ ?_ ?_ ?_; (focus (intro _; simp; done)); (focus (intro _; simp; done)); (focus (first | assumption | omega | (simp; done) | (simp; omega))); apply Exists.intro; apply Exists.intro; apply Exists.intro; apply Exists.intro; refine ⟨?_, ?_, ?_, ?_, ?_⟩; assumption; assumption; assumption; assumption; go_simp; go_big_quiet_on) | (go_big_quiet_op; first | go_big_quiet_on | (apply Exists.intro; refine ⟨fun x hx => ?_, ?_⟩; (first | fail); go_big_quiet_on))))
                refine wpQuiet_nil ?_
                clear hall
                intro x16 hx16
                go_wp2_with fail
                go_roundw
                case rel => exact ⟨q + 1, by omega, by go_num, bt hC hx16⟩
                case measure => simp [intOf]; omega
              · obtain rfl : q = j := by omega
                clear hqt
                go_wp2_with fail
                go_roundw
                case rel => exact ⟨q + 1, by omega, by go_num, hC⟩
                case measure => simp [intOf]; omega
          · have w2 : (d % 7 != 2) = true := by rw [c]; rfl
            have w3 : (d % 7 != 3) = false := by simpa using c
            clear c
            go_wp2_with fail
            go_loopw [8] (fun i ws => ∃ q : Nat, q ≤ j ∧ i = .int .i64 (q : Int) ∧ Below w1.heap.size w1 ws) (fun i _ => j - (intOf i).toNat)
            case atStart => exact ⟨0, Nat.zero_le _, rfl, hB⟩
            case round =>
              obtain ⟨q, hq, rfl, hC⟩ := hrel
              by_cases hqt : q < j
              · obtain ⟨z, hz⟩ : ∃ x, l[q]? = some x := ⟨_, List.getElem?_eq_getElem (by omega)⟩
                obtain ⟨k', d'⟩ := z
                have hne := HD.out.2.2 q hqt k' d' hz
                obtain ⟨b', off', cc, hp1, hc⟩ := (hr.below hC).at_some (by omega)
                simp only [Value.slice.injEq, Option.some.injEq, Addr.mk.injEq] at hp1
                obtain ⟨⟨rfl, rfl, -⟩, -, -⟩ := hp1
                obtain ⟨cy1, cy2⟩ := Ev.cells_at hc j (21, d) HX.out
                obtain ⟨cz1, cz2⟩ := Ev.cells_at hc q (k', d') hz
                have lz := World.block_lt_of_cell? _ _ cz1
                dsimp only at cy1 cy2 lz cz1 cz2
                have q0 : (0 : Int) ≤ (q : Int) := by omega
                have q1 : (q : Int) < (j : Int) := by omega
                have q2 : (q : Int) < 10 := by omega
                have e1 : (k' == 21) = false := by simpa using hne.1
                have b1 : ¬ d < d' := by omega
                have B1 : decide (d < d') = false := by simpa using b1
                clear hne hz hc
                go_wp2_with fail
                refine wp_region_class (by kernel_rfl) (by kernel_rfl) (fun hall => ?_)
                repeat (first | go_big_quiet_skip | (go_big_quiet_want; first | (refine quiet_load1 _ _ _ rfl rfl ?_ ?_ ?_; (focus (intro _; simp; done)); (focus (first | assumption | omega | (simp; done) | (simp; omega))); apply Exists.intro; refine ⟨?_, ?_⟩; assumption; go_simp; go_big_quiet_on) | (refine quiet_load2 _ _ _ _ rfl rfl ?_ ?_ ?_ ?_; (focus (intro _; simp; done)); (focus (intro _; simp; done)); (focus (first | assumption | omega | (simp; done) | (simp; omega))); apply Exists.intro; apply Exists.intro; refine ⟨?_, ?_, ?_⟩; assumption; assumption; go_simp; go_big_quiet_on) | (refine quiet_load3 _ _ _ _ rfl rfl ?_ ?_ ?_ ?_; (focus (intro _; simp; done)); (focus (intro _; simp; done)); (focus (first | assumption | omega | (simp; done) | (simp; omega))); apply Exists.intro; apply Exists.intro; apply Exists.intro; refine ⟨?_, ?_, ?_, ?_⟩; assumption; assumption; assumption; go_simp; go_big_quiet_on) | (refine quiet_load4 _ _ _ _ rfl rfl ?_ ?_ ?_ ?_; (focus (intro _; simp; done)); (focus (intro _; simp; done)); (focus (first | assumption | omega | (simp; done) | (simp; omega))); apply Exists.intro; apply Exists.intro; apply Exists.intro; apply Exists.intro; refine ⟨?_, ?_, ?_, ?_, ?_⟩; assumption; assumption; assumption; assumption; go_simp; go_big_quiet_on) | (go_big_quiet_op; first | go_big_quiet_on | (apply Exists.intro; refine ⟨fun x hx => ?_, ?_⟩; (first | fail); go_big_quiet_on))))
                refine wpQuiet_nil ?_
                clear hall
                intro x16 hx16
                go_wp2_with fail
                go_roundw
                case rel => exact ⟨q + 1, by omega, by go_num, bt hC hx16⟩
                case measure => simp [intOf]; omega
              · obtain rfl : q = j := by omega
                clear hqt
                go_wp2_with fail
                go_roundw
                case rel => exact ⟨q + 1, by omega, by go_num, hC⟩
                case measure => simp [intOf]; omega
          · have w2 : (d % 7 != 2) = true := by rw [c]; rfl
            have w3 : (d % 7 != 3) = true := by rw [c]; rfl
            have w4 : (d % 7 != 4) = false := by simpa using c
            clear c
            go_wp2_with fail
            go_loopw [8] (fun i ws => ∃ q : Nat, q ≤ j ∧ i = .int .i64 (q : Int) ∧ Below w1.heap.size w1 ws) (fun i _ => j - (intOf i).toNat)
            case atStart => exact ⟨0, Nat.zero_le _, rfl, hB⟩
            case round =>
              obtain ⟨q, hq, rfl, hC⟩ := hrel
              by_cases hqt : q < j
              · obtain ⟨z, hz⟩ : ∃ x, l[q]? = some x := ⟨_, List.getElem?_eq_getElem (by omega)⟩
                obtain ⟨k', d'⟩ := z
                have hne := HD.out.2.2 q hqt k' d' hz
                obtain ⟨b', off', cc, hp1, hc⟩ := (hr.below hC).at_some (by omega)
                simp only [Value.slice.injEq, Option.some.injEq, Addr.mk.injEq] at hp1
                obtain ⟨⟨rfl, rfl, -⟩, -, -⟩ := hp1
                obtain ⟨cy1, cy2⟩ := Ev.cells_at hc j (21, d) HX.out
                obtain ⟨cz1, cz2⟩ := Ev.cells_at hc q (k', d') hz
                have lz := World.block_lt_of_cell? _ _ cz1
                dsimp only at cy1 cy2 lz cz1 cz2
                have q0 : (0 : Int) ≤ (q : Int) := by omega
                have q1 : (q : Int) < (j : Int) := by omega
                have q2 : (q : Int) < 10 := by omega
                have e1 : (k' == 21) = false := by simpa using hne.1
                have b1 : ¬ d < d' := by omega
                have B1 : decide (d < d') = false := by simpa using b1
                clear hne hz hc
                go_wp2_with fail
                refine wp_region_class (by kernel_rfl) (by kernel_rfl) (fun hall => ?_)
                repeat (first | go_big_quiet_skip | (go_big_quiet_want; first | (refine quiet_load1 _ _ _ rfl rfl ?_ ?_ ?_; (focus (intro _; simp; done)); (focus (first | assumption | omega | (simp; done) | (simp; omega))); apply Exists.intro; refine ⟨?_, ?_⟩; assumption; go_simp; go_big_quiet_on) | (refine quiet_load2 _ _ _ _ rfl rfl ?_ ?_ ?_ ?_; (focus (intro _; simp; done)); (focus (intro _; simp; done)); (focus (first | assumption | omega | (simp; done) | (simp; omega))); apply Exists.intro; apply Exists.intro; refine ⟨?_, ?_, ?_⟩; assumption; assumption; go_simp; go_big_quiet_on) | (refine quiet_load3 _ _ _ _ rfl rfl ?_ ?_ ?_ ?_; (focus (intro _; simp; done)); (focus (intro _; simp; done)); (focus (first | assumption | omega | (simp; done) | (simp; omega))); apply Exists.intro; apply Exists.intro; apply Exists.intro; refine ⟨?_, ?_, ?_, ?_⟩; assumption; assumption; assumption; go_simp; go_big_quiet_on) | (refine quiet_load4 _ _ _ _ rfl rfl ?_ ?_ ?_ ?_; (focus (intro _; simp; done)); (focus (intro _; simp; done)); (focus (first | assumption | omega | (simp; done) | (simp; omega))); apply Exists.intro; apply Exists.intro; apply Exists.intro; apply Exists.intro; refine ⟨?_, ?_, ?_, ?_, ?_⟩; assumption; assumption; assumption; assumption; go_simp; go_big_quiet_on) | (go_big_quiet_op; first | go_big_quiet_on | (apply Exists.intro; refine ⟨fun x hx => ?_, ?_⟩; (first | fail); go_big_quiet_on))))
                refine wpQuiet_nil ?_
                clear hall
                intro x16 hx16
                go_wp2_with fail
                go_roundw
                case rel => exact ⟨q + 1, by omega, by go_num, bt hC hx16⟩
                case measure => simp [intOf]; omega
              · obtain rfl : q = j := by omega
                clear hqt
                go_wp2_with fail
                go_roundw
                case rel => exact ⟨q + 1, by omega, by go_num, hC⟩
                case measure => simp [intOf]; omega
        · have k2 : (kd == 21) = false := by simpa using c21
          clear c21
          go_wp2_with fail
          go_loopw [8] (fun i ws => ∃ q : Nat, q ≤ j ∧ i = .int .i64 (q : Int) ∧ Below w1.heap.size w1 ws) (fun i _ => j - (intOf i).toNat)
          case atStart => exact ⟨0, Nat.zero_le _, rfl, hB⟩
          case round =>
            obtain ⟨q, hq, rfl, hC⟩ := hrel
            by_cases hqt : q < j
            · obtain ⟨z, hz⟩ : ∃ x, l[q]? = some x := ⟨_, List.getElem?_eq_getElem (by omega)⟩
              obtain ⟨k', d'⟩ := z
              have hne := HD.out.2.2 q hqt k' d' hz
              obtain ⟨b', off', cc, hp1, hc⟩ := (hr.below hC).at_some (by omega)
              simp only [Value.slice.injEq, Option.some.injEq, Addr.mk.injEq] at hp1
              obtain ⟨⟨rfl, rfl, -⟩, -, -⟩ := hp1
              obtain ⟨cy1, cy2⟩ := Ev.cells_at hc j (kd, d) HX.out
              obtain ⟨cz1, cz2⟩ := Ev.cells_at hc q (k', d') hz
              have lz := World.block_lt_of_cell? _ _ cz1
              dsimp only at cy1 cy2 lz cz1 cz2
              have q0 : (0 : Int) ≤ (q : Int) := by omega
              have q1 : (q : Int) < (j : Int) := by omega
              have q2 : (q : Int) < 10 := by omega
              have e1 : (k' == kd) = false := by simpa using hne.1
              have b1 : ¬ d < d' := by omega
              have B1 : decide (d < d') = false := by simpa using b1
              clear hne hz hc
              go_wp2_with fail
              refine wp_region_class (by kernel_rfl) (by kernel_rfl) (fun hall => ?_)
              repeat (first | go_big_quiet_skip | (go_big_quiet_want; first | (refine quiet_load1 _ _ _ rfl rfl ?_ ?_ ?_; (focus (intro _; simp; done)); (focus (first | assumption | omega | (simp; done) | (simp; omega))); apply Exists.intro; refine ⟨?_, ?_⟩; assumption; go_simp; go_big_quiet_on) | (refine quiet_load2 _ _ _ _ rfl rfl ?_ ?_ ?_ ?_; (focus (intro _; simp; done)); (focus (intro _; simp; done)); (focus (first | assumption | omega | (simp; done) | (simp; omega))); apply Exists.intro; apply Exists.intro; refine ⟨?_, ?_, ?_⟩; assumption; assumption; go_simp; go_big_quiet_on) | (refine quiet_load3 _ _ _ _ rfl rfl ?_ ?_ ?_ ?_; (focus (intro _; simp; done)); (focus (intro _; simp; done)); (focus (first | assumption | omega | (simp; done) | (simp; omega))); apply Exists.intro; apply Exists.intro; apply Exists.intro; refine ⟨?_, ?_, ?_, ?_⟩; assumption; assumption; assumption; go_simp; go_big_quiet_on) | (refine quiet_load4 _ _ _ _ rfl rfl ?_ ?_ ?_ ?_; (focus (intro _; simp; done)); (focus (intro _; simp; done)); (focus (first | assumption | omega | (simp; done) | (simp; omega))); apply Exists.intro; apply Exists.intro; apply Exists.intro; apply Exists.intro; refine ⟨?_, ?_, ?_, ?_, ?_⟩; assumption; assumption; assumption; assumption; go_simp; go_big_quiet_on) | (go_big_quiet_op; first | go_big_quiet_on | (apply Exists.intro; refine ⟨fun x hx => ?_, ?_⟩; (first | fail); go_big_quiet_on))))
              refine wpQuiet_nil ?_
              clear hall
              intro x16 hx16
              go_wp2_with fail
              go_roundw
              case rel => exact ⟨q + 1, by omega, by go_num, bt hC hx16⟩
              case measure => simp [intOf]; omega
            · obtain rfl : q = j := by omega
              clear hqt
              go_wp2_with fail
              go_roundw
              case rel => exact ⟨q + 1, by omega, by go_num, hC⟩
              case measure => simp [intOf]; omega
    · obtain rfl : j = 10 := by omega
      clear hlt
      have hBw : Below w.heap.size w wr := bt hb1 hB
      go_wp2_with fail
      refine (HAw.out _ (Tab.below hT (by repeat (first | (with_reducible exact Below.refl _ _) | (with_reducible assumption) | (with_reducible refine bdrew ?_) | (with_reducible refine baa ?_ _) | (with_reducible refine bs ?_ (by first | exact Nat.le_refl _ | omega | (simp; done) | (simp; omega)) _) | (with_reducible refine bt ?_ (by with_reducible assumption))))) (Tab.below hL (by repeat (first | (with_reducible exact Below.refl _ _) | (with_reducible assumption) | (with_reducible refine bdrew ?_) | (with_reducible refine baa ?_ _) | (with_reducible refine bs ?_ (by first | exact Nat.le_refl _ | omega | (simp; done) | (simp; omega)) _) | (with_reducible refine bt ?_ (by with_reducible assumption))))) (Tab.below hF (by repeat (first | (with_reducible exact Below.refl _ _) | (with_reducible assumption) | (with_reducible refine bdrew ?_) | (with_reducible refine baa ?_ _) | (with_reducible refine bs ?_ (by first | exact Nat.le_refl _ | omega | (simp; done) | (simp; omega)) _) | (with_reducible refine bt ?_ (by with_reducible assumption)))))).mono ?_
      rintro e w9 ⟨rfl, hb9⟩
      go_wp2_with fail
      go_ret
      exact ⟨rfl, bt hBw hb9⟩
theorem FastSabbath_walk (y : Int) (hy : 0 ≤ y ∧ y ≤ 65535) (w : World) (hT : Tab w 3 kevCells) (hL : Tab w 2 lenCells) (hF : Tab w 1 Fa.cells) :
    Calls Tryd.prog 7 #[.int .u16 y] w fun e w' => e = .returned (.bool true) ∧ Below w.heap.size w w' := by
  obtain ⟨i, hi⟩ := Yr.is_some (1 + y % 9999) (by omega) (by omega)
  have hAw := Lib.hid (fun w hT hL hF => awake20 w hT hL hF)
  have hc := List.all_eq_true.1 Fa.all_chk i (List.mem_range.2 hi.2.2.1)
  exact FastSabbath_go y ((Fa.fastL i).map (Ev.sh (Cal.first (1 + y % 9999)))) w hy hT hL hF (by rw [List.length_map, Fa.len_ok i hi.2.2.1]) (Lib.hid (fun w hT hL hF => fast_Of_at (1 + y % 9999) i w hi hT hL hF)) (Lib.hid (Fa.chk_ok hi.2.2.2.1 hc)) hAw
end Go.Proofs.YtagmdglmflcegaaDoor
