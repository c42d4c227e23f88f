/- Layer 19: FeastDays. -/
import Derived.Test.YtagmdglmflcegaaDoorW19
namespace Go.Proofs.YtagmdglmflcegaaDoor
open Go.ChangeShapes Go.WideShapes Go.ChangeAt Go.RowKit Go.Lib Go.Sort Go.Shelf
set_option linter.unusedVariables false
set_option maxRecDepth 100000
namespace Fe
def seen (l : List (Int × Int)) : Int := ((l.filter fun x => x.1 == 17).length : Int)
theorem seen_next (l : List (Int × Int)) (j : Nat) (kd d : Int) (h : l[j]? = some (kd, d)) : seen (l.take (j + 1)) = if kd = 17 then seen (l.take j) + 1 else seen (l.take j) := by
  unfold seen
  rw [List.take_add_one, h]
  by_cases c : kd = 17
  · simp [c]
  · simp [c]
theorem seen_bd (l : List (Int × Int)) (j : Nat) : 0 ≤ seen (l.take j) ∧ seen (l.take j) ≤ j := by
  unfold seen
  have h1 := List.length_filter_le (fun x : Int × Int => x.1 == 17) (l.take j)
  have h2 := List.length_take_le j l
  omega
theorem seen_sh (F : Int) (l : List (Int × Int)) : seen (l.map (Ev.sh F)) = seen l := by
  unfold seen
  rw [List.filter_map, List.length_map]
  rfl
/-- What the law asks of the j-th one. -/
def dayOk (F N : Int) (l : List (Int × Int)) (j : Nat) (kd d : Int) : Prop :=
  F ≤ d ∧ d < N ∧ (∀ kd' d', j ≠ 0 → l[j - 1]? = some (kd', d') → d' ≤ d ∧ ¬ (kd = kd' ∧ d = d')) ∧ (kd = 1 → d = F → d % 7 ≠ 0 ∧ d % 7 ≠ 3 ∧ d % 7 ≠ 5) ∧ (kd = 14 → d % 7 ≠ 6 ∧ d % 7 ≠ 1 ∧ d % 7 ≠ 3) ∧ (kd = 17 → seen (l.take j) = 0 → d % 7 ≠ 1 ∧ d % 7 ≠ 3 ∧ d % 7 ≠ 5)
def chk (b n : Int) (O : List (Int × Int)) : Bool := (List.range O.length).all fun j => match O[j]? with
  | some (kd, o) => decide (0 ≤ o) && (decide (o < n) && ((j == 0 || (match O[j - 1]? with | some (kd', o') => decide (o' ≤ o) && !(kd == kd' && o == o') | none => true)) && ((!(kd == 1 && o == 0) || ![0, 3, 5].contains ((b + o) % 7)) && ((!(kd == 14) || ![6, 1, 3].contains ((b + o) % 7)) && (!(kd == 17 && seen (O.take j) == 0) || ![1, 3, 5].contains ((b + o) % 7))))))
  | none => true
theorem chk_ok {b n F N : Int} {O : List (Int × Int)} (hb : F % 7 = b) (hN : N = F + n) (h : chk b n O = true) (j : Nat) (kd d : Int) (hj : (O.map (Ev.sh F))[j]? = some (kd, d)) : dayOk F N (O.map (Ev.sh F)) j kd d := by
  rw [List.getElem?_map] at hj
  cases hO : O[j]? with
  | none => rw [hO] at hj; simp at hj
  | some x =>
    obtain ⟨kd', o⟩ := x
    rw [hO] at hj
    simp only [Option.map_some, Option.some.injEq, Ev.sh, Prod.mk.injEq] at hj
    obtain ⟨rfl, rfl⟩ := hj
    have hlt := (List.getElem?_eq_some_iff.1 hO).1
    have hc := List.all_eq_true.1 h j (List.mem_range.2 hlt)
    rw [hO] at hc
    simp only [Bool.and_eq_true, decide_eq_true_eq] at hc
    obtain ⟨c1, c2, c3, c4, c5, c6⟩ := hc
    have hm : (F + o) % 7 = (b + o) % 7 := by omega
    refine ⟨by omega, by omega, fun kd' d' hj0 hp => ?_, fun e1 e2 => ?_, fun e1 => ?_, fun e1 e2 => ?_⟩
    · rw [List.getElem?_map] at hp
      cases hO1 : O[j - 1]? with
      | none => rw [hO1] at hp; simp at hp
      | some y =>
        obtain ⟨k2, o2⟩ := y
        rw [hO1] at hp c3
        simp only [Option.map_some, Option.some.injEq, Ev.sh, Prod.mk.injEq] at hp
        obtain ⟨rfl, rfl⟩ := hp
        simp [hj0] at c3
        exact ⟨by omega, fun g => by have q := c3.2; omega⟩
    · have : o = 0 := by omega
      simp [e1, this] at c4
      rw [hm, this]; simpa using c4
    · simp [e1] at c5
      rw [hm]; simpa using c5
    · rw [← List.map_take, seen_sh] at e2
      simp [e1, e2] at c6
      rw [hm]; simpa using c6
theorem all_chk : ((List.range 14).all fun i => [false, true].all fun p => chk (kevB i) (Yr.lenV i) (feastL i p) && (decide (seen (feastL i p) = (if p then 2 else 4)) && decide ((feastL i p).length ≤ 60))) = true := by decide +kernel
end Fe
set_option maxHeartbeats 16000000 in
theorem FeastDays_0 (y p F N : Int) (n : Nat) (l : List (Int × Int)) (w : World) (hy : 0 ≤ y ∧ y ≤ 65535) (hp0 : 0 ≤ p ∧ p ≤ 255) (hp : p % 2 = 0) (hT : Tab w 3 kevCells) (hL : Tab w 2 lenCells) (hF : Tab w 0 Fe.cells) (hl : l.length = n) (hn : n ≤ 60)
    (HO : Hid (∀ w : World, Tab w 3 kevCells → Tab w 2 lenCells → Tab w 0 Fe.cells → Calls Tryd.prog 13 #[.int .i64 (1 + y % 9999), .int .i64 0] w fun e w' => ∃ v, e = .returned (.tuple #[v, .int .i64 0]) ∧ Ev.Own w' w.heap.size v l ∧ Below w.heap.size w w'))
    (H1 : Hid (∀ w : World, Calls Tryd.prog 21 #[.int .i64 (1 + y % 9999)] w fun e w' => e = .returned (.tuple #[.int .i64 F, .int .i64 0]) ∧ Below w.heap.size w w'))
    (H2 : Hid (∀ w : World, Calls Tryd.prog 21 #[.int .i64 ((1 + y % 9999) + 1)] w fun e w' => e = .returned (.tuple #[.int .i64 N, .int .i64 0]) ∧ Below w.heap.size w w'))
    (HDs : Hid (∀ j kd d, l[j]? = some (kd, d) → Fe.dayOk F N l j kd d)) (HT : Hid (Fe.seen l = 4)) (HAw : Hid (∀ w : World, Tab w 3 kevCells → Tab w 2 lenCells → Tab w 0 Fe.cells → Calls Tryd.prog 12 #[] w fun e w' => e = .returned (.bool true) ∧ Below w.heap.size w w')) :
    Calls Tryd.prog 4 #[.int .u16 y, .int .u8 p] w fun e w' => e = .returned (.bool true) ∧ Below w.heap.size w w' := by
  have HW := Lib.hid (fun d w => ref4_Weekday d w)
  have y0 : 0 ≤ y % 9999 := by omega
  have y1 : y % 9999 < 9999 := by omega
  go_enter Tryd.func4, Tryd.ntmps4
  go_wp2_with fail
  refine (HO.out _ (Tab.below hT (by repeat (first | (with_reducible exact Below.refl _ _) | (with_reducible assumption) | (with_reducible refine bdrew ?_) | (with_reducible refine baa ?_ _) | (with_reducible refine bs ?_ (by first | exact Nat.le_refl _ | omega | (simp; done) | (simp; omega)) _) | (with_reducible refine bt ?_ (by with_reducible assumption))))) (Tab.below hL (by repeat (first | (with_reducible exact Below.refl _ _) | (with_reducible assumption) | (with_reducible refine bdrew ?_) | (with_reducible refine baa ?_ _) | (with_reducible refine bs ?_ (by first | exact Nat.le_refl _ | omega | (simp; done) | (simp; omega)) _) | (with_reducible refine bt ?_ (by with_reducible assumption))))) (Tab.below hF (by repeat (first | (with_reducible exact Below.refl _ _) | (with_reducible assumption) | (with_reducible refine bdrew ?_) | (with_reducible refine baa ?_ _) | (with_reducible refine bs ?_ (by first | exact Nat.le_refl _ | omega | (simp; done) | (simp; omega)) _) | (with_reducible refine bt ?_ (by with_reducible assumption)))))).mono ?_
  rintro e w1 ⟨v1, rfl, ho1, hb1⟩
  have hr := ho1.row
  obtain ⟨p1, c1, rfl⟩ := hr.len
  rw [hl]
  go_wp2_with fail
  refine (H1.out _).mono ?_
  rintro e w2 ⟨rfl, hb2⟩
  go_wp2_with fail
  refine (H2.out _).mono ?_
  rintro e w3 ⟨rfl, hb3⟩
  go_wp2_with fail
  have hr3 := hr.below (bt hb2 hb3)
  have hB3 : Below w.heap.size w w3 := bt hb1 (bt hb2 hb3)
  clear ho1 hr hb1 hb2 hb3
  go_loopw [12, 13] (fun s i wr => ∃ j : Nat, j ≤ n ∧ i = .int .i64 (j : Int) ∧ s = .int .i64 (Fe.seen (l.take j)) ∧ Below w3.heap.size w3 wr) (fun _ i _ => n - (intOf i).toNat)
  case atStart => exact ⟨0, Nat.zero_le _, rfl, rfl, Below.refl _ _⟩
  case round =>
    obtain ⟨j, hj, rfl, rfl, hB⟩ := hrel
    have hbd := Fe.seen_bd l j
    by_cases hlt : j < n
    · obtain ⟨x, hx⟩ : ∃ x, l[j]? = some x := ⟨_, List.getElem?_eq_getElem (by omega)⟩
      obtain ⟨kd, d⟩ := x
      have HS := Lib.hid (Fe.seen_next l j kd d hx)
      have HD := Lib.hid (HDs.out j kd d hx)
      obtain ⟨b, off, cc, hp1, hc⟩ := (hr3.below hB).at_some (by omega)
      simp only [Value.slice.injEq] at hp1
      obtain ⟨rfl, _, rfl⟩ := hp1
      obtain ⟨cx1, cx2⟩ := Ev.cells_at hc j (kd, d) hx
      have lx := World.block_lt_of_cell? _ _ cx1
      dsimp only at lx cx1 cx2
      have j0 : (0 : Int) ≤ (j : Int) := by omega
      have j1 : (j : Int) < (n : Int) := by omega
      have j2 : (j : Int) ≤ 60 := by omega
      obtain ⟨sn, hsn⟩ : ∃ s, Fe.seen (l.take j) = s := ⟨_, rfl⟩
      rw [hsn] at hbd HS ⊢
      have HSn := Lib.hid hsn
      have b1 : ¬ d < F := by have := HD.out.1; omega
      have b2 : ¬ N ≤ d := by have := HD.out.2.1; omega
      have B1 : decide (d < F) = false := by simpa using b1
      have B2 : decide (N ≤ d) = false := by simpa using b2
      clear hx hsn
      go_wp2_with fail
      refine (HW.out d _).mono ?_
      rintro e w' ⟨rfl, rfl⟩
      go_wp2_with fail
      by_cases hj0 : j = 0
      · have hz : ¬ 0 < j := by omega
        clear hj0 hc
        refine wp_region_class (by kernel_rfl) (by kernel_rfl) (fun hall => ?_)
        repeat (first | go_big_quiet_skip | (go_big_quiet_want; first | (refine quiet_load1 _ _ _ rfl rfl ?_ ?_ ?_; (focus (intro _; simp; done)); (focus (first | assumption | omega | (simp; done) | (simp; omega))); apply Exists.intro; refine ⟨?_, ?_⟩; assumption; go_simp; go_big_quiet_on) | (refine quiet_load2 _ _ _ _ rfl rfl ?_ ?_ ?_ ?_; (focus (intro _; simp; done)); (focus (intro _; simp; done)); (focus (first | assumption | omega | (simp; done) | (simp; omega))); apply Exists.intro; apply Exists.intro; refine ⟨?_, ?_, ?_⟩; assumption; assumption; go_simp; go_big_quiet_on) | (refine quiet_load3 _ _ _ _ rfl rfl ?_ ?_ ?_ ?_; (focus (intro _; simp; done)); (focus (intro _; simp; done)); (focus (first | assumption | omega | (simp; done) | (simp; omega))); apply Exists.intro; apply Exists.intro; apply Exists.intro; refine ⟨?_, ?_, ?_, ?_⟩; assumption; assumption; assumption; go_simp; go_big_quiet_on) | (refine quiet_load4 _ _ _ _ rfl rfl ?_ ?_ ?_ ?_; (focus (intro _; simp; done)); (focus (intro _; simp; done)); (focus (first | assumption | omega | (simp; done) | (simp; omega))); apply Exists.intro; apply Exists.intro; apply Exists.intro; apply Exists.intro; refine ⟨?_, ?_, ?_, ?_, ?_⟩; assumption; assumption; assumption; assumption; go_simp; go_big_quiet_on) | (go_big_quiet_op; first | go_big_quiet_on | (apply Exists.intro; refine ⟨fun x hx => ?_, ?_⟩; (first | fail); go_big_quiet_on))))
        refine wpQuiet_nil ?_
        clear hall
        intro x10 hx10
        have dx1 := (hx10.cell lx).trans cx1
        have dx2 := (hx10.cell lx).trans cx2
        have lx2 : b < x10.heap.size := World.block_lt_of_cell? _ _ dx1
        have hB10 : Below w3.heap.size w3 x10 := bt hB hx10
        by_cases k1 : kd = 1
        · subst k1
          have HK : Hid (¬ (1 : Int) = 17) := Lib.hid (by omega)
          by_cases e1 : d = F
          · have ee := (HD.out.2.2.2.1 rfl e1)
            have e2 : (d == F) = true := by simpa using e1
            have w0 : (d % 7 == 0) = false := by simpa using ee.1
            have w3 : (d % 7 == 3) = false := by simpa using ee.2.1
            have w5 : (d % 7 == 5) = false := by simpa using ee.2.2
            clear ee e1
            go_wp2_with fail
            go_roundw
            case rel => exact ⟨j + 1, by omega, by go_num, by rw [HS.out, if_neg HK.out], hB10⟩
            case measure => simp [intOf]; omega
          · have e2 : (d == F) = false := by simpa using e1
            clear e1
            go_wp2_with fail
            go_roundw
            case rel => exact ⟨j + 1, by omega, by go_num, by rw [HS.out, if_neg HK.out], hB10⟩
            case measure => simp [intOf]; omega
        by_cases k2 : kd = 14
        · subst k2
          have HK : Hid (¬ (14 : Int) = 17) := Lib.hid (by omega)
          have ee := (HD.out.2.2.2.2.1 rfl)
          have w6 : (d % 7 == 6) = false := by simpa using ee.1
          have w1 : (d % 7 == 1) = false := by simpa using ee.2.1
          have w3 : (d % 7 == 3) = false := by simpa using ee.2.2
          clear ee k1
          go_wp2_with fail
          go_roundw
          case rel => exact ⟨j + 1, by omega, by go_num, by rw [HS.out, if_neg HK.out], hB10⟩
          case measure => simp [intOf]; omega
        by_cases k3 : kd = 17
        · subst k3
          clear k1 k2
          by_cases e1 : sn = 0
          · have ee := (HD.out.2.2.2.2.2 rfl (HSn.out.trans e1))
            have w1 : (d % 7 == 1) = false := by simpa using ee.1
            have w3 : (d % 7 == 3) = false := by simpa using ee.2.1
            have w5 : (d % 7 == 5) = false := by simpa using ee.2.2
            have e2 : (sn == 0) = true := by simpa using e1
            clear ee e1
            go_wp2_with fail
            go_roundw
            case rel => exact ⟨j + 1, by omega, by go_num, by rw [HS.out, if_pos rfl], hB10⟩
            case measure => simp [intOf]; omega
          · have e2 : (sn == 0) = false := by simpa using e1
            clear e1
            go_wp2_with fail
            go_roundw
            case rel => exact ⟨j + 1, by omega, by go_num, by rw [HS.out, if_pos rfl], hB10⟩
            case measure => simp [intOf]; omega
        have q1 : (kd == 1) = false := by simpa using k1
        have q2 : (kd == 14) = false := by simpa using k2
        have q3 : (kd == 17) = false := by simpa using k3
        have HK := Lib.hid k3
        clear k1 k2 k3
        go_wp2_with fail
        go_roundw
        case rel => exact ⟨j + 1, by omega, by go_num, by rw [HS.out, if_neg HK.out], hB10⟩
        case measure => simp [intOf]; omega
      · obtain ⟨q, hq⟩ : ∃ q, j = q + 1 := ⟨j - 1, by omega⟩
        obtain ⟨z, hz⟩ : ∃ z, l[q]? = some z := ⟨_, List.getElem?_eq_getElem (by omega)⟩
        obtain ⟨k', d'⟩ := z
        obtain ⟨cz1, cz2⟩ := Ev.cells_at hc q (k', d') hz
        dsimp only at cz1 cz2
        have hpv := HD.out.2.2.1 k' d' hj0 (by rw [hq]; exact hz)
        have hz2 : 0 < j := by omega
        have e0 : (j : Int) = (q : Int) + 1 := by omega
        have q0 : (0 : Int) ≤ (q : Int) := by omega
        have q1 : (q : Int) < (n : Int) := by omega
        have q2 : (j : Int) - 1 = (q : Int) := by omega
        have b3 : ¬ d < d' := by omega
        have hpr := hpv.2
        have B3 : decide (d < d') = false := by simpa using b3
        clear hpv hz hc hj0 hq e0
        rcases Decidable.em (kd = k') with c | c
        · subst c
          have c2 : (d == d') = false := by rw [beq_eq_false_iff_ne]; exact fun g => hpr ⟨rfl, g⟩
          clear hpr
          refine wp_region_class (by kernel_rfl) (by kernel_rfl) (fun hall => ?_)
          repeat (first | go_big_quiet_skip | (go_big_quiet_want; first | (refine quiet_load1 _ _ _ rfl rfl ?_ ?_ ?_; (focus (intro _; simp; done)); (focus (first | assumption | omega | (simp; done) | (simp; omega))); apply Exists.intro; refine ⟨?_, ?_⟩; assumption; go_simp; go_big_quiet_on) | (refine quiet_load2 _ _ _ _ rfl rfl ?_ ?_ ?_ ?_; (focus (intro _; simp; done)); (focus (intro _; simp; done)); (focus (first | assumption | omega | (simp; done) | (simp; omega))); apply Exists.intro; apply Exists.intro; refine ⟨?_, ?_, ?_⟩; assumption; assumption; go_simp; go_big_quiet_on) | (refine quiet_load3 _ _ _ _ rfl rfl ?_ ?_ ?_ ?_; (focus (intro _; simp; done)); (focus (intro _; simp; done)); (focus (first | assumption | omega | (simp; done) | (simp; omega))); apply Exists.intro; apply Exists.intro; apply Exists.intro; refine ⟨?_, ?_, ?_, ?_⟩; assumption; assumption; assumption; go_simp; go_big_quiet_on) | (refine quiet_load4 _ _ _ _ rfl rfl ?_ ?_ ?_ ?_; (focus (intro _; simp; done)); (focus (intro _; simp; done)); (focus (first | assumption | omega | (simp; done) | (simp; omega))); apply Exists.intro; apply Exists.intro; apply Exists.intro; apply Exists.intro; refine ⟨?_, ?_, ?_, ?_, ?_⟩; assumption; assumption; assumption; assumption; go_simp; go_big_quiet_on) | (go_big_quiet_op; first | go_big_quiet_on | (apply Exists.intro; refine ⟨fun x hx => ?_, ?_⟩; (first | fail); go_big_quiet_on))))
          refine wpQuiet_nil ?_
          clear hall
          intro x10 hx10
          have dx1 := (hx10.cell lx).trans cx1
          have dx2 := (hx10.cell lx).trans cx2
          have lx2 : b < x10.heap.size := World.block_lt_of_cell? _ _ dx1
          have hB10 : Below w3.heap.size w3 x10 := bt hB hx10
          by_cases k1 : kd = 1
          · subst k1
            have HK : Hid (¬ (1 : Int) = 17) := Lib.hid (by omega)
            by_cases e1 : d = F
            · have ee := (HD.out.2.2.2.1 rfl e1)
              have e2 : (d == F) = true := by simpa using e1
              have w0 : (d % 7 == 0) = false := by simpa using ee.1
              have w3 : (d % 7 == 3) = false := by simpa using ee.2.1
              have w5 : (d % 7 == 5) = false := by simpa using ee.2.2
              clear ee e1
              go_wp2_with fail
              go_roundw
              case rel => exact ⟨j + 1, by omega, by go_num, by rw [HS.out, if_neg HK.out], hB10⟩
              case measure => simp [intOf]; omega
            · have e2 : (d == F) = false := by simpa using e1
              clear e1
              go_wp2_with fail
              go_roundw
              case rel => exact ⟨j + 1, by omega, by go_num, by rw [HS.out, if_neg HK.out], hB10⟩
              case measure => simp [intOf]; omega
          by_cases k2 : kd = 14
          · subst k2
            have HK : Hid (¬ (14 : Int) = 17) := Lib.hid (by omega)
            have ee := (HD.out.2.2.2.2.1 rfl)
            have w6 : (d % 7 == 6) = false := by simpa using ee.1
            have w1 : (d % 7 == 1) = false := by simpa using ee.2.1
            have w3 : (d % 7 == 3) = false := by simpa using ee.2.2
            clear ee k1
            go_wp2_with fail
            go_roundw
            case rel => exact ⟨j + 1, by omega, by go_num, by rw [HS.out, if_neg HK.out], hB10⟩
            case measure => simp [intOf]; omega
          by_cases k3 : kd = 17
          · subst k3
            clear k1 k2
            by_cases e1 : sn = 0
            · have ee := (HD.out.2.2.2.2.2 rfl (HSn.out.trans e1))
              have w1 : (d % 7 == 1) = false := by simpa using ee.1
              have w3 : (d % 7 == 3) = false := by simpa using ee.2.1
              have w5 : (d % 7 == 5) = false := by simpa using ee.2.2
              have e2 : (sn == 0) = true := by simpa using e1
              clear ee e1
              go_wp2_with fail
              go_roundw
              case rel => exact ⟨j + 1, by omega, by go_num, by rw [HS.out, if_pos rfl], hB10⟩
              case measure => simp [intOf]; omega
            · have e2 : (sn == 0) = false := by simpa using e1
              clear e1
              go_wp2_with fail
              go_roundw
              case rel => exact ⟨j + 1, by omega, by go_num, by rw [HS.out, if_pos rfl], hB10⟩
              case measure => simp [intOf]; omega
          have q1 : (kd == 1) = false := by simpa using k1
          have q2 : (kd == 14) = false := by simpa using k2
          have q3 : (kd == 17) = false := by simpa using k3
          have HK := Lib.hid k3
          clear k1 k2 k3
          go_wp2_with fail
          go_roundw
          case rel => exact ⟨j + 1, by omega, by go_num, by rw [HS.out, if_neg HK.out], hB10⟩
          case measure => simp [intOf]; omega
        · have c2 : (kd == k') = false := by rw [beq_eq_false_iff_ne]; exact c
          clear hpr c
          refine wp_region_class (by kernel_rfl) (by kernel_rfl) (fun hall => ?_)
          repeat (first | go_big_quiet_skip | (go_big_quiet_want; first | (refine quiet_load1 _ _ _ rfl rfl ?_ ?_ ?_; (focus (intro _; simp; done)); (focus (first | assumption | omega | (simp; done) | (simp; omega))); apply Exists.intro; refine ⟨?_, ?_⟩; assumption; go_simp; go_big_quiet_on) | (refine quiet_load2 _ _ _ _ rfl rfl ?_ ?_ ?_ ?_; (focus (intro _; simp; done)); (focus (intro _; simp; done)); (focus (first | assumption | omega | (simp; done) | (simp; omega))); apply Exists.intro; apply Exists.intro; refine ⟨?_, ?_, ?_⟩; assumption; assumption; go_simp; go_big_quiet_on) | (refine quiet_load3 _ _ _ _ rfl rfl ?_ ?_ ?_ ?_; (focus (intro _; simp; done)); (focus (intro _; simp; done)); (focus (first | assumption | omega | (simp; done) | (simp; omega))); apply Exists.intro; apply Exists.intro; apply Exists.intro; refine ⟨?_, ?_, ?_, ?_⟩; assumption; assumption; assumption; go_simp; go_big_quiet_on) | (refine quiet_load4 _ _ _ _ rfl rfl ?_ ?_ ?_ ?_; (focus (intro _; simp; done)); (focus (intro _; simp; done)); (focus (first | assumption | omega | (simp; done) | (simp; omega))); apply Exists.intro; apply Exists.intro; apply Exists.intro; apply Exists.intro; refine ⟨?_, ?_, ?_, ?_, ?_⟩; assumption; assumption; assumption; assumption; go_simp; go_big_quiet_on) | (go_big_quiet_op; first | go_big_quiet_on | (apply Exists.intro; refine ⟨fun x hx => ?_, ?_⟩; (first | fail); go_big_quiet_on))))
          refine wpQuiet_nil ?_
          clear hall
          intro x10 hx10
          have dx1 := (hx10.cell lx).trans cx1
          have dx2 := (hx10.cell lx).trans cx2
          have lx2 : b < x10.heap.size := World.block_lt_of_cell? _ _ dx1
          have hB10 : Below w3.heap.size w3 x10 := bt hB hx10
          by_cases k1 : kd = 1
          · subst k1
            have HK : Hid (¬ (1 : Int) = 17) := Lib.hid (by omega)
            by_cases e1 : d = F
            · have ee := (HD.out.2.2.2.1 rfl e1)
              have e2 : (d == F) = true := by simpa using e1
              have w0 : (d % 7 == 0) = false := by simpa using ee.1
              have w3 : (d % 7 == 3) = false := by simpa using ee.2.1
              have w5 : (d % 7 == 5) = false := by simpa using ee.2.2
              clear ee e1
              go_wp2_with fail
              go_roundw
              case rel => exact ⟨j + 1, by omega, by go_num, by rw [HS.out, if_neg HK.out], hB10⟩
              case measure => simp [intOf]; omega
            · have e2 : (d == F) = false := by simpa using e1
              clear e1
              go_wp2_with fail
              go_roundw
              case rel => exact ⟨j + 1, by omega, by go_num, by rw [HS.out, if_neg HK.out], hB10⟩
              case measure => simp [intOf]; omega
          by_cases k2 : kd = 14
          · subst k2
            have HK : Hid (¬ (14 : Int) = 17) := Lib.hid (by omega)
            have ee := (HD.out.2.2.2.2.1 rfl)
            have w6 : (d % 7 == 6) = false := by simpa using ee.1
            have w1 : (d % 7 == 1) = false := by simpa using ee.2.1
            have w3 : (d % 7 == 3) = false := by simpa using ee.2.2
            clear ee k1
            go_wp2_with fail
            go_roundw
            case rel => exact ⟨j + 1, by omega, by go_num, by rw [HS.out, if_neg HK.out], hB10⟩
            case measure => simp [intOf]; omega
          by_cases k3 : kd = 17
          · subst k3
            clear k1 k2
            by_cases e1 : sn = 0
            · have ee := (HD.out.2.2.2.2.2 rfl (HSn.out.trans e1))
              have w1 : (d % 7 == 1) = false := by simpa using ee.1
              have w3 : (d % 7 == 3) = false := by simpa using ee.2.1
              have w5 : (d % 7 == 5) = false := by simpa using ee.2.2
              have e2 : (sn == 0) = true := by simpa using e1
              clear ee e1
              go_wp2_with fail
              go_roundw
              case rel => exact ⟨j + 1, by omega, by go_num, by rw [HS.out, if_pos rfl], hB10⟩
              case measure => simp [intOf]; omega
            · have e2 : (sn == 0) = false := by simpa using e1
              clear e1
              go_wp2_with fail
              go_roundw
              case rel => exact ⟨j + 1, by omega, by go_num, by rw [HS.out, if_pos rfl], hB10⟩
              case measure => simp [intOf]; omega
          have q1 : (kd == 1) = false := by simpa using k1
          have q2 : (kd == 14) = false := by simpa using k2
          have q3 : (kd == 17) = false := by simpa using k3
          have HK := Lib.hid k3
          clear k1 k2 k3
          go_wp2_with fail
          go_roundw
          case rel => exact ⟨j + 1, by omega, by go_num, by rw [HS.out, if_neg HK.out], hB10⟩
          case measure => simp [intOf]; omega
    · obtain rfl : j = n := by omega
      rw [List.take_of_length_le (by omega), HT.out]
      clear hlt hbd
      have hBw : Below w.heap.size w wr := bt hB3 hB
      go_wp2_with fail
      refine (HAw.out _ (Tab.below hT (by repeat (first | (with_reducible exact Below.refl _ _) | (with_reducible assumption) | (with_reducible refine bdrew ?_) | (with_reducible refine baa ?_ _) | (with_reducible refine bs ?_ (by first | exact Nat.le_refl _ | omega | (simp; done) | (simp; omega)) _) | (with_reducible refine bt ?_ (by with_reducible assumption))))) (Tab.below hL (by repeat (first | (with_reducible exact Below.refl _ _) | (with_reducible assumption) | (with_reducible refine bdrew ?_) | (with_reducible refine baa ?_ _) | (with_reducible refine bs ?_ (by first | exact Nat.le_refl _ | omega | (simp; done) | (simp; omega)) _) | (with_reducible refine bt ?_ (by with_reducible assumption))))) (Tab.below hF (by repeat (first | (with_reducible exact Below.refl _ _) | (with_reducible assumption) | (with_reducible refine bdrew ?_) | (with_reducible refine baa ?_ _) | (with_reducible refine bs ?_ (by first | exact Nat.le_refl _ | omega | (simp; done) | (simp; omega)) _) | (with_reducible refine bt ?_ (by with_reducible assumption)))))).mono ?_
      rintro e w9 ⟨rfl, hb9⟩
      go_wp2_with fail
      go_ret
      exact ⟨rfl, bt (bt hB3 hB) hb9⟩
set_option maxHeartbeats 16000000 in
theorem FeastDays_1 (y p F N : Int) (n : Nat) (l : List (Int × Int)) (w : World) (hy : 0 ≤ y ∧ y ≤ 65535) (hp0 : 0 ≤ p ∧ p ≤ 255) (hp : p % 2 = 1) (hT : Tab w 3 kevCells) (hL : Tab w 2 lenCells) (hF : Tab w 0 Fe.cells) (hl : l.length = n) (hn : n ≤ 60)
    (HO : Hid (∀ w : World, Tab w 3 kevCells → Tab w 2 lenCells → Tab w 0 Fe.cells → Calls Tryd.prog 13 #[.int .i64 (1 + y % 9999), .int .i64 1] w fun e w' => ∃ v, e = .returned (.tuple #[v, .int .i64 0]) ∧ Ev.Own w' w.heap.size v l ∧ Below w.heap.size w w'))
    (H1 : Hid (∀ w : World, Calls Tryd.prog 21 #[.int .i64 (1 + y % 9999)] w fun e w' => e = .returned (.tuple #[.int .i64 F, .int .i64 0]) ∧ Below w.heap.size w w'))
    (H2 : Hid (∀ w : World, Calls Tryd.prog 21 #[.int .i64 ((1 + y % 9999) + 1)] w fun e w' => e = .returned (.tuple #[.int .i64 N, .int .i64 0]) ∧ Below w.heap.size w w'))
    (HDs : Hid (∀ j kd d, l[j]? = some (kd, d) → Fe.dayOk F N l j kd d)) (HT : Hid (Fe.seen l = 2)) (HAw : Hid (∀ w : World, Tab w 3 kevCells → Tab w 2 lenCells → Tab w 0 Fe.cells → Calls Tryd.prog 12 #[] w fun e w' => e = .returned (.bool true) ∧ Below w.heap.size w w')) :
    Calls Tryd.prog 4 #[.int .u16 y, .int .u8 p] w fun e w' => e = .returned (.bool true) ∧ Below w.heap.size w w' := by
  have HW := Lib.hid (fun d w => ref4_Weekday d w)
  have y0 : 0 ≤ y % 9999 := by omega
  have y1 : y % 9999 < 9999 := by omega
  go_enter Tryd.func4, Tryd.ntmps4
  go_wp2_with fail
  refine (HO.out _ (Tab.below hT (by repeat (first | (with_reducible exact Below.refl _ _) | (with_reducible assumption) | (with_reducible refine bdrew ?_) | (with_reducible refine baa ?_ _) | (with_reducible refine bs ?_ (by first | exact Nat.le_refl _ | omega | (simp; done) | (simp; omega)) _) | (with_reducible refine bt ?_ (by with_reducible assumption))))) (Tab.below hL (by repeat (first | (with_reducible exact Below.refl _ _) | (with_reducible assumption) | (with_reducible refine bdrew ?_) | (with_reducible refine baa ?_ _) | (with_reducible refine bs ?_ (by first | exact Nat.le_refl _ | omega | (simp; done) | (simp; omega)) _) | (with_reducible refine bt ?_ (by with_reducible assumption))))) (Tab.below hF (by repeat (first | (with_reducible exact Below.refl _ _) | (with_reducible assumption) | (with_reducible refine bdrew ?_) | (with_reducible refine baa ?_ _) | (with_reducible refine bs ?_ (by first | exact Nat.le_refl _ | omega | (simp; done) | (simp; omega)) _) | (with_reducible refine bt ?_ (by with_reducible assumption)))))).mono ?_
  rintro e w1 ⟨v1, rfl, ho1, hb1⟩
  have hr := ho1.row
  obtain ⟨p1, c1, rfl⟩ := hr.len
  rw [hl]
  go_wp2_with fail
  refine (H1.out _).mono ?_
  rintro e w2 ⟨rfl, hb2⟩
  go_wp2_with fail
  refine (H2.out _).mono ?_
  rintro e w3 ⟨rfl, hb3⟩
  go_wp2_with fail
  have hr3 := hr.below (bt hb2 hb3)
  have hB3 : Below w.heap.size w w3 := bt hb1 (bt hb2 hb3)
  clear ho1 hr hb1 hb2 hb3
  go_loopw [12, 13] (fun s i wr => ∃ j : Nat, j ≤ n ∧ i = .int .i64 (j : Int) ∧ s = .int .i64 (Fe.seen (l.take j)) ∧ Below w3.heap.size w3 wr) (fun _ i _ => n - (intOf i).toNat)
  case atStart => exact ⟨0, Nat.zero_le _, rfl, rfl, Below.refl _ _⟩
  case round =>
    obtain ⟨j, hj, rfl, rfl, hB⟩ := hrel
    have hbd := Fe.seen_bd l j
    by_cases hlt : j < n
    · obtain ⟨x, hx⟩ : ∃ x, l[j]? = some x := ⟨_, List.getElem?_eq_getElem (by omega)⟩
      obtain ⟨kd, d⟩ := x
      have HS := Lib.hid (Fe.seen_next l j kd d hx)
      have HD := Lib.hid (HDs.out j kd d hx)
      obtain ⟨b, off, cc, hp1, hc⟩ := (hr3.below hB).at_some (by omega)
      simp only [Value.slice.injEq] at hp1
      obtain ⟨rfl, _, rfl⟩ := hp1
      obtain ⟨cx1, cx2⟩ := Ev.cells_at hc j (kd, d) hx
      have lx := World.block_lt_of_cell? _ _ cx1
      dsimp only at lx cx1 cx2
      have j0 : (0 : Int) ≤ (j : Int) := by omega
      have j1 : (j : Int) < (n : Int) := by omega
      have j2 : (j : Int) ≤ 60 := by omega
      obtain ⟨sn, hsn⟩ : ∃ s, Fe.seen (l.take j) = s := ⟨_, rfl⟩
      rw [hsn] at hbd HS ⊢
      have HSn := Lib.hid hsn
      have b1 : ¬ d < F := by have := HD.out.1; omega
      have b2 : ¬ N ≤ d := by have := HD.out.2.1; omega
      have B1 : decide (d < F) = false := by simpa using b1
      have B2 : decide (N ≤ d) = false := by simpa using b2
      clear hx hsn
      go_wp2_with fail
      refine (HW.out d _).mono ?_
      rintro e w' ⟨rfl, rfl⟩
      go_wp2_with fail
      by_cases hj0 : j = 0
      · have hz : ¬ 0 < j := by omega
        clear hj0 hc
        refine wp_region_class (by kernel_rfl) (by kernel_rfl) (fun hall => ?_)
        repeat (first | go_big_quiet_skip | (go_big_quiet_want; first | (refine quiet_load1 _ _ _ rfl rfl ?_ ?_ ?_; (focus (intro _; simp; done)); (focus (first | assumption | omega | (simp; done) | (simp; omega))); apply Exists.intro; refine ⟨?_, ?_⟩; assumption; go_simp; go_big_quiet_on) | (refine quiet_load2 _ _ _ _ rfl rfl ?_ ?_ ?_ ?_; (focus (intro _; simp; done)); (focus (intro _; simp; done)); (focus (first | assumption | omega | (simp; done) | (simp; omega))); apply Exists.intro; apply Exists.intro; refine ⟨?_, ?_, ?_⟩; assumption; assumption; go_simp; go_big_quiet_on) | (refine quiet_load3 _ _ _ _ rfl rfl ?_ ?_ ?_ ?_; (focus (intro _; simp; done)); (focus (intro _; simp; done)); (focus (first | assumption | omega | (simp; done) | (simp; omega))); apply Exists.intro; apply Exists.intro; apply Exists.intro; refine ⟨?_, ?_, ?_, ?_⟩; assumption; assumption; assumption; go_simp; go_big_quiet_on) | (refine quiet_load4 _ _ _ _ rfl rfl ?_ ?_ ?_ ?_; (focus (intro _; simp; done)); (focus (intro _; simp; done)); (focus (first | assumption | omega | (simp; done) | (simp; omega))); apply Exists.intro; apply Exists.intro; apply Exists.intro; apply Exists.intro; refine ⟨?_, ?_, ?_, ?_, ?_⟩; assumption; assumption; assumption; assumption; go_simp; go_big_quiet_on) | (go_big_quiet_op; first | go_big_quiet_on | (apply Exists.intro; refine ⟨fun x hx => ?_, ?_⟩; (first | fail); go_big_quiet_on))))
        refine wpQuiet_nil ?_
        clear hall
        intro x10 hx10
        have dx1 := (hx10.cell lx).trans cx1
        have dx2 := (hx10.cell lx).trans cx2
        have lx2 : b < x10.heap.size := World.block_lt_of_cell? _ _ dx1
        have hB10 : Below w3.heap.size w3 x10 := bt hB hx10
        by_cases k1 : kd = 1
        · subst k1
          have HK : Hid (¬ (1 : Int) = 17) := Lib.hid (by omega)
          by_cases e1 : d = F
          · have ee := (HD.out.2.2.2.1 rfl e1)
            have e2 : (d == F) = true := by simpa using e1
            have w0 : (d % 7 == 0) = false := by simpa using ee.1
            have w3 : (d % 7 == 3) = false := by simpa using ee.2.1
            have w5 : (d % 7 == 5) = false := by simpa using ee.2.2
            clear ee e1
            go_wp2_with fail
            go_roundw
            case rel => exact ⟨j + 1, by omega, by go_num, by rw [HS.out, if_neg HK.out], hB10⟩
            case measure => simp [intOf]; omega
          · have e2 : (d == F) = false := by simpa using e1
            clear e1
            go_wp2_with fail
            go_roundw
            case rel => exact ⟨j + 1, by omega, by go_num, by rw [HS.out, if_neg HK.out], hB10⟩
            case measure => simp [intOf]; omega
        by_cases k2 : kd = 14
        · subst k2
          have HK : Hid (¬ (14 : Int) = 17) := Lib.hid (by omega)
          have ee := (HD.out.2.2.2.2.1 rfl)
          have w6 : (d % 7 == 6) = false := by simpa using ee.1
          have w1 : (d % 7 == 1) = false := by simpa using ee.2.1
          have w3 : (d % 7 == 3) = false := by simpa using ee.2.2
          clear ee k1
          go_wp2_with fail
          go_roundw
          case rel => exact ⟨j + 1, by omega, by go_num, by rw [HS.out, if_neg HK.out], hB10⟩
          case measure => simp [intOf]; omega
        by_cases k3 : kd = 17
        · subst k3
          clear k1 k2
          by_cases e1 : sn = 0
          · have ee := (HD.out.2.2.2.2.2 rfl (HSn.out.trans e1))
            have w1 : (d % 7 == 1) = false := by simpa using ee.1
            have w3 : (d % 7 == 3) = false := by simpa using ee.2.1
            have w5 : (d % 7 == 5) = false := by simpa using ee.2.2
            have e2 : (sn == 0) = true := by simpa using e1
            clear ee e1
            go_wp2_with fail
            go_roundw
            case rel => exact ⟨j + 1, by omega, by go_num, by rw [HS.out, if_pos rfl], hB10⟩
            case measure => simp [intOf]; omega
          · have e2 : (sn == 0) = false := by simpa using e1
            clear e1
            go_wp2_with fail
            go_roundw
            case rel => exact ⟨j + 1, by omega, by go_num, by rw [HS.out, if_pos rfl], hB10⟩
            case measure => simp [intOf]; omega
        have q1 : (kd == 1) = false := by simpa using k1
        have q2 : (kd == 14) = false := by simpa using k2
        have q3 : (kd == 17) = false := by simpa using k3
        have HK := Lib.hid k3
        clear k1 k2 k3
        go_wp2_with fail
        go_roundw
        case rel => exact ⟨j + 1, by omega, by go_num, by rw [HS.out, if_neg HK.out], hB10⟩
        case measure => simp [intOf]; omega
      · obtain ⟨q, hq⟩ : ∃ q, j = q + 1 := ⟨j - 1, by omega⟩
        obtain ⟨z, hz⟩ : ∃ z, l[q]? = some z := ⟨_, List.getElem?_eq_getElem (by omega)⟩
        obtain ⟨k', d'⟩ := z
        obtain ⟨cz1, cz2⟩ := Ev.cells_at hc q (k', d') hz
        dsimp only at cz1 cz2
        have hpv := HD.out.2.2.1 k' d' hj0 (by rw [hq]; exact hz)
        have hz2 : 0 < j := by omega
        have e0 : (j : Int) = (q : Int) + 1 := by omega
        have q0 : (0 : Int) ≤ (q : Int) := by omega
        have q1 : (q : Int) < (n : Int) := by omega
        have q2 : (j : Int) - 1 = (q : Int) := by omega
        have b3 : ¬ d < d' := by omega
        have hpr := hpv.2
        have B3 : decide (d < d') = false := by simpa using b3
        clear hpv hz hc hj0 hq e0
        rcases Decidable.em (kd = k') with c | c
        · subst c
          have c2 : (d == d') = false := by rw [beq_eq_false_iff_ne]; exact fun g => hpr ⟨rfl, g⟩
          clear hpr
          refine wp_region_class (by kernel_rfl) (by kernel_rfl) (fun hall => ?_)
          repeat (first | go_big_quiet_skip | (go_big_quiet_want; first | (refine quiet_load1 _ _ _ rfl rfl ?_ ?_ ?_; (focus (intro _; simp; done)); (focus (first | assumption | omega | (simp; done) | (simp; omega))); apply Exists.intro; refine ⟨?_, ?_⟩; assumption; go_simp; go_big_quiet_on) | (refine quiet_load2 _ _ _ _ rfl rfl ?_ ?_ ?_ ?_; (focus (intro _; simp; done)); (focus (intro _; simp; done)); (focus (first | assumption | omega | (simp; done) | (simp; omega))); apply Exists.intro; apply Exists.intro; refine ⟨?_, ?_, ?_⟩; assumption; assumption; go_simp; go_big_quiet_on) | (refine quiet_load3 _ _ _ _ rfl rfl ?_ ?_ ?_ ?_; (focus (intro _; simp; done)); (focus (intro _; simp; done)); (focus (first | assumption | omega | (simp; done) | (simp; omega))); apply Exists.intro; apply Exists.intro; apply Exists.intro; refine ⟨?_, ?_, ?_, ?_⟩; assumption; assumption; assumption; go_simp; go_big_quiet_on) | (refine quiet_load4 _ _ _ _ rfl rfl ?_ ?_ ?_ ?_; (focus (intro _; simp; done)); (focus (intro _; simp; done)); (focus (first | assumption | omega | (simp; done) | (simp; omega))); apply Exists.intro; apply Exists.intro; apply Exists.intro; apply Exists.intro; refine ⟨?_, ?_, ?_, ?_, ?_⟩; assumption; assumption; assumption; assumption; go_simp; go_big_quiet_on) | (go_big_quiet_op; first | go_big_quiet_on | (apply Exists.intro; refine ⟨fun x hx => ?_, ?_⟩; (first | fail); go_big_quiet_on))))
          refine wpQuiet_nil ?_
          clear hall
          intro x10 hx10
          have dx1 := (hx10.cell lx).trans cx1
          have dx2 := (hx10.cell lx).trans cx2
          have lx2 : b < x10.heap.size := World.block_lt_of_cell? _ _ dx1
          have hB10 : Below w3.heap.size w3 x10 := bt hB hx10
          by_cases k1 : kd = 1
          · subst k1
            have HK : Hid (¬ (1 : Int) = 17) := Lib.hid (by omega)
            by_cases e1 : d = F
            · have ee := (HD.out.2.2.2.1 rfl e1)
              have e2 : (d == F) = true := by simpa using e1
              have w0 : (d % 7 == 0) = false := by simpa using ee.1
              have w3 : (d % 7 == 3) = false := by simpa using ee.2.1
              have w5 : (d % 7 == 5) = false := by simpa using ee.2.2
              clear ee e1
              go_wp2_with fail
              go_roundw
              case rel => exact ⟨j + 1, by omega, by go_num, by rw [HS.out, if_neg HK.out], hB10⟩
              case measure => simp [intOf]; omega
            · have e2 : (d == F) = false := by simpa using e1
              clear e1
              go_wp2_with fail
              go_roundw
              case rel => exact ⟨j + 1, by omega, by go_num, by rw [HS.out, if_neg HK.out], hB10⟩
              case measure => simp [intOf]; omega
          by_cases k2 : kd = 14
          · subst k2
            have HK : Hid (¬ (14 : Int) = 17) := Lib.hid (by omega)
            have ee := (HD.out.2.2.2.2.1 rfl)
            have w6 : (d % 7 == 6) = false := by simpa using ee.1
            have w1 : (d % 7 == 1) = false := by simpa using ee.2.1
            have w3 : (d % 7 == 3) = false := by simpa using ee.2.2
            clear ee k1
            go_wp2_with fail
            go_roundw
            case rel => exact ⟨j + 1, by omega, by go_num, by rw [HS.out, if_neg HK.out], hB10⟩
            case measure => simp [intOf]; omega
          by_cases k3 : kd = 17
          · subst k3
            clear k1 k2
            by_cases e1 : sn = 0
            · have ee := (HD.out.2.2.2.2.2 rfl (HSn.out.trans e1))
              have w1 : (d % 7 == 1) = false := by simpa using ee.1
              have w3 : (d % 7 == 3) = false := by simpa using ee.2.1
              have w5 : (d % 7 == 5) = false := by simpa using ee.2.2
              have e2 : (sn == 0) = true := by simpa using e1
              clear ee e1
              go_wp2_with fail
              go_roundw
              case rel => exact ⟨j + 1, by omega, by go_num, by rw [HS.out, if_pos rfl], hB10⟩
              case measure => simp [intOf]; omega
            · have e2 : (sn == 0) = false := by simpa using e1
              clear e1
              go_wp2_with fail
              go_roundw
              case rel => exact ⟨j + 1, by omega, by go_num, by rw [HS.out, if_pos rfl], hB10⟩
              case measure => simp [intOf]; omega
          have q1 : (kd == 1) = false := by simpa using k1
          have q2 : (kd == 14) = false := by simpa using k2
          have q3 : (kd == 17) = false := by simpa using k3
          have HK := Lib.hid k3
          clear k1 k2 k3
          go_wp2_with fail
          go_roundw
          case rel => exact ⟨j + 1, by omega, by go_num, by rw [HS.out, if_neg HK.out], hB10⟩
          case measure => simp [intOf]; omega
        · have c2 : (kd == k') = false := by rw [beq_eq_false_iff_ne]; exact c
          clear hpr c
          refine wp_region_class (by kernel_rfl) (by kernel_rfl) (fun hall => ?_)
          repeat (first | go_big_quiet_skip | (go_big_quiet_want; first | (refine quiet_load1 _ _ _ rfl rfl ?_ ?_ ?_; (focus (intro _; simp; done)); (focus (first | assumption | omega | (simp; done) | (simp; omega))); apply Exists.intro; refine ⟨?_, ?_⟩; assumption; go_simp; go_big_quiet_on) | (refine quiet_load2 _ _ _ _ rfl rfl ?_ ?_ ?_ ?_; (focus (intro _; simp; done)); (focus (intro _; simp; done)); (focus (first | assumption | omega | (simp; done) | (simp; omega))); apply Exists.intro; apply Exists.intro; refine ⟨?_, ?_, ?_⟩; assumption; assumption; go_simp; go_big_quiet_on) | (refine quiet_load3 _ _ _ _ rfl rfl ?_ ?_ ?_ ?_; (focus (intro _; simp; done)); (focus (intro _; simp; done)); (focus (first | assumption | omega | (simp; done) | (simp; omega))); apply Exists.intro; apply Exists.intro; apply Exists.intro; refine ⟨?_, ?_, ?_, ?_⟩; assumption; assumption; assumption; go_simp; go_big_quiet_on) | (refine quiet_load4 _ _ _ _ rfl rfl ?_ ?_ ?_ ?_; (focus (intro _; simp; done)); (focus (intro _; simp; done)); (focus (first | assumption | omega | (simp; done) | (simp; omega))); apply Exists.intro; apply Exists.intro; apply Exists.intro; apply Exists.intro; refine ⟨?_, ?_, ?_, ?_, ?_⟩; assumption; assumption; assumption; assumption; go_simp; go_big_quiet_on) | (go_big_quiet_op; first | go_big_quiet_on | (apply Exists.intro; refine ⟨fun x hx => ?_, ?_⟩; (first | fail); go_big_quiet_on))))
          refine wpQuiet_nil ?_
          clear hall
          intro x10 hx10
          have dx1 := (hx10.cell lx).trans cx1
          have dx2 := (hx10.cell lx).trans cx2
          have lx2 : b < x10.heap.size := World.block_lt_of_cell? _ _ dx1
          have hB10 : Below w3.heap.size w3 x10 := bt hB hx10
          by_cases k1 : kd = 1
          · subst k1
            have HK : Hid (¬ (1 : Int) = 17) := Lib.hid (by omega)
            by_cases e1 : d = F
            · have ee := (HD.out.2.2.2.1 rfl e1)
              have e2 : (d == F) = true := by simpa using e1
              have w0 : (d % 7 == 0) = false := by simpa using ee.1
              have w3 : (d % 7 == 3) = false := by simpa using ee.2.1
              have w5 : (d % 7 == 5) = false := by simpa using ee.2.2
              clear ee e1
              go_wp2_with fail
              go_roundw
              case rel => exact ⟨j + 1, by omega, by go_num, by rw [HS.out, if_neg HK.out], hB10⟩
              case measure => simp [intOf]; omega
            · have e2 : (d == F) = false := by simpa using e1
              clear e1
              go_wp2_with fail
              go_roundw
              case rel => exact ⟨j + 1, by omega, by go_num, by rw [HS.out, if_neg HK.out], hB10⟩
              case measure => simp [intOf]; omega
          by_cases k2 : kd = 14
          · subst k2
            have HK : Hid (¬ (14 : Int) = 17) := Lib.hid (by omega)
            have ee := (HD.out.2.2.2.2.1 rfl)
            have w6 : (d % 7 == 6) = false := by simpa using ee.1
            have w1 : (d % 7 == 1) = false := by simpa using ee.2.1
            have w3 : (d % 7 == 3) = false := by simpa using ee.2.2
            clear ee k1
            go_wp2_with fail
            go_roundw
            case rel => exact ⟨j + 1, by omega, by go_num, by rw [HS.out, if_neg HK.out], hB10⟩
            case measure => simp [intOf]; omega
          by_cases k3 : kd = 17
          · subst k3
            clear k1 k2
            by_cases e1 : sn = 0
            · have ee := (HD.out.2.2.2.2.2 rfl (HSn.out.trans e1))
              have w1 : (d % 7 == 1) = false := by simpa using ee.1
              have w3 : (d % 7 == 3) = false := by simpa using ee.2.1
              have w5 : (d % 7 == 5) = false := by simpa using ee.2.2
              have e2 : (sn == 0) = true := by simpa using e1
              clear ee e1
              go_wp2_with fail
              go_roundw
              case rel => exact ⟨j + 1, by omega, by go_num, by rw [HS.out, if_pos rfl], hB10⟩
              case measure => simp [intOf]; omega
            · have e2 : (sn == 0) = false := by simpa using e1
              clear e1
              go_wp2_with fail
              go_roundw
              case rel => exact ⟨j + 1, by omega, by go_num, by rw [HS.out, if_pos rfl], hB10⟩
              case measure => simp [intOf]; omega
          have q1 : (kd == 1) = false := by simpa using k1
          have q2 : (kd == 14) = false := by simpa using k2
          have q3 : (kd == 17) = false := by simpa using k3
          have HK := Lib.hid k3
          clear k1 k2 k3
          go_wp2_with fail
          go_roundw
          case rel => exact ⟨j + 1, by omega, by go_num, by rw [HS.out, if_neg HK.out], hB10⟩
          case measure => simp [intOf]; omega
    · obtain rfl : j = n := by omega
      rw [List.take_of_length_le (by omega), HT.out]
      clear hlt hbd
      have hBw : Below w.heap.size w wr := bt hB3 hB
      go_wp2_with fail
      refine (HAw.out _ (Tab.below hT (by repeat (first | (with_reducible exact Below.refl _ _) | (with_reducible assumption) | (with_reducible refine bdrew ?_) | (with_reducible refine baa ?_ _) | (with_reducible refine bs ?_ (by first | exact Nat.le_refl _ | omega | (simp; done) | (simp; omega)) _) | (with_reducible refine bt ?_ (by with_reducible assumption))))) (Tab.below hL (by repeat (first | (with_reducible exact Below.refl _ _) | (with_reducible assumption) | (with_reducible refine bdrew ?_) | (with_reducible refine baa ?_ _) | (with_reducible refine bs ?_ (by first | exact Nat.le_refl _ | omega | (simp; done) | (simp; omega)) _) | (with_reducible refine bt ?_ (by with_reducible assumption))))) (Tab.below hF (by repeat (first | (with_reducible exact Below.refl _ _) | (with_reducible assumption) | (with_reducible refine bdrew ?_) | (with_reducible refine baa ?_ _) | (with_reducible refine bs ?_ (by first | exact Nat.le_refl _ | omega | (simp; done) | (simp; omega)) _) | (with_reducible refine bt ?_ (by with_reducible assumption)))))).mono ?_
      rintro e w9 ⟨rfl, hb9⟩
      go_wp2_with fail
      go_ret
      exact ⟨rfl, bt (bt hB3 hB) hb9⟩
theorem FeastDays_walk (y p : Int) (hy : 0 ≤ y ∧ y ≤ 65535) (hp : 0 ≤ p ∧ p ≤ 255) (w : World) (hT : Tab w 3 kevCells) (hL : Tab w 2 lenCells) (hF : Tab w 0 Fe.cells) :
    Calls Tryd.prog 4 #[.int .u16 y, .int .u8 p] w fun e w' => e = .returned (.bool true) ∧ Below w.heap.size w w' := by
  obtain ⟨i, hi⟩ := Yr.is_some (1 + y % 9999) (by omega) (by omega)
  have hf := Yr.next_first hi
  have H1 := Lib.hid (fun w => ref5_First_ok (1 + y % 9999) w (by omega) (by omega))
  have H2 := Lib.hid (fun w => ref5_First_ok ((1 + y % 9999) + 1) w (by omega) (by omega))
  have hAw := Lib.hid (fun w hT hL hF => awake19 w hT hL hF)
  rcases (show p % 2 = 0 ∨ p % 2 = 1 by omega) with h | h
  · have hc := List.all_eq_true.1 (List.all_eq_true.1 Fe.all_chk i (List.mem_range.2 hi.2.2.1)) false (by simp)
    simp only [Bool.and_eq_true, decide_eq_true_eq] at hc
    exact FeastDays_0 y p _ _ _ ((Fe.feastL i false).map (Ev.sh (Cal.first (1 + y % 9999)))) w hy hp h hT hL hF rfl (by rw [List.length_map]; exact hc.2.2) (Lib.hid (fun w hT hL hF => feast_Of_at (1 + y % 9999) i false w hi hT hL hF)) H1 H2 (Lib.hid (Fe.chk_ok hi.2.2.2.1 hf hc.1)) (Lib.hid (by rw [Fe.seen_sh]; simpa using hc.2.1)) hAw
  · have hc := List.all_eq_true.1 (List.all_eq_true.1 Fe.all_chk i (List.mem_range.2 hi.2.2.1)) true (by simp)
    simp only [Bool.and_eq_true, decide_eq_true_eq] at hc
    exact FeastDays_1 y p _ _ _ ((Fe.feastL i true).map (Ev.sh (Cal.first (1 + y % 9999)))) w hy hp h hT hL hF rfl (by rw [List.length_map]; exact hc.2.2) (Lib.hid (fun w hT hL hF => feast_Of_at (1 + y % 9999) i true w hi hT hL hF)) H1 H2 (Lib.hid (Fe.chk_ok hi.2.2.2.1 hf hc.1)) (Lib.hid (by rw [Fe.seen_sh]; simpa using hc.2.1)) hAw
end Go.Proofs.YtagmdglmflcegaaDoor
