/- Layer 22: SpecialDays. -/
import Derived.Test.YtbmcpeccofadhaaDoorW22
namespace Go.Proofs.YtbmcpeccofadhaaDoor
open Go.ChangeShapes Go.WideShapes Go.ChangeAt Go.RowKit Go.Lib Go.Sort Go.Shelf
set_option linter.unusedVariables false
set_option maxRecDepth 100000
namespace Sp
/-- What the law asks of the j-th one. -/
def dayOk (F N : Int) (l : List (Int × Int)) (j : Nat) (kd d : Int) : Prop :=
  d % 7 = 6 ∧ F ≤ d ∧ d < N ∧ 30 ≤ kd ∧ kd ≤ 37 ∧ (kd = 35 → d < F + 9) ∧ (kd = 37 → N - 50 ≤ d) ∧ (kd = 34 → N - 170 ≤ d ∧ d < N - 163) ∧ ∀ q k' d', q < j → l[q]? = some (k', d') → k' ≠ kd ∧ d' < d
def chk (b n : Int) (O : List (Int × Int)) : Bool := (List.range O.length).all fun j => match O[j]? with
  | some (kd, o) => ((b + o) % 7 == 6) && (decide (0 ≤ o) && (decide (o < n) && (decide (30 ≤ kd) && (decide (kd ≤ 37) && ((!(kd == 35) || decide (o < 9)) && ((!(kd == 37) || decide (n - 50 ≤ o)) && ((!(kd == 34) || (decide (n - 170 ≤ o) && decide (o < n - 163))) && ((named O o == kd) && (List.range j).all fun q => match O[q]? with | some (k', o') => !(k' == kd) && decide (o' < o) | none => true))))))))
  | none => true
theorem named_sh (F o : Int) (l : List (Int × Int)) : named (l.map (Ev.sh F)) (F + o) = named l o := by
  unfold named find
  rw [List.find?_map]
  have e : ((fun x : Int × Int => x.2 == F + o) ∘ Ev.sh F) = fun x => x.2 == o := by
    funext x
    unfold Ev.sh
    simp only [Function.comp]
    rw [Bool.eq_iff_iff]
    simp only [beq_iff_eq]
    omega
  rw [e]
  cases List.find? (fun x => x.2 == o) l <;> rfl
theorem chk_ok {b n F N : Int} {O : List (Int × Int)} (hb : F % 7 = b) (hN : N = F + n) (h : chk b n O = true) (j : Nat) (kd d : Int) (hj : (O.map (Ev.sh F))[j]? = some (kd, d)) : dayOk F N (O.map (Ev.sh F)) j kd d ∧ named (O.map (Ev.sh F)) d = kd := by
  rw [List.getElem?_map] at hj
  cases hO : O[j]? with
  | none => rw [hO] at hj; simp at hj
  | some x =>
    obtain ⟨kd', o⟩ := x
    rw [hO] at hj
    simp only [Option.map_some, Option.some.injEq, Ev.sh, Prod.mk.injEq] at hj
    obtain ⟨rfl, rfl⟩ := hj
    have hlt := (List.getElem?_eq_some_iff.1 hO).1
    have hc := List.all_eq_true.1 h j (List.mem_range.2 hlt)
    rw [hO] at hc
    simp only [Bool.and_eq_true, decide_eq_true_eq, beq_iff_eq] at hc
    obtain ⟨c1, c2, c3, c4, c5, c6, c7, c8, c9, c10⟩ := hc
    refine ⟨⟨by omega, by omega, by omega, c4, c5, fun e => ?_, fun e => ?_, fun e => ?_, fun q k' d' hq hp => ?_⟩, by rw [named_sh]; exact c9⟩
    · simp [e] at c6; omega
    · simp [e] at c7; omega
    · simp [e] at c8; omega
    · rw [List.getElem?_map] at hp
      cases hO1 : O[q]? with
      | none => rw [hO1] at hp; simp at hp
      | some z =>
        obtain ⟨k2, o2⟩ := z
        rw [hO1] at hp
        simp only [Option.map_some, Option.some.injEq, Ev.sh, Prod.mk.injEq] at hp
        obtain ⟨rfl, rfl⟩ := hp
        have c11 := List.all_eq_true.1 c10 q (List.mem_range.2 hq)
        rw [hO1] at c11
        simp at c11
        exact ⟨c11.1, by omega⟩
theorem all_chk : ((List.range 14).all fun i => chk (kevB i) (Yr.lenV i) (spL i)) = true := by decide +kernel
end Sp
set_option maxHeartbeats 16000000 in
theorem SpecialDays_go (y F N : Int) (l : List (Int × Int)) (w : World) (hy : 0 ≤ y ∧ y ≤ 65535) (hF : -2000000 ≤ F ∧ F ≤ 3000000) (hN : -2000000 ≤ N ∧ N ≤ 3000000) (hT : Tab w 1 kevCells) (hL : Tab w 0 lenCells) (hl : l.length = 8)
    (HO : Hid (∀ w : World, Tab w 1 kevCells → Tab w 0 lenCells → Calls Tryd.prog 7 #[.int .i64 (1 + y % 9999)] w fun e w' => ∃ v, e = .returned (.tuple #[v, .int .i64 0]) ∧ Ev.Own w' w.heap.size v l ∧ Below w.heap.size w w'))
    (H1 : Hid (∀ w : World, Calls Tryd.prog 8 #[.int .i64 (1 + y % 9999)] w fun e w' => e = .returned (.tuple #[.int .i64 F, .int .i64 0]) ∧ Below w.heap.size w w'))
    (H2 : Hid (∀ w : World, Calls Tryd.prog 8 #[.int .i64 ((1 + y % 9999) + 1)] w fun e w' => e = .returned (.tuple #[.int .i64 N, .int .i64 0]) ∧ Below w.heap.size w w'))
    (HNm : Hid (∀ (j : Nat) (kd d : Int), l[j]? = some (kd, d) → ∀ w : World, Tab w 1 kevCells → Tab w 0 lenCells → Calls Tryd.prog 9 #[.int .i64 d] w fun e w' => e = .returned (.tuple #[.int .i64 kd, .int .i64 0]) ∧ Below w.heap.size w w'))
    (HDs : Hid (∀ j kd d, l[j]? = some (kd, d) → Sp.dayOk F N l j kd d)) (HAw : Hid (∀ w : World, Tab w 1 kevCells → Tab w 0 lenCells → Calls Tryd.prog 11 #[] w fun e w' => e = .returned (.bool true) ∧ Below w.heap.size w w')) :
    Calls Tryd.prog 3 #[.int .u16 y] w fun e w' => e = .returned (.bool true) ∧ Below w.heap.size w w' := by
  have HW := Lib.hid (fun d w => ref4_Weekday d w)
  have y0 : 0 ≤ y % 9999 := by omega
  have y1 : y % 9999 < 9999 := by omega
  go_enter Tryd.func3, Tryd.ntmps3
  go_wp2_with fail
  refine (HO.out _ (Tab.below hT (by repeat (first | (with_reducible exact Below.refl _ _) | (with_reducible assumption) | (with_reducible refine bdrew ?_) | (with_reducible refine baa ?_ _) | (with_reducible refine bs ?_ (by first | exact Nat.le_refl _ | omega | (simp; done) | (simp; omega)) _) | (with_reducible refine bt ?_ (by with_reducible assumption))))) (Tab.below hL (by repeat (first | (with_reducible exact Below.refl _ _) | (with_reducible assumption) | (with_reducible refine bdrew ?_) | (with_reducible refine baa ?_ _) | (with_reducible refine bs ?_ (by first | exact Nat.le_refl _ | omega | (simp; done) | (simp; omega)) _) | (with_reducible refine bt ?_ (by with_reducible assumption)))))).mono ?_
  rintro e w1 ⟨v1, rfl, ho1, hb1⟩
  have hr := ho1.row
  obtain ⟨p1, c1, rfl⟩ := hr.len
  rw [hl]
  go_wp2_with fail
  refine (H1.out _).mono ?_
  rintro e w2 ⟨rfl, hb2⟩
  go_wp2_with fail
  refine (H2.out _).mono ?_
  rintro e w3 ⟨rfl, hb3⟩
  go_wp2_with fail
  have hr3 := hr.below (bt hb2 hb3)
  have hB3 : Below w.heap.size w w3 := bt hb1 (bt hb2 hb3)
  clear ho1 hr hb1 hb2 hb3
  go_loopw [10] (fun i wr => ∃ j : Nat, j ≤ 8 ∧ i = .int .i64 (j : Int) ∧ Below w3.heap.size w3 wr) (fun i _ => 8 - (intOf i).toNat)
  case atStart => exact ⟨0, Nat.zero_le _, rfl, Below.refl _ _⟩
  case round =>
    obtain ⟨j, hj, rfl, hB⟩ := hrel
    obtain ⟨w5, rfl⟩ : ∃ x, x = wr := ⟨_, rfl⟩
    by_cases hlt : j < 8
    · obtain ⟨x, hx⟩ : ∃ x, l[j]? = some x := ⟨_, List.getElem?_eq_getElem (by omega)⟩
      obtain ⟨kd, d⟩ := x
      have HD := Lib.hid (HDs.out j kd d hx)
      have HM := Lib.hid (HNm.out j kd d hx)
      obtain ⟨b, off, cc, hp1, hc⟩ := (hr3.below hB).at_some (by omega)
      simp only [Value.slice.injEq] at hp1
      obtain ⟨rfl, _, rfl⟩ := hp1
      obtain ⟨cx1, cx2⟩ := Ev.cells_at hc j (kd, d) hx
      have lx := World.block_lt_of_cell? _ _ cx1
      dsimp only at lx cx1 cx2
      have HX := Lib.hid hx
      have j0 : (0 : Int) ≤ (j : Int) := by omega
      have j1 : (j : Int) < 8 := by omega
      have hBw : Below w.heap.size w w5 := bt hB3 hB
      have b1 : ¬ d < F := by have := HD.out.2.1; omega
      have B1 : decide (d < F) = false := by simpa using b1
      have b2 : ¬ N ≤ d := by have := HD.out.2.2.1; omega
      have B2 : decide (N ≤ d) = false := by simpa using b2
      have b4 : ¬ kd < 30 := by have := HD.out.2.2.2.1; omega
      have B4 : decide (kd < 30) = false := by simpa using b4
      have b5 : ¬ 37 < kd := by have := HD.out.2.2.2.2.1; omega
      have B5 : decide (37 < kd) = false := by simpa using b5
      have b6 : (d % 7 != 6) = false := by have := HD.out.1; simpa using this
      clear hx
      go_wp2_with fail
      refine (HM.out _ (Tab.below hT (by repeat (first | (with_reducible exact Below.refl _ _) | (with_reducible assumption) | (with_reducible refine bdrew ?_) | (with_reducible refine baa ?_ _) | (with_reducible refine bs ?_ (by first | exact Nat.le_refl _ | omega | (simp; done) | (simp; omega)) _) | (with_reducible refine bt ?_ (by with_reducible assumption))))) (Tab.below hL (by repeat (first | (with_reducible exact Below.refl _ _) | (with_reducible assumption) | (with_reducible refine bdrew ?_) | (with_reducible refine baa ?_ _) | (with_reducible refine bs ?_ (by first | exact Nat.le_refl _ | omega | (simp; done) | (simp; omega)) _) | (with_reducible refine bt ?_ (by with_reducible assumption)))))).mono ?_
      rintro e w4 ⟨rfl, hb4⟩
      have hb14 : Below w5.heap.size w5 w4 := bt (by repeat (first | (with_reducible exact Below.refl _ _) | (with_reducible assumption) | (with_reducible refine bdrew ?_) | (with_reducible refine baa ?_ _) | (with_reducible refine bs ?_ (by first | exact Nat.le_refl _ | omega | (simp; done) | (simp; omega)) _) | (with_reducible refine bt ?_ (by with_reducible assumption)))) hb4
      have lb4 : w5.heap.size < w4.heap.size := by have := hb4.size; simp at this; omega
      have g4x0 : w4.cell? ⟨w5.heap.size, 0, none⟩ = some (.int .i64 kd) := (hb4.cell (p := ⟨w5.heap.size, 0, none⟩) (by simp)).trans (by simp [go_sem, *])
      have g4x1 : w4.cell? ⟨w5.heap.size, 1, none⟩ = some (.int .i64 d) := (hb4.cell (p := ⟨w5.heap.size, 1, none⟩) (by simp)).trans (by simp [go_sem, *])
      have hB4 : Below w3.heap.size w3 w4 := by repeat (first | (with_reducible exact Below.refl _ _) | (with_reducible assumption) | (with_reducible refine bdrew ?_) | (with_reducible refine baa ?_ _) | (with_reducible refine bs ?_ (by first | exact Nat.le_refl _ | omega | (simp; done) | (simp; omega)) _) | (with_reducible refine bt ?_ (by with_reducible assumption)))
      clear hb4
      go_wp2_with fail
      by_cases hj0 : j = 0
      · have hz : ¬ 0 < j := by omega
        clear hj0 hc
        refine wp_region_class (by kernel_rfl) (by kernel_rfl) (fun hall => ?_)
        repeat (first | go_big_quiet_skip | (go_big_quiet_want; first | (refine quiet_load1 _ _ _ rfl rfl ?_ ?_ ?_; (focus (intro _; simp; done)); (focus (first | assumption | omega | (simp; done) | (simp; omega))); apply Exists.intro; refine ⟨?_, ?_⟩; assumption; go_simp; go_big_quiet_on) | (refine quiet_load2 _ _ _ _ rfl rfl ?_ ?_ ?_ ?_; (focus (intro _; simp; done)); (focus (intro _; simp; done)); (focus (first | assumption | omega | (simp; done) | (simp; omega))); apply Exists.intro; apply Exists.intro; refine ⟨?_, ?_, ?_⟩; assumption; assumption; go_simp; go_big_quiet_on) | (refine quiet_load3 _ _ _ _ rfl rfl ?_ ?_ ?_ ?_; (focus (intro _; simp; done)); (focus (intro _; simp; done)); (focus (first | assumption | omega | (simp; done) | (simp; omega))); apply Exists.intro; apply Exists.intro; apply Exists.intro; refine ⟨?_, ?_, ?_, ?_⟩; assumption; assumption; assumption; go_simp; go_big_quiet_on) | (refine quiet_load4 _ _ _ _ rfl rfl ?_ ?_ ?_ ?_; (focus (intro _; simp; done)); (focus (intro _; simp; done)); (focus (first | assumption | omega | (simp; done) | (simp; omega))); apply Exists.intro; apply Exists.intro; apply Exists.intro; apply Exists.intro; refine ⟨?_, ?_, ?_, ?_, ?_⟩; assumption; assumption; assumption; assumption; go_simp; go_big_quiet_on) | (go_big_quiet_op; first | go_big_quiet_on | (apply Exists.intro; refine ⟨fun x hx => ?_, ?_⟩; (first | (with_reducible exact call_same hx (HW.out d x)) | exact call_same hx (HW.out d x)); go_big_quiet_on))))
        refine wpQuiet_nil ?_
        clear hall
        intro x12 hx12
        clear b1 B1 b2 B2 b4 B4 b5 B5 b6
        have dx1 := (hx12.cell (p := ⟨w5.heap.size, 0, none⟩) lb4).trans g4x0
        have dx2 := (hx12.cell (p := ⟨w5.heap.size, 1, none⟩) lb4).trans g4x1
        have lb : w5.heap.size < x12.heap.size := by have := hx12.size; omega
        have hB12 : Below w3.heap.size w3 x12 := bt hB4 hx12
        clear g4x0 g4x1
        by_cases k35 : kd = 35
        · subst k35
          have r1 : ¬ F + 9 ≤ d := by have := HD.out.2.2.2.2.2.1 rfl; omega
          have R1 : decide (F + 9 ≤ d) = false := by simpa using r1
          go_wp2_with fail
          go_loopw [14] (fun i ws => ∃ q : Nat, q ≤ j ∧ i = .int .i64 (q : Int) ∧ Below x12.heap.size x12 ws) (fun i _ => j - (intOf i).toNat)
          case atStart => exact ⟨0, Nat.zero_le _, rfl, Below.refl _ _⟩
          case round =>
            obtain ⟨q, hq, rfl, hC⟩ := hrel
            by_cases hqt : q < j
            · exact absurd hqt (by omega)
            · obtain rfl : q = j := by omega
              clear hqt
              go_wp2_with fail
              go_roundw
              case rel => exact ⟨q + 1, by omega, by go_num, bt hB12 hC⟩
              case measure => simp [intOf]; omega
        by_cases k37 : kd = 37
        · subst k37
          have r1 : ¬ d < N - 50 := by have := HD.out.2.2.2.2.2.2.1 rfl; omega
          have R1 : decide (d < N - 50) = false := by simpa using r1
          clear k35
          go_wp2_with fail
          go_loopw [14] (fun i ws => ∃ q : Nat, q ≤ j ∧ i = .int .i64 (q : Int) ∧ Below x12.heap.size x12 ws) (fun i _ => j - (intOf i).toNat)
          case atStart => exact ⟨0, Nat.zero_le _, rfl, Below.refl _ _⟩
          case round =>
            obtain ⟨q, hq, rfl, hC⟩ := hrel
            by_cases hqt : q < j
            · exact absurd hqt (by omega)
            · obtain rfl : q = j := by omega
              clear hqt
              go_wp2_with fail
              go_roundw
              case rel => exact ⟨q + 1, by omega, by go_num, bt hB12 hC⟩
              case measure => simp [intOf]; omega
        by_cases k34 : kd = 34
        · subst k34
          have r1 : ¬ N - 163 ≤ d := by have := (HD.out.2.2.2.2.2.2.2.1 rfl).2; omega
          have R1 : decide (N - 163 ≤ d) = false := by simpa using r1
          have r2 : ¬ d < N - 170 := by have := (HD.out.2.2.2.2.2.2.2.1 rfl).1; omega
          have R2 : decide (d < N - 170) = false := by simpa using r2
          clear k35 k37
          go_wp2_with fail
          go_loopw [14] (fun i ws => ∃ q : Nat, q ≤ j ∧ i = .int .i64 (q : Int) ∧ Below x12.heap.size x12 ws) (fun i _ => j - (intOf i).toNat)
          case atStart => exact ⟨0, Nat.zero_le _, rfl, Below.refl _ _⟩
          case round =>
            obtain ⟨q, hq, rfl, hC⟩ := hrel
            by_cases hqt : q < j
            · exact absurd hqt (by omega)
            · obtain rfl : q = j := by omega
              clear hqt
              go_wp2_with fail
              go_roundw
              case rel => exact ⟨q + 1, by omega, by go_num, bt hB12 hC⟩
              case measure => simp [intOf]; omega
        have e35 : (kd == 35) = false := by simpa using k35
        have e37 : (kd == 37) = false := by simpa using k37
        have e34 : (kd == 34) = false := by simpa using k34
        clear k35 k37 k34
        go_wp2_with fail
        go_loopw [14] (fun i ws => ∃ q : Nat, q ≤ j ∧ i = .int .i64 (q : Int) ∧ Below x12.heap.size x12 ws) (fun i _ => j - (intOf i).toNat)
        case atStart => exact ⟨0, Nat.zero_le _, rfl, Below.refl _ _⟩
        case round =>
          obtain ⟨q, hq, rfl, hC⟩ := hrel
          by_cases hqt : q < j
          · exact absurd hqt (by omega)
          · obtain rfl : q = j := by omega
            clear hqt
            go_wp2_with fail
            go_roundw
            case rel => exact ⟨q + 1, by omega, by go_num, bt hB12 hC⟩
            case measure => simp [intOf]; omega
      · obtain ⟨q, hq⟩ : ∃ q, j = q + 1 := ⟨j - 1, by omega⟩
        obtain ⟨z, hz⟩ : ∃ z, l[q]? = some z := ⟨_, List.getElem?_eq_getElem (by omega)⟩
        obtain ⟨k', d'⟩ := z
        obtain ⟨cz1, cz2⟩ := Ev.cells_at hc q (k', d') hz
        dsimp only at cz1 cz2
        have cz1 := (hb14.cell (p := ⟨b, off + q * 2, none⟩) lx).trans cz1
        have cz2 := (hb14.cell (p := ⟨b, off + q * 2 + 1, none⟩) lx).trans cz2
        have lx4 : b < w4.heap.size := by have := hb14.size; omega
        have hpv := HD.out.2.2.2.2.2.2.2.2 q k' d' (by omega) hz
        have hz2 : 0 < j := by omega
        have e0 : (j : Int) = (q : Int) + 1 := by omega
        have q0 : (0 : Int) ≤ (q : Int) := by omega
        have q1 : (q : Int) < 8 := by omega
        have q2 : (j : Int) - 1 = (q : Int) := by omega
        have b3 : ¬ d ≤ d' := by omega
        have B3 : decide (d ≤ d') = false := by simpa using b3
        clear hpv hz hc hj0 hq e0
        refine wp_region_class (by kernel_rfl) (by kernel_rfl) (fun hall => ?_)
        repeat (first | go_big_quiet_skip | (go_big_quiet_want; first | (refine quiet_load1 _ _ _ rfl rfl ?_ ?_ ?_; (focus (intro _; simp; done)); (focus (first | assumption | omega | (simp; done) | (simp; omega))); apply Exists.intro; refine ⟨?_, ?_⟩; assumption; go_simp; go_big_quiet_on) | (refine quiet_load2 _ _ _ _ rfl rfl ?_ ?_ ?_ ?_; (focus (intro _; simp; done)); (focus (intro _; simp; done)); (focus (first | assumption | omega | (simp; done) | (simp; omega))); apply Exists.intro; apply Exists.intro; refine ⟨?_, ?_, ?_⟩; assumption; assumption; go_simp; go_big_quiet_on) | (refine quiet_load3 _ _ _ _ rfl rfl ?_ ?_ ?_ ?_; (focus (intro _; simp; done)); (focus (intro _; simp; done)); (focus (first | assumption | omega | (simp; done) | (simp; omega))); apply Exists.intro; apply Exists.intro; apply Exists.intro; refine ⟨?_, ?_, ?_, ?_⟩; assumption; assumption; assumption; go_simp; go_big_quiet_on) | (refine quiet_load4 _ _ _ _ rfl rfl ?_ ?_ ?_ ?_; (focus (intro _; simp; done)); (focus (intro _; simp; done)); (focus (first | assumption | omega | (simp; done) | (simp; omega))); apply Exists.intro; apply Exists.intro; apply Exists.intro; apply Exists.intro; refine ⟨?_, ?_, ?_, ?_, ?_⟩; assumption; assumption; assumption; assumption; go_simp; go_big_quiet_on) | (go_big_quiet_op; first | go_big_quiet_on | (apply Exists.intro; refine ⟨fun x hx => ?_, ?_⟩; (first | (with_reducible exact call_same hx (HW.out d x)) | exact call_same hx (HW.out d x)); go_big_quiet_on))))
        refine wpQuiet_nil ?_
        clear hall
        intro x12 hx12
        clear b1 B1 b2 B2 b3 B3 b4 B4 b5 B5 b6 q0 q1 q2 cz1 cz2
        have dx1 := (hx12.cell (p := ⟨w5.heap.size, 0, none⟩) lb4).trans g4x0
        have dx2 := (hx12.cell (p := ⟨w5.heap.size, 1, none⟩) lb4).trans g4x1
        have lb : w5.heap.size < x12.heap.size := by have := hx12.size; omega
        have hB12 : Below w3.heap.size w3 x12 := bt hB4 hx12
        clear g4x0 g4x1
        by_cases k35 : kd = 35
        · subst k35
          have r1 : ¬ F + 9 ≤ d := by have := HD.out.2.2.2.2.2.1 rfl; omega
          have R1 : decide (F + 9 ≤ d) = false := by simpa using r1
          go_wp2_with fail
          go_loopw [14] (fun i ws => ∃ q : Nat, q ≤ j ∧ i = .int .i64 (q : Int) ∧ Below x12.heap.size x12 ws) (fun i _ => j - (intOf i).toNat)
          case atStart => exact ⟨0, Nat.zero_le _, rfl, Below.refl _ _⟩
          case round =>
            obtain ⟨q, hq, rfl, hC⟩ := hrel
            by_cases hqt : q < j
            · obtain ⟨z, hz⟩ : ∃ x, l[q]? = some x := ⟨_, List.getElem?_eq_getElem (by omega)⟩
              obtain ⟨k', d'⟩ := z
              have hne := HD.out.2.2.2.2.2.2.2.2 q k' d' hqt hz
              obtain ⟨b', off', cc, hp1, hc⟩ := ((hr3.below hB12).below hC).at_some (by omega)
              simp only [Value.slice.injEq, Option.some.injEq, Addr.mk.injEq] at hp1
              obtain ⟨⟨rfl, rfl, -⟩, -, -⟩ := hp1
              obtain ⟨cz1, cz2⟩ := Ev.cells_at hc q (k', d') hz
              have lz := World.block_lt_of_cell? _ _ cz1
              dsimp only at lz cz1 cz2
              have y1 := (hC.cell (p := ⟨w5.heap.size, 0, none⟩) lb).trans dx1
              have ly : w5.heap.size < wr.heap.size := by have := hC.size; omega
              have q0 : (0 : Int) ≤ (q : Int) := by omega
              have q1 : (q : Int) < (j : Int) := by omega
              have q2 : (q : Int) < 8 := by omega
              have e1 : (k' == 35) = false := by simpa using hne.1
              clear hne hz hc
              go_wp2_with fail
              refine wp_region_class (by kernel_rfl) (by kernel_rfl) (fun hall => ?_)
              repeat (first | go_big_quiet_skip | (go_big_quiet_want; first | (refine quiet_load1 _ _ _ rfl rfl ?_ ?_ ?_; (focus (intro _; simp; done)); (focus (first | assumption | omega | (simp; done) | (simp; omega))); apply Exists.intro; refine ⟨?_, ?_⟩; assumption; go_simp; go_big_quiet_on) | (refine quiet_load2 _ _ _ _ rfl rfl ?_ ?_ ?_ ?_; (focus (intro _; simp; done)); (focus (intro _; simp; done)); (focus (first | assumption | omega | (simp; done) | (simp; omega))); apply Exists.intro; apply Exists.intro; refine ⟨?_, ?_, ?_⟩; assumption; assumption; go_simp; go_big_quiet_on) | (refine quiet_load3 _ _ _ _ rfl rfl ?_ ?_ ?_ ?_; (focus (intro _; simp; done)); (focus (intro _; simp; done)); (focus (first | assumption | omega | (simp; done) | (simp; omega))); apply Exists.intro; apply Exists.intro; apply Exists.intro; refine ⟨?_, ?_, ?_, ?_⟩; assumption; assumption; assumption; go_simp; go_big_quiet_on) | (refine quiet_load4 _ _ _ _ rfl rfl ?_ ?_ ?_ ?_; (focus (intro _; simp; done)); (focus (intro _; simp; done)); (focus (first | assumption | omega | (simp; done) | (simp; omega))); apply Exists.intro; apply Exists.intro; apply Exists.intro; apply Exists.intro; refine ⟨?_, ?_, ?_, ?_, ?_⟩; assumption; assumption; assumption; assumption; go_simp; go_big_quiet_on) | (go_big_quiet_op; first | go_big_quiet_on | (apply Exists.intro; refine ⟨fun x hx => ?_, ?_⟩; (first | fail); go_big_quiet_on))))
              refine wpQuiet_nil ?_
              clear hall
              intro x19 hx19
              go_wp2_with fail
              go_roundw
              case rel => exact ⟨q + 1, by omega, by go_num, bt hC hx19⟩
              case measure => simp [intOf]; omega
            · obtain rfl : q = j := by omega
              clear hqt
              go_wp2_with fail
              go_roundw
              case rel => exact ⟨q + 1, by omega, by go_num, bt hB12 hC⟩
              case measure => simp [intOf]; omega
        by_cases k37 : kd = 37
        · subst k37
          have r1 : ¬ d < N - 50 := by have := HD.out.2.2.2.2.2.2.1 rfl; omega
          have R1 : decide (d < N - 50) = false := by simpa using r1
          clear k35
          go_wp2_with fail
          go_loopw [14] (fun i ws => ∃ q : Nat, q ≤ j ∧ i = .int .i64 (q : Int) ∧ Below x12.heap.size x12 ws) (fun i _ => j - (intOf i).toNat)
          case atStart => exact ⟨0, Nat.zero_le _, rfl, Below.refl _ _⟩
          case round =>
            obtain ⟨q, hq, rfl, hC⟩ := hrel
            by_cases hqt : q < j
            · obtain ⟨z, hz⟩ : ∃ x, l[q]? = some x := ⟨_, List.getElem?_eq_getElem (by omega)⟩
              obtain ⟨k', d'⟩ := z
              have hne := HD.out.2.2.2.2.2.2.2.2 q k' d' hqt hz
              obtain ⟨b', off', cc, hp1, hc⟩ := ((hr3.below hB12).below hC).at_some (by omega)
              simp only [Value.slice.injEq, Option.some.injEq, Addr.mk.injEq] at hp1
              obtain ⟨⟨rfl, rfl, -⟩, -, -⟩ := hp1
              obtain ⟨cz1, cz2⟩ := Ev.cells_at hc q (k', d') hz
              have lz := World.block_lt_of_cell? _ _ cz1
              dsimp only at lz cz1 cz2
              have y1 := (hC.cell (p := ⟨w5.heap.size, 0, none⟩) lb).trans dx1
              have ly : w5.heap.size < wr.heap.size := by have := hC.size; omega
              have q0 : (0 : Int) ≤ (q : Int) := by omega
              have q1 : (q : Int) < (j : Int) := by omega
              have q2 : (q : Int) < 8 := by omega
              have e1 : (k' == 37) = false := by simpa using hne.1
              clear hne hz hc
              go_wp2_with fail
              refine wp_region_class (by kernel_rfl) (by kernel_rfl) (fun hall => ?_)
              repeat (first | go_big_quiet_skip | (go_big_quiet_want; first | (refine quiet_load1 _ _ _ rfl rfl ?_ ?_ ?_; (focus (intro _; simp; done)); (focus (first | assumption | omega | (simp; done) | (simp; omega))); apply Exists.intro; refine ⟨?_, ?_⟩; assumption; go_simp; go_big_quiet_on) | (refine quiet_load2 _ _ _ _ rfl rfl ?_ ?_ ?_ ?_; (focus (intro _; simp; done)); (focus (intro _; simp; done)); (focus (first | assumption | omega | (simp; done) | (simp; omega))); apply Exists.intro; apply Exists.intro; refine ⟨?_, ?_, ?_⟩; assumption; assumption; go_simp; go_big_quiet_on) | (refine quiet_load3 _ _ _ _ rfl rfl ?_ ?_ ?_ ?_; (focus (intro _; simp; done)); (focus (intro _; simp; done)); (focus (first | assumption | omega | (simp; done) | (simp; omega))); apply Exists.intro; apply Exists.intro; apply Exists.intro; refine ⟨?_, ?_, ?_, ?_⟩; assumption; assumption; assumption; go_simp; go_big_quiet_on) | (refine quiet_load4 _ _ _ _ rfl rfl ?_ ?_ ?_ ?_; (focus (intro _; simp; done)); (focus (intro _; simp; done)); (focus (first | assumption | omega | (simp; done) | (simp; omega))); apply Exists.intro; apply Exists.intro; apply Exists.intro; apply Exists.intro; refine ⟨?_, ?_, ?_, ?_, ?_⟩; assumption; assumption; assumption; assumption; go_simp; go_big_quiet_on) | (go_big_quiet_op; first | go_big_quiet_on | (apply Exists.intro; refine ⟨fun x hx => ?_, ?_⟩; (first | fail); go_big_quiet_on))))
              refine wpQuiet_nil ?_
              clear hall
              intro x19 hx19
              go_wp2_with fail
              go_roundw
              case rel => exact ⟨q + 1, by omega, by go_num, bt hC hx19⟩
              case measure => simp [intOf]; omega
            · obtain rfl : q = j := by omega
              clear hqt
              go_wp2_with fail
              go_roundw
              case rel => exact ⟨q + 1, by omega, by go_num, bt hB12 hC⟩
              case measure => simp [intOf]; omega
        by_cases k34 : kd = 34
        · subst k34
          have r1 : ¬ N - 163 ≤ d := by have := (HD.out.2.2.2.2.2.2.2.1 rfl).2; omega
          have R1 : decide (N - 163 ≤ d) = false := by simpa using r1
          have r2 : ¬ d < N - 170 := by have := (HD.out.2.2.2.2.2.2.2.1 rfl).1; omega
          have R2 : decide (d < N - 170) = false := by simpa using r2
          clear k35 k37
          go_wp2_with fail
          go_loopw [14] (fun i ws => ∃ q : Nat, q ≤ j ∧ i = .int .i64 (q : Int) ∧ Below x12.heap.size x12 ws) (fun i _ => j - (intOf i).toNat)
          case atStart => exact ⟨0, Nat.zero_le _, rfl, Below.refl _ _⟩
          case round =>
            obtain ⟨q, hq, rfl, hC⟩ := hrel
            by_cases hqt : q < j
            · obtain ⟨z, hz⟩ : ∃ x, l[q]? = some x := ⟨_, List.getElem?_eq_getElem (by omega)⟩
              obtain ⟨k', d'⟩ := z
              have hne := HD.out.2.2.2.2.2.2.2.2 q k' d' hqt hz
              obtain ⟨b', off', cc, hp1, hc⟩ := ((hr3.below hB12).below hC).at_some (by omega)
              simp only [Value.slice.injEq, Option.some.injEq, Addr.mk.injEq] at hp1
              obtain ⟨⟨rfl, rfl, -⟩, -, -⟩ := hp1
              obtain ⟨cz1, cz2⟩ := Ev.cells_at hc q (k', d') hz
              have lz := World.block_lt_of_cell? _ _ cz1
              dsimp only at lz cz1 cz2
              have y1 := (hC.cell (p := ⟨w5.heap.size, 0, none⟩) lb).trans dx1
              have ly : w5.heap.size < wr.heap.size := by have := hC.size; omega
              have q0 : (0 : Int) ≤ (q : Int) := by omega
              have q1 : (q : Int) < (j : Int) := by omega
              have q2 : (q : Int) < 8 := by omega
              have e1 : (k' == 34) = false := by simpa using hne.1
              clear hne hz hc
              go_wp2_with fail
              refine wp_region_class (by kernel_rfl) (by kernel_rfl) (fun hall => ?_)
              repeat (first | go_big_quiet_skip | (go_big_quiet_want; first | (refine quiet_load1 _ _ _ rfl rfl ?_ ?_ ?_; (focus (intro _; simp; done)); (focus (first | assumption | omega | (simp; done) | (simp; omega))); apply Exists.intro; refine ⟨?_, ?_⟩; assumption; go_simp; go_big_quiet_on) | (refine quiet_load2 _ _ _ _ rfl rfl ?_ ?_ ?_ ?_; (focus (intro _; simp; done)); (focus (intro _; simp; done)); (focus (first | assumption | omega | (simp; done) | (simp; omega))); apply Exists.intro; apply Exists.intro; refine ⟨?_, ?_, ?_⟩; assumption; assumption; go_simp; go_big_quiet_on) | (refine quiet_load3 _ _ _ _ rfl rfl ?_ ?_ ?_ ?_; (focus (intro _; simp; done)); (focus (intro _; simp; done)); (focus (first | assumption | omega | (simp; done) | (simp; omega))); apply Exists.intro; apply Exists.intro; apply Exists.intro; refine ⟨?_, ?_, ?_, ?_⟩; assumption; assumption; assumption; go_simp; go_big_quiet_on) | (refine quiet_load4 _ _ _ _ rfl rfl ?_ ?_ ?_ ?_; (focus (intro _; simp; done)); (focus (intro _; simp; done)); (focus (first | assumption | omega | (simp; done) | (simp; omega))); apply Exists.intro; apply Exists.intro; apply Exists.intro; apply Exists.intro; refine ⟨?_, ?_, ?_, ?_, ?_⟩; assumption; assumption; assumption; assumption; go_simp; go_big_quiet_on) | (go_big_quiet_op; first | go_big_quiet_on | (apply Exists.intro; refine ⟨fun x hx => ?_, ?_⟩; (first | fail); go_big_quiet_on))))
              refine wpQuiet_nil ?_
              clear hall
              intro x19 hx19
              go_wp2_with fail
              go_roundw
              case rel => exact ⟨q + 1, by omega, by go_num, bt hC hx19⟩
              case measure => simp [intOf]; omega
            · obtain rfl : q = j := by omega
              clear hqt
              go_wp2_with fail
              go_roundw
              case rel => exact ⟨q + 1, by omega, by go_num, bt hB12 hC⟩
              case measure => simp [intOf]; omega
        have e35 : (kd == 35) = false := by simpa using k35
        have e37 : (kd == 37) = false := by simpa using k37
        have e34 : (kd == 34) = false := by simpa using k34
        clear k35 k37 k34
        go_wp2_with fail
        go_loopw [14] (fun i ws => ∃ q : Nat, q ≤ j ∧ i = .int .i64 (q : Int) ∧ Below x12.heap.size x12 ws) (fun i _ => j - (intOf i).toNat)
        case atStart => exact ⟨0, Nat.zero_le _, rfl, Below.refl _ _⟩
        case round =>
          obtain ⟨q, hq, rfl, hC⟩ := hrel
          by_cases hqt : q < j
          · obtain ⟨z, hz⟩ : ∃ x, l[q]? = some x := ⟨_, List.getElem?_eq_getElem (by omega)⟩
            obtain ⟨k', d'⟩ := z
            have hne := HD.out.2.2.2.2.2.2.2.2 q k' d' hqt hz
            obtain ⟨b', off', cc, hp1, hc⟩ := ((hr3.below hB12).below hC).at_some (by omega)
            simp only [Value.slice.injEq, Option.some.injEq, Addr.mk.injEq] at hp1
            obtain ⟨⟨rfl, rfl, -⟩, -, -⟩ := hp1
            obtain ⟨cz1, cz2⟩ := Ev.cells_at hc q (k', d') hz
            have lz := World.block_lt_of_cell? _ _ cz1
            dsimp only at lz cz1 cz2
            have y1 := (hC.cell (p := ⟨w5.heap.size, 0, none⟩) lb).trans dx1
            have ly : w5.heap.size < wr.heap.size := by have := hC.size; omega
            have q0 : (0 : Int) ≤ (q : Int) := by omega
            have q1 : (q : Int) < (j : Int) := by omega
            have q2 : (q : Int) < 8 := by omega
            have e1 : (k' == kd) = false := by simpa using hne.1
            clear hne hz hc
            go_wp2_with fail
            refine wp_region_class (by kernel_rfl) (by kernel_rfl) (fun hall => ?_)
            repeat (first | go_big_quiet_skip | (go_big_quiet_want; first | (refine quiet_load1 _ _ _ rfl rfl ?_ ?_ ?_; (focus (intro _; simp; done)); (focus (first | assumption | omega | (simp; done) | (simp; omega))); apply Exists.intro; refine ⟨?_, ?_⟩; assumption; go_simp; go_big_quiet_on) | (refine quiet_load2 _ _ _ _ rfl rfl ?_ ?_ ?_ ?_; (focus (intro _; simp; done)); (focus (intro _; simp; done)); (focus (first | assumption | omega | (simp; done) | (simp; omega))); apply Exists.intro; apply Exists.intro; refine ⟨?_, ?_, ?_⟩; assumption; assumption; go_simp; go_big_quiet_on) | (refine quiet_load3 _ _ _ _ rfl rfl ?_ ?_ ?_ ?_; (focus (intro _; simp; done)); (focus (intro _; simp; done)); (focus (first | assumption | omega | (simp; done) | (simp; omega))); apply Exists.intro; apply Exists.intro; apply Exists.intro; refine ⟨?_, ?_, ?_, ?_⟩; assumption; assumption; assumption; go_simp; go_big_quiet_on) | (refine quiet_load4 _ _ _ _ rfl rfl ?_ ?_ ?_ ?_; (focus (intro _; simp; done)); (focus (intro _; simp; done)); (focus (first | assumption | omega | (simp; done) | (simp; omega))); apply Exists.intro; apply Exists.intro; apply Exists.intro; apply Exists.intro; refine ⟨?_, ?_, ?_, ?_, ?_⟩; assumption; assumption; assumption; assumption; go_simp; go_big_quiet_on) | (go_big_quiet_op; first | go_big_quiet_on | (apply Exists.intro; refine ⟨fun x hx => ?_, ?_⟩; (first | fail); go_big_quiet_on))))
            refine wpQuiet_nil ?_
            clear hall
            intro x19 hx19
            go_wp2_with fail
            go_roundw
            case rel => exact ⟨q + 1, by omega, by go_num, bt hC hx19⟩
            case measure => simp [intOf]; omega
          · obtain rfl : q = j := by omega
            clear hqt
            go_wp2_with fail
            go_roundw
            case rel => exact ⟨q + 1, by omega, by go_num, bt hB12 hC⟩
            case measure => simp [intOf]; omega
    · obtain rfl : j = 8 := by omega
      clear hlt
      have hBw : Below w.heap.size w w5 := bt hB3 hB
      go_wp2_with fail
      refine (HAw.out _ (Tab.below hT (by repeat (first | (with_reducible exact Below.refl _ _) | (with_reducible assumption) | (with_reducible refine bdrew ?_) | (with_reducible refine baa ?_ _) | (with_reducible refine bs ?_ (by first | exact Nat.le_refl _ | omega | (simp; done) | (simp; omega)) _) | (with_reducible refine bt ?_ (by with_reducible assumption))))) (Tab.below hL (by repeat (first | (with_reducible exact Below.refl _ _) | (with_reducible assumption) | (with_reducible refine bdrew ?_) | (with_reducible refine baa ?_ _) | (with_reducible refine bs ?_ (by first | exact Nat.le_refl _ | omega | (simp; done) | (simp; omega)) _) | (with_reducible refine bt ?_ (by with_reducible assumption)))))).mono ?_
      rintro e w9 ⟨rfl, hb9⟩
      go_wp2_with fail
      go_ret
      exact ⟨rfl, bt hBw hb9⟩
theorem SpecialDays_walk (y : Int) (hy : 0 ≤ y ∧ y ≤ 65535) (w : World) (hT : Tab w 1 kevCells) (hL : Tab w 0 lenCells) :
    Calls Tryd.prog 3 #[.int .u16 y] w fun e w' => e = .returned (.bool true) ∧ Below w.heap.size w w' := by
  obtain ⟨i, hi⟩ := Yr.is_some (1 + y % 9999) (by omega) (by omega)
  have hf := Yr.next_first hi
  have hb := Yr.first_bd hi
  have hc := List.all_eq_true.1 Sp.all_chk i (List.mem_range.2 hi.2.2.1)
  have hOK := Sp.chk_ok hi.2.2.2.1 hf hc
  have hlen : 353 ≤ Yr.lenV i ∧ Yr.lenV i ≤ 385 := by
    have : ((List.range 14).all fun i => decide (353 ≤ Yr.lenV i) && decide (Yr.lenV i ≤ 385)) = true := by decide +kernel
    have := List.all_eq_true.1 this i (List.mem_range.2 hi.2.2.1)
    simpa using this
  refine SpecialDays_go y (Cal.first (1 + y % 9999)) (Cal.first ((1 + y % 9999) + 1)) ((Sp.spL i).map (Ev.sh (Cal.first (1 + y % 9999)))) w hy (by omega) (by omega) hT hL (by rw [List.length_map]; rfl) (Lib.hid (fun w hT hL => special_Of_at (1 + y % 9999) i w hi hT hL)) (Lib.hid (fun w => ref5_First_ok (1 + y % 9999) w (by omega) (by omega))) (Lib.hid (fun w => ref5_First_ok ((1 + y % 9999) + 1) w (by omega) (by omega))) (Lib.hid (fun j kd d hj w hT hL => ?_)) (Lib.hid (fun j kd d hj => (hOK j kd d hj).1)) (Lib.hid (fun w hT hL => awake22 w hT hL))
  obtain ⟨h1, h2⟩ := hOK j kd d hj
  have hin : -1373427 ≤ d ∧ d ≤ 2278650 := by
    obtain ⟨_, e1, e2, _⟩ := h1
    have := D10.day_there
    have q := first_mono ((1 + y % 9999) + 1) 10000 (by omega) (by omega) (by omega)
    rw [show Cal.first 10000 = 2278651 by decide +kernel] at q
    omega
  obtain ⟨y', m', d', hv, rfl⟩ := D10.day_there d hin.1 hin.2
  have hd := D10.day_in hv
  have ey : y' = (1 + y % 9999) := by
    obtain ⟨_, e1, e2, _⟩ := h1
    have v1 := hv.1
    have v2 := hv.2.1
    rcases Int.lt_trichotomy y' (1 + y % 9999) with c | c | c
    · have := first_mono (y' + 1) (1 + y % 9999) (by omega) (by omega) (by omega)
      omega
    · exact c
    · have := first_mono ((1 + y % 9999) + 1) y' (by omega) (by omega) (by omega)
      omega
  subst ey
  have := special_Named_at _ m' d' i w hi hv hT hL
  rwa [h2] at this
end Go.Proofs.YtbmcpeccofadhaaDoor
