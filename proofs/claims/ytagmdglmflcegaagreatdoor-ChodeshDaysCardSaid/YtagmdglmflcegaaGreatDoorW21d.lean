/- Layer 21: ChodeshDays. -/
import Derived.Test.YtagmdglmflcegaaGreatDoorW21
namespace Go.Proofs.YtagmdglmflcegaaGreatDoor
open Go.ChangeShapes Go.WideShapes Go.ChangeAt Go.RowKit Go.Lib Go.Sort Go.Shelf
set_option linter.unusedVariables false
set_option maxRecDepth 100000
namespace Ch
def dayOk (Y : Int) (l : List (Int × Int)) (j : Nat) (kd D : Int) : Prop :=
  kd = 29 ∧ (∀ k' D', j ≠ 0 → l[j - 1]? = some (k', D') → D' < D) ∧ ∃ num lb, ((¬ num = 1 ∧ ∀ w : World, Calls Tryz.prog 23 #[.int .i64 D] w fun e w' => e = .returned (.tuple #[.agg #[.int .i64 Y, .int .i64 num, .bool lb, .int .i64 1], .int .i64 0]) ∧ Below w.heap.size w w') ∨ (l[j + 1]? = some (29, D + 1) ∧ (-2000000 ≤ D ∧ D ≤ 3000000) ∧ ∀ w : World, Calls Tryz.prog 23 #[.int .i64 D] w fun e w' => e = .returned (.tuple #[.agg #[.int .i64 Y, .int .i64 num, .bool lb, .int .i64 30], .int .i64 0]) ∧ Below w.heap.size w w'))
def at1 (i : Nat) (O : List (Int × Int)) (j : Nat) (o : Int) (m : Nat) : Bool :=
  decide (o = aheadV (kevB i) (kevK i) (kevL i) ((m : Int) + 1)) && (decide ((m : Int) + 1 ≤ Cal.most (kevL i)) && (decide (1 ≤ daysV (kevB i) (kevK i) (kevL i) ((m : Int) + 1)) && !(Cal.ofN (kevL i) ((m : Int) + 1) == 1)))
def at30 (i : Nat) (O : List (Int × Int)) (j : Nat) (o : Int) (m : Nat) : Bool :=
  decide (o = aheadV (kevB i) (kevK i) (kevL i) ((m : Int) + 1) + 29) && (decide ((m : Int) + 1 ≤ Cal.most (kevL i)) && (decide (30 ≤ daysV (kevB i) (kevK i) (kevL i) ((m : Int) + 1)) && decide (O[j + 1]? = some (29, o + 1))))
def chk (i : Nat) (O : List (Int × Int)) : Bool := (List.range O.length).all fun j => match O[j]? with
  | some (kd, o) => (kd == 29) && ((j == 0 || (match O[j - 1]? with | some (_, o') => decide (o' < o) | none => true)) && ((List.range 13).any (at1 i O j o) || (List.range 13).any (at30 i O j o)))
  | none => true
theorem all_chk : ((List.range 14).all fun i => chk i (chL i) && (decide (11 ≤ (chL i).length) && decide ((chL i).length ≤ 26))) = true := by decide +kernel
theorem chk_ok {y : Int} {i : Nat} (hi : Yr.Is y i) {O : List (Int × Int)} (h : chk i O = true) (j : Nat) (kd D : Int) (hj : (O.map (Ev.sh (Cal.first y)))[j]? = some (kd, D)) : dayOk y (O.map (Ev.sh (Cal.first y))) j kd D := by
  rw [List.getElem?_map] at hj
  cases hO : O[j]? with
  | none => rw [hO] at hj; simp at hj
  | some x =>
    obtain ⟨kd', o⟩ := x
    rw [hO] at hj
    simp only [Option.map_some, Option.some.injEq, Ev.sh, Prod.mk.injEq] at hj
    obtain ⟨rfl, rfl⟩ := hj
    have hlt := (List.getElem?_eq_some_iff.1 hO).1
    have hc := List.all_eq_true.1 h j (List.mem_range.2 hlt)
    rw [hO] at hc
    simp only [Bool.and_eq_true, Bool.or_eq_true, beq_iff_eq] at hc
    obtain ⟨c1, c2, c3⟩ := hc
    have key : ∀ (m : Nat) (d : Int), (m : Int) + 1 ≤ Cal.most (kevL i) → 1 ≤ d → d ≤ daysV (kevB i) (kevK i) (kevL i) ((m : Int) + 1) → o = aheadV (kevB i) (kevK i) (kevL i) ((m : Int) + 1) + d - 1 →
        D10.Valid y ((m : Int) + 1) d ∧ Cal.first y + o = D10.dayOf y ((m : Int) + 1) d := fun m d m2 d1 d2 e => by
      refine ⟨⟨hi.1, hi.2.1, by omega, by rw [hi.2.2.2.2.2]; exact m2, d1, ?_⟩, ?_⟩
      · unfold D10.dLen; rw [hi.2.2.2.1, hi.2.2.2.2.1, hi.2.2.2.2.2]; exact d2
      · unfold D10.dayOf D10.dAhead; rw [hi.2.2.2.1, hi.2.2.2.2.1, hi.2.2.2.2.2]; omega
    refine ⟨c1, fun k' d' hj0 hp => ?_, ?_⟩
    · rw [List.getElem?_map] at hp
      cases hO1 : O[j - 1]? with
      | none => rw [hO1] at hp; simp at hp
      | some z =>
        obtain ⟨k2, o2⟩ := z
        rw [hO1] at hp c2
        simp only [Option.map_some, Option.some.injEq, Ev.sh, Prod.mk.injEq] at hp
        obtain ⟨rfl, rfl⟩ := hp
        simp [hj0] at c2
        omega
    · rcases c3 with c3 | c3
      · obtain ⟨m, _, hm⟩ := List.any_eq_true.1 c3
        unfold at1 at hm
        simp only [Bool.and_eq_true, decide_eq_true_eq, Bool.not_eq_true', beq_eq_false_iff_ne] at hm
        obtain ⟨e1, e2, e3, e4⟩ := hm
        obtain ⟨hv, hd⟩ := key m 1 e2 (by omega) e3 (by omega)
        refine ⟨Cal.ofN (Cal.leap y) ((m : Int) + 1), Cal.ofL (Cal.leap y) ((m : Int) + 1), .inl ⟨?_, fun w => ?_⟩⟩
        · rw [hi.2.2.2.2.2]; exact e4
        · rw [hd]; exact ref10_FromDay_at y _ 1 w hv
      · obtain ⟨m, _, hm⟩ := List.any_eq_true.1 c3
        unfold at30 at hm
        simp only [Bool.and_eq_true, decide_eq_true_eq] at hm
        obtain ⟨e1, e2, e3, e4⟩ := hm
        obtain ⟨hv, hd⟩ := key m 30 e2 (by omega) e3 (by omega)
        refine ⟨Cal.ofN (Cal.leap y) ((m : Int) + 1), Cal.ofL (Cal.leap y) ((m : Int) + 1), .inr ⟨?_, by have := D10.day_bd hv; omega, fun w => ?_⟩⟩
        · rw [List.getElem?_map, e4]; simp [Ev.sh]; omega
        · rw [hd]; exact ref10_FromDay_at y _ 30 w hv
end Ch
set_option maxHeartbeats 16000000 in
theorem ChodeshDays_go (y : Int) (n : Nat) (l : List (Int × Int)) (w : World) (hy : 0 ≤ y ∧ y ≤ 65535) (hT : Tab w 2 kevCells) (hL : Tab w 3 lenCells) (hl : l.length = n) (hn1 : 11 ≤ n) (hn2 : n ≤ 26)
    (HO : Hid (∀ w : World, Tab w 2 kevCells → Tab w 3 lenCells → Calls Tryz.prog 15 #[.int .i64 (1 + y % 9999)] w fun e w' => ∃ v, e = .returned (.tuple #[v, .int .i64 0]) ∧ Ev.Own w' w.heap.size v l ∧ Below w.heap.size w w'))
    (HDs : Hid (∀ j kd D, l[j]? = some (kd, D) → Ch.dayOk (1 + y % 9999) l j kd D)) (HAw : Hid (∀ w : World, Tab w 2 kevCells → Tab w 3 lenCells → Calls Tryz.prog 22 #[] w fun e w' => e = .returned (.bool true) ∧ Below w.heap.size w w')) :
    Calls Tryz.prog 5 #[.int .u16 y] w fun e w' => e = .returned (.bool true) ∧ Below w.heap.size w w' := by
  have y0 : 0 ≤ y % 9999 := by omega
  have y1 : y % 9999 < 9999 := by omega
  have n11 : ¬ (n : Int) < 11 := by omega
  have N11 : decide ((n : Int) < 11) = false := by simpa using n11
  go_enter Tryz.func5, Tryz.ntmps5
  go_wp2_with fail
  refine (HO.out _ (Tab.below hT (by repeat (first | (with_reducible exact Below.refl _ _) | (with_reducible assumption) | (with_reducible refine bdrew ?_) | (with_reducible refine baa ?_ _) | (with_reducible refine bs ?_ (by first | exact Nat.le_refl _ | omega | (simp; done) | (simp; omega)) _) | (with_reducible refine bt ?_ (by with_reducible assumption))))) (Tab.below hL (by repeat (first | (with_reducible exact Below.refl _ _) | (with_reducible assumption) | (with_reducible refine bdrew ?_) | (with_reducible refine baa ?_ _) | (with_reducible refine bs ?_ (by first | exact Nat.le_refl _ | omega | (simp; done) | (simp; omega)) _) | (with_reducible refine bt ?_ (by with_reducible assumption)))))).mono ?_
  rintro e w1 ⟨v1, rfl, ho1, hb1⟩
  have hr := ho1.row
  obtain ⟨p1, c1, rfl⟩ := hr.len
  rw [hl]
  go_wp2_with fail
  clear ho1
  go_loopw [6] (fun i wr => ∃ j : Nat, j ≤ n ∧ i = .int .i64 (j : Int) ∧ Below w1.heap.size w1 wr) (fun i _ => n - (intOf i).toNat)
  case atStart => exact ⟨0, Nat.zero_le _, rfl, Below.refl _ _⟩
  case round =>
    obtain ⟨j, hj, rfl, hB⟩ := hrel
    by_cases hlt : j < n
    · obtain ⟨x, hx⟩ : ∃ x, l[j]? = some x := ⟨_, List.getElem?_eq_getElem (by omega)⟩
      obtain ⟨kd, D⟩ := x
      obtain ⟨ek, hpv, num, lb, hcs⟩ := HDs.out j kd D hx
      subst ek
      obtain ⟨b, off, cc, hp1, hc⟩ := (hr.below hB).at_some (by omega)
      simp only [Value.slice.injEq] at hp1
      obtain ⟨rfl, -, rfl⟩ := hp1
      obtain ⟨cx1, cx2⟩ := Ev.cells_at hc j (29, D) hx
      have lx := World.block_lt_of_cell? _ _ cx1
      dsimp only at lx cx1 cx2
      have j0 : (0 : Int) ≤ (j : Int) := by omega
      have j1 : (j : Int) < (n : Int) := by omega
      have j2 : (j : Int) ≤ 26 := by omega
      have hsB := hB.size
      by_cases hj0 : j = 0
      · subst hj0
        clear hpv
        simp only [Nat.zero_mul, Nat.add_zero] at cx1 cx2
        rcases hcs with ⟨hnum, HFC⟩ | ⟨hnx, ⟨db1, db2⟩, HFC⟩
        · have HFC := Lib.hid HFC
          have g1 : (num == 1) = false := by simpa using hnum
          clear hnum hx hc
          go_wp2_with fail
          refine (HFC.out _).mono ?_
          rintro e w5 ⟨rfl, hb5⟩
          obtain ⟨hc5, hf5⟩ := bcell hb5
          have hz5 := hb5.size
          try simp at hz5
          have hs5x0 : b < w5.heap.size := by omega
          have g5x0 : w5.cell? ⟨b, off, none⟩ = some (.int .i64 29) := (hc5 _ _ (by first | omega | (simp; done) | (simp; omega))).trans (by first | (with_reducible assumption) | (simp [go_sem]; done) | (simp [go_sem, *]; done) | assumption)
          have g5x1 : w5.cell? ⟨b, off + 1, none⟩ = some (.int .i64 D) := (hc5 _ _ (by first | omega | (simp; done) | (simp; omega))).trans (by first | (with_reducible assumption) | (simp [go_sem]; done) | (simp [go_sem, *]; done) | assumption)
          go_wp2_with fail
          refine settle (fun W => W.cell? ⟨b, off, none⟩ = some (.int .i64 29) ∧ W.cell? ⟨b, off + 1, none⟩ = some (.int .i64 D) ∧ W.cell? ⟨w5.heap.size, 0, none⟩ = some (.int .i64 (1 + y % 9999)) ∧ W.cell? ⟨w5.heap.size, 1, none⟩ = some (.int .i64 num) ∧ W.cell? ⟨w5.heap.size, 2, none⟩ = some (.bool lb) ∧ W.cell? ⟨w5.heap.size, 3, none⟩ = some (.int .i64 1) ∧ b < W.heap.size ∧ w5.heap.size < W.heap.size ∧ Below w1.heap.size w1 W) ⟨?_, ?_, ?_, ?_, ?_, ?_, ?_, ?_, ?_⟩ ?_
          · (first | (with_reducible assumption) | (simp [go_sem, *]; done) | assumption)
          · (first | (with_reducible assumption) | (simp [go_sem, *]; done) | assumption)
          · (first | (with_reducible assumption) | (simp [go_sem, *]; done) | assumption)
          · (first | (with_reducible assumption) | (simp [go_sem, *]; done) | assumption)
          · (first | (with_reducible assumption) | (simp [go_sem, *]; done) | assumption)
          · (first | (with_reducible assumption) | (simp [go_sem, *]; done) | assumption)
          · (first | assumption | (simp; done) | (simp; omega) | omega)
          · (first | assumption | (simp; done) | (simp; omega) | omega)
          · (repeat (first | exact Below.refl _ _ | assumption | (with_reducible refine bdrew ?_) | (with_reducible refine baa ?_ _) | (with_reducible refine bs ?_ (by first | exact Nat.le_refl _ | omega | (simp; done) | (simp; omega)) _) | (with_reducible refine bt ?_ (by assumption))))
          rintro W8 ⟨r8x0, r8x1, r8x2, r8x3, r8x4, r8x5, rs8x0, rs8x1, hB8⟩
          refine wp_region_class (by kernel_rfl) (by kernel_rfl) (fun hall => ?_)
          repeat (first | go_big_quiet_skip | (go_big_quiet_want; first | (refine quiet_load1 _ _ _ rfl rfl ?_ ?_ ?_; (focus (intro _; simp; done)); (focus (first | assumption | omega | (simp; done) | (simp; omega))); apply Exists.intro; refine ⟨?_, ?_⟩; assumption; go_simp; go_big_quiet_on) | (refine quiet_load2 _ _ _ _ rfl rfl ?_ ?_ ?_ ?_; (focus (intro _; simp; done)); (focus (intro _; simp; done)); (focus (first | assumption | omega | (simp; done) | (simp; omega))); apply Exists.intro; apply Exists.intro; refine ⟨?_, ?_, ?_⟩; assumption; assumption; go_simp; go_big_quiet_on) | (refine quiet_load3 _ _ _ _ rfl rfl ?_ ?_ ?_ ?_; (focus (intro _; simp; done)); (focus (intro _; simp; done)); (focus (first | assumption | omega | (simp; done) | (simp; omega))); apply Exists.intro; apply Exists.intro; apply Exists.intro; refine ⟨?_, ?_, ?_, ?_⟩; assumption; assumption; assumption; go_simp; go_big_quiet_on) | (refine quiet_load4 _ _ _ _ rfl rfl ?_ ?_ ?_ ?_; (focus (intro _; simp; done)); (focus (intro _; simp; done)); (focus (first | assumption | omega | (simp; done) | (simp; omega))); apply Exists.intro; apply Exists.intro; apply Exists.intro; apply Exists.intro; refine ⟨?_, ?_, ?_, ?_, ?_⟩; assumption; assumption; assumption; assumption; go_simp; go_big_quiet_on) | (go_big_quiet_op; first | go_big_quiet_on | (apply Exists.intro; refine ⟨fun x hx => ?_, ?_⟩; (first | fail); go_big_quiet_on))))
          refine wpQuiet_nil ?_
          clear hall
          intro x9 hx9
          have z9x0 : x9.cell? ⟨b, off, none⟩ = some (.int .i64 29) := (hx9.cell (by first | assumption | omega)).trans r8x0
          have z9x1 : x9.cell? ⟨b, off + 1, none⟩ = some (.int .i64 D) := (hx9.cell (by first | assumption | omega)).trans r8x1
          have z9x2 : x9.cell? ⟨w5.heap.size, 0, none⟩ = some (.int .i64 (1 + y % 9999)) := (hx9.cell (by first | assumption | omega)).trans r8x2
          have z9x3 : x9.cell? ⟨w5.heap.size, 1, none⟩ = some (.int .i64 num) := (hx9.cell (by first | assumption | omega)).trans r8x3
          have z9x4 : x9.cell? ⟨w5.heap.size, 2, none⟩ = some (.bool lb) := (hx9.cell (by first | assumption | omega)).trans r8x4
          have z9x5 : x9.cell? ⟨w5.heap.size, 3, none⟩ = some (.int .i64 1) := (hx9.cell (by first | assumption | omega)).trans r8x5
          have zs9 : b < x9.heap.size := World.block_lt_of_cell? _ _ z9x0
          have zd9 : w5.heap.size < x9.heap.size := World.block_lt_of_cell? _ _ z9x2
          have hB9 : Below w1.heap.size w1 x9 := bt hB8 hx9
          go_wp2_with fail
          refine wp_region_class (by kernel_rfl) (by kernel_rfl) (fun hall => ?_)
          repeat (first | go_big_quiet_skip | (go_big_quiet_want; first | (refine quiet_load1 _ _ _ rfl rfl ?_ ?_ ?_; (focus (intro _; simp; done)); (focus (first | assumption | omega | (simp; done) | (simp; omega))); apply Exists.intro; refine ⟨?_, ?_⟩; assumption; go_simp; go_big_quiet_on) | (refine quiet_load2 _ _ _ _ rfl rfl ?_ ?_ ?_ ?_; (focus (intro _; simp; done)); (focus (intro _; simp; done)); (focus (first | assumption | omega | (simp; done) | (simp; omega))); apply Exists.intro; apply Exists.intro; refine ⟨?_, ?_, ?_⟩; assumption; assumption; go_simp; go_big_quiet_on) | (refine quiet_load3 _ _ _ _ rfl rfl ?_ ?_ ?_ ?_; (focus (intro _; simp; done)); (focus (intro _; simp; done)); (focus (first | assumption | omega | (simp; done) | (simp; omega))); apply Exists.intro; apply Exists.intro; apply Exists.intro; refine ⟨?_, ?_, ?_, ?_⟩; assumption; assumption; assumption; go_simp; go_big_quiet_on) | (refine quiet_load4 _ _ _ _ rfl rfl ?_ ?_ ?_ ?_; (focus (intro _; simp; done)); (focus (intro _; simp; done)); (focus (first | assumption | omega | (simp; done) | (simp; omega))); apply Exists.intro; apply Exists.intro; apply Exists.intro; apply Exists.intro; refine ⟨?_, ?_, ?_, ?_, ?_⟩; assumption; assumption; assumption; assumption; go_simp; go_big_quiet_on) | (go_big_quiet_op; first | go_big_quiet_on | (apply Exists.intro; refine ⟨fun x hx => ?_, ?_⟩; (first | fail); go_big_quiet_on))))
          refine wpQuiet_nil ?_
          clear hall
          intro x11 hx11
          go_wp2_with fail
          go_roundw
          case rel => exact ⟨0 + 1, by omega, by first | rfl | go_num | (simp; omega), bt hB9 hx11⟩
          case measure => simp [intOf]; omega
        · have HFC := Lib.hid HFC
          simp only [Nat.zero_add] at hnx
          have hbn := (List.getElem?_eq_some_iff.1 hnx).1
          obtain ⟨ct1, ct2⟩ := Ev.cells_at hc 1 (29, D + 1) hnx
          simp only [Nat.one_mul] at ct1 ct2
          have t3 : ¬ (n : Int) ≤ 1 := by omega
          have T3 : decide ((n : Int) ≤ 1) = false := by simpa using t3
          have t4 : ¬ n ≤ 1 := by omega
          have T4 : decide (n ≤ 1) = false := by simpa using t4
          clear hnx hx hc hbn
          go_wp2_with fail
          refine (HFC.out _).mono ?_
          rintro e w5 ⟨rfl, hb5⟩
          obtain ⟨hc5, hf5⟩ := bcell hb5
          have hz5 := hb5.size
          try simp at hz5
          have hs5x0 : b < w5.heap.size := by omega
          have g5x0 : w5.cell? ⟨b, off, none⟩ = some (.int .i64 29) := (hc5 _ _ (by first | omega | (simp; done) | (simp; omega))).trans (by first | (with_reducible assumption) | (simp [go_sem]; done) | (simp [go_sem, *]; done) | assumption)
          have g5x1 : w5.cell? ⟨b, off + 1, none⟩ = some (.int .i64 D) := (hc5 _ _ (by first | omega | (simp; done) | (simp; omega))).trans (by first | (with_reducible assumption) | (simp [go_sem]; done) | (simp [go_sem, *]; done) | assumption)
          have g5x2 : w5.cell? ⟨b, off + 2, none⟩ = some (.int .i64 29) := (hc5 _ _ (by first | omega | (simp; done) | (simp; omega))).trans (by first | (with_reducible assumption) | (simp [go_sem]; done) | (simp [go_sem, *]; done) | assumption)
          have g5x3 : w5.cell? ⟨b, off + 2 + 1, none⟩ = some (.int .i64 (D + 1)) := (hc5 _ _ (by first | omega | (simp; done) | (simp; omega))).trans (by first | (with_reducible assumption) | (simp [go_sem]; done) | (simp [go_sem, *]; done) | assumption)
          go_wp2_with fail
          refine settle (fun W => W.cell? ⟨b, off, none⟩ = some (.int .i64 29) ∧ W.cell? ⟨b, off + 1, none⟩ = some (.int .i64 D) ∧ W.cell? ⟨b, off + 2, none⟩ = some (.int .i64 29) ∧ W.cell? ⟨b, off + 2 + 1, none⟩ = some (.int .i64 (D + 1)) ∧ W.cell? ⟨w5.heap.size, 0, none⟩ = some (.int .i64 (1 + y % 9999)) ∧ W.cell? ⟨w5.heap.size, 1, none⟩ = some (.int .i64 num) ∧ W.cell? ⟨w5.heap.size, 2, none⟩ = some (.bool lb) ∧ W.cell? ⟨w5.heap.size, 3, none⟩ = some (.int .i64 30) ∧ b < W.heap.size ∧ w5.heap.size < W.heap.size ∧ Below w1.heap.size w1 W) ⟨?_, ?_, ?_, ?_, ?_, ?_, ?_, ?_, ?_, ?_, ?_⟩ ?_
          · (first | (with_reducible assumption) | (simp [go_sem, *]; done) | assumption)
          · (first | (with_reducible assumption) | (simp [go_sem, *]; done) | assumption)
          · (first | (with_reducible assumption) | (simp [go_sem, *]; done) | assumption)
          · (first | (with_reducible assumption) | (simp [go_sem, *]; done) | assumption)
          · (first | (with_reducible assumption) | (simp [go_sem, *]; done) | assumption)
          · (first | (with_reducible assumption) | (simp [go_sem, *]; done) | assumption)
          · (first | (with_reducible assumption) | (simp [go_sem, *]; done) | assumption)
          · (first | (with_reducible assumption) | (simp [go_sem, *]; done) | assumption)
          · (first | assumption | (simp; done) | (simp; omega) | omega)
          · (first | assumption | (simp; done) | (simp; omega) | omega)
          · (repeat (first | exact Below.refl _ _ | assumption | (with_reducible refine bdrew ?_) | (with_reducible refine baa ?_ _) | (with_reducible refine bs ?_ (by first | exact Nat.le_refl _ | omega | (simp; done) | (simp; omega)) _) | (with_reducible refine bt ?_ (by assumption))))
          rintro W8 ⟨r8x0, r8x1, r8x2, r8x3, r8x4, r8x5, r8x6, r8x7, rs8x0, rs8x1, hB8⟩
          refine wp_region_class (by kernel_rfl) (by kernel_rfl) (fun hall => ?_)
          repeat (first | go_big_quiet_skip | (go_big_quiet_want; first | (refine quiet_load1 _ _ _ rfl rfl ?_ ?_ ?_; (focus (intro _; simp; done)); (focus (first | assumption | omega | (simp; done) | (simp; omega))); apply Exists.intro; refine ⟨?_, ?_⟩; assumption; go_simp; go_big_quiet_on) | (refine quiet_load2 _ _ _ _ rfl rfl ?_ ?_ ?_ ?_; (focus (intro _; simp; done)); (focus (intro _; simp; done)); (focus (first | assumption | omega | (simp; done) | (simp; omega))); apply Exists.intro; apply Exists.intro; refine ⟨?_, ?_, ?_⟩; assumption; assumption; go_simp; go_big_quiet_on) | (refine quiet_load3 _ _ _ _ rfl rfl ?_ ?_ ?_ ?_; (focus (intro _; simp; done)); (focus (intro _; simp; done)); (focus (first | assumption | omega | (simp; done) | (simp; omega))); apply Exists.intro; apply Exists.intro; apply Exists.intro; refine ⟨?_, ?_, ?_, ?_⟩; assumption; assumption; assumption; go_simp; go_big_quiet_on) | (refine quiet_load4 _ _ _ _ rfl rfl ?_ ?_ ?_ ?_; (focus (intro _; simp; done)); (focus (intro _; simp; done)); (focus (first | assumption | omega | (simp; done) | (simp; omega))); apply Exists.intro; apply Exists.intro; apply Exists.intro; apply Exists.intro; refine ⟨?_, ?_, ?_, ?_, ?_⟩; assumption; assumption; assumption; assumption; go_simp; go_big_quiet_on) | (go_big_quiet_op; first | go_big_quiet_on | (apply Exists.intro; refine ⟨fun x hx => ?_, ?_⟩; (first | fail); go_big_quiet_on))))
          refine wpQuiet_nil ?_
          clear hall
          intro x9 hx9
          have z9x0 : x9.cell? ⟨b, off, none⟩ = some (.int .i64 29) := (hx9.cell (by first | assumption | omega)).trans r8x0
          have z9x1 : x9.cell? ⟨b, off + 1, none⟩ = some (.int .i64 D) := (hx9.cell (by first | assumption | omega)).trans r8x1
          have z9x2 : x9.cell? ⟨b, off + 2, none⟩ = some (.int .i64 29) := (hx9.cell (by first | assumption | omega)).trans r8x2
          have z9x3 : x9.cell? ⟨b, off + 2 + 1, none⟩ = some (.int .i64 (D + 1)) := (hx9.cell (by first | assumption | omega)).trans r8x3
          have z9x4 : x9.cell? ⟨w5.heap.size, 0, none⟩ = some (.int .i64 (1 + y % 9999)) := (hx9.cell (by first | assumption | omega)).trans r8x4
          have z9x5 : x9.cell? ⟨w5.heap.size, 1, none⟩ = some (.int .i64 num) := (hx9.cell (by first | assumption | omega)).trans r8x5
          have z9x6 : x9.cell? ⟨w5.heap.size, 2, none⟩ = some (.bool lb) := (hx9.cell (by first | assumption | omega)).trans r8x6
          have z9x7 : x9.cell? ⟨w5.heap.size, 3, none⟩ = some (.int .i64 30) := (hx9.cell (by first | assumption | omega)).trans r8x7
          have zs9 : b < x9.heap.size := World.block_lt_of_cell? _ _ z9x0
          have zd9 : w5.heap.size < x9.heap.size := World.block_lt_of_cell? _ _ z9x4
          have hB9 : Below w1.heap.size w1 x9 := bt hB8 hx9
          go_wp2_with fail
          refine wp_region_class (by kernel_rfl) (by kernel_rfl) (fun hall => ?_)
          repeat (first | go_big_quiet_skip | (go_big_quiet_want; first | (refine quiet_load1 _ _ _ rfl rfl ?_ ?_ ?_; (focus (intro _; simp; done)); (focus (first | assumption | omega | (simp; done) | (simp; omega))); apply Exists.intro; refine ⟨?_, ?_⟩; assumption; go_simp; go_big_quiet_on) | (refine quiet_load2 _ _ _ _ rfl rfl ?_ ?_ ?_ ?_; (focus (intro _; simp; done)); (focus (intro _; simp; done)); (focus (first | assumption | omega | (simp; done) | (simp; omega))); apply Exists.intro; apply Exists.intro; refine ⟨?_, ?_, ?_⟩; assumption; assumption; go_simp; go_big_quiet_on) | (refine quiet_load3 _ _ _ _ rfl rfl ?_ ?_ ?_ ?_; (focus (intro _; simp; done)); (focus (intro _; simp; done)); (focus (first | assumption | omega | (simp; done) | (simp; omega))); apply Exists.intro; apply Exists.intro; apply Exists.intro; refine ⟨?_, ?_, ?_, ?_⟩; assumption; assumption; assumption; go_simp; go_big_quiet_on) | (refine quiet_load4 _ _ _ _ rfl rfl ?_ ?_ ?_ ?_; (focus (intro _; simp; done)); (focus (intro _; simp; done)); (focus (first | assumption | omega | (simp; done) | (simp; omega))); apply Exists.intro; apply Exists.intro; apply Exists.intro; apply Exists.intro; refine ⟨?_, ?_, ?_, ?_, ?_⟩; assumption; assumption; assumption; assumption; go_simp; go_big_quiet_on) | (go_big_quiet_op; first | go_big_quiet_on | (apply Exists.intro; refine ⟨fun x hx => ?_, ?_⟩; (first | fail); go_big_quiet_on))))
          refine wpQuiet_nil ?_
          clear hall
          intro x11 hx11
          go_wp2_with fail
          go_roundw
          case rel => exact ⟨0 + 1, by omega, by first | rfl | go_num | (simp; omega), bt hB9 hx11⟩
          case measure => simp [intOf]; omega
      · obtain ⟨q, hq⟩ : ∃ q, j = q + 1 := ⟨j - 1, by omega⟩
        obtain ⟨z, hz⟩ : ∃ z, l[q]? = some z := ⟨_, List.getElem?_eq_getElem (by omega)⟩
        obtain ⟨k', D'⟩ := z
        obtain ⟨cz1, cz2⟩ := Ev.cells_at hc q (k', D') hz
        dsimp only at cz1 cz2
        have hpr := hpv k' D' hj0 (by rw [hq]; exact hz)
        have p1 : 0 < (j : Int) := by omega
        have p2 : 0 < j := by omega
        have q0 : (0 : Int) ≤ (q : Int) := by omega
        have q1 : (q : Int) < (n : Int) := by omega
        have q2 : (j : Int) - 1 = (q : Int) := by omega
        have b3 : ¬ D ≤ D' := by omega
        have B3 : decide (D ≤ D') = false := by simpa using b3
        clear hpv hz hj0 hq hpr
        rcases hcs with ⟨hnum, HFC⟩ | ⟨hnx, ⟨db1, db2⟩, HFC⟩
        · have HFC := Lib.hid HFC
          have g1 : (num == 1) = false := by simpa using hnum
          clear hnum hx hc
          go_wp2_with fail
          refine (HFC.out _).mono ?_
          rintro e w5 ⟨rfl, hb5⟩
          obtain ⟨hc5, hf5⟩ := bcell hb5
          have hz5 := hb5.size
          try simp at hz5
          have hs5x0 : b < w5.heap.size := by omega
          have g5x0 : w5.cell? ⟨b, off + j * 2, none⟩ = some (.int .i64 29) := (hc5 _ _ (by first | omega | (simp; done) | (simp; omega))).trans (by first | (with_reducible assumption) | (simp [go_sem]; done) | (simp [go_sem, *]; done) | assumption)
          have g5x1 : w5.cell? ⟨b, off + j * 2 + 1, none⟩ = some (.int .i64 D) := (hc5 _ _ (by first | omega | (simp; done) | (simp; omega))).trans (by first | (with_reducible assumption) | (simp [go_sem]; done) | (simp [go_sem, *]; done) | assumption)
          have g5x2 : w5.cell? ⟨b, off + q * 2, none⟩ = some (.int .i64 k') := (hc5 _ _ (by first | omega | (simp; done) | (simp; omega))).trans (by first | (with_reducible assumption) | (simp [go_sem]; done) | (simp [go_sem, *]; done) | assumption)
          have g5x3 : w5.cell? ⟨b, off + q * 2 + 1, none⟩ = some (.int .i64 D') := (hc5 _ _ (by first | omega | (simp; done) | (simp; omega))).trans (by first | (with_reducible assumption) | (simp [go_sem]; done) | (simp [go_sem, *]; done) | assumption)
          go_wp2_with fail
          refine settle (fun W => W.cell? ⟨b, off + j * 2, none⟩ = some (.int .i64 29) ∧ W.cell? ⟨b, off + j * 2 + 1, none⟩ = some (.int .i64 D) ∧ W.cell? ⟨b, off + q * 2, none⟩ = some (.int .i64 k') ∧ W.cell? ⟨b, off + q * 2 + 1, none⟩ = some (.int .i64 D') ∧ W.cell? ⟨w5.heap.size, 0, none⟩ = some (.int .i64 (1 + y % 9999)) ∧ W.cell? ⟨w5.heap.size, 1, none⟩ = some (.int .i64 num) ∧ W.cell? ⟨w5.heap.size, 2, none⟩ = some (.bool lb) ∧ W.cell? ⟨w5.heap.size, 3, none⟩ = some (.int .i64 1) ∧ b < W.heap.size ∧ w5.heap.size < W.heap.size ∧ Below w1.heap.size w1 W) ⟨?_, ?_, ?_, ?_, ?_, ?_, ?_, ?_, ?_, ?_, ?_⟩ ?_
          · (first | (with_reducible assumption) | (simp [go_sem, *]; done) | assumption)
          · (first | (with_reducible assumption) | (simp [go_sem, *]; done) | assumption)
          · (first | (with_reducible assumption) | (simp [go_sem, *]; done) | assumption)
          · (first | (with_reducible assumption) | (simp [go_sem, *]; done) | assumption)
          · (first | (with_reducible assumption) | (simp [go_sem, *]; done) | assumption)
          · (first | (with_reducible assumption) | (simp [go_sem, *]; done) | assumption)
          · (first | (with_reducible assumption) | (simp [go_sem, *]; done) | assumption)
          · (first | (with_reducible assumption) | (simp [go_sem, *]; done) | assumption)
          · (first | assumption | (simp; done) | (simp; omega) | omega)
          · (first | assumption | (simp; done) | (simp; omega) | omega)
          · (repeat (first | exact Below.refl _ _ | assumption | (with_reducible refine bdrew ?_) | (with_reducible refine baa ?_ _) | (with_reducible refine bs ?_ (by first | exact Nat.le_refl _ | omega | (simp; done) | (simp; omega)) _) | (with_reducible refine bt ?_ (by assumption))))
          rintro W8 ⟨r8x0, r8x1, r8x2, r8x3, r8x4, r8x5, r8x6, r8x7, rs8x0, rs8x1, hB8⟩
          refine wp_region_class (by kernel_rfl) (by kernel_rfl) (fun hall => ?_)
          repeat (first | go_big_quiet_skip | (go_big_quiet_want; first | (refine quiet_load1 _ _ _ rfl rfl ?_ ?_ ?_; (focus (intro _; simp; done)); (focus (first | assumption | omega | (simp; done) | (simp; omega))); apply Exists.intro; refine ⟨?_, ?_⟩; assumption; go_simp; go_big_quiet_on) | (refine quiet_load2 _ _ _ _ rfl rfl ?_ ?_ ?_ ?_; (focus (intro _; simp; done)); (focus (intro _; simp; done)); (focus (first | assumption | omega | (simp; done) | (simp; omega))); apply Exists.intro; apply Exists.intro; refine ⟨?_, ?_, ?_⟩; assumption; assumption; go_simp; go_big_quiet_on) | (refine quiet_load3 _ _ _ _ rfl rfl ?_ ?_ ?_ ?_; (focus (intro _; simp; done)); (focus (intro _; simp; done)); (focus (first | assumption | omega | (simp; done) | (simp; omega))); apply Exists.intro; apply Exists.intro; apply Exists.intro; refine ⟨?_, ?_, ?_, ?_⟩; assumption; assumption; assumption; go_simp; go_big_quiet_on) | (refine quiet_load4 _ _ _ _ rfl rfl ?_ ?_ ?_ ?_; (focus (intro _; simp; done)); (focus (intro _; simp; done)); (focus (first | assumption | omega | (simp; done) | (simp; omega))); apply Exists.intro; apply Exists.intro; apply Exists.intro; apply Exists.intro; refine ⟨?_, ?_, ?_, ?_, ?_⟩; assumption; assumption; assumption; assumption; go_simp; go_big_quiet_on) | (go_big_quiet_op; first | go_big_quiet_on | (apply Exists.intro; refine ⟨fun x hx => ?_, ?_⟩; (first | fail); go_big_quiet_on))))
          refine wpQuiet_nil ?_
          clear hall
          intro x9 hx9
          have z9x0 : x9.cell? ⟨b, off + j * 2, none⟩ = some (.int .i64 29) := (hx9.cell (by first | assumption | omega)).trans r8x0
          have z9x1 : x9.cell? ⟨b, off + j * 2 + 1, none⟩ = some (.int .i64 D) := (hx9.cell (by first | assumption | omega)).trans r8x1
          have z9x2 : x9.cell? ⟨b, off + q * 2, none⟩ = some (.int .i64 k') := (hx9.cell (by first | assumption | omega)).trans r8x2
          have z9x3 : x9.cell? ⟨b, off + q * 2 + 1, none⟩ = some (.int .i64 D') := (hx9.cell (by first | assumption | omega)).trans r8x3
          have z9x4 : x9.cell? ⟨w5.heap.size, 0, none⟩ = some (.int .i64 (1 + y % 9999)) := (hx9.cell (by first | assumption | omega)).trans r8x4
          have z9x5 : x9.cell? ⟨w5.heap.size, 1, none⟩ = some (.int .i64 num) := (hx9.cell (by first | assumption | omega)).trans r8x5
          have z9x6 : x9.cell? ⟨w5.heap.size, 2, none⟩ = some (.bool lb) := (hx9.cell (by first | assumption | omega)).trans r8x6
          have z9x7 : x9.cell? ⟨w5.heap.size, 3, none⟩ = some (.int .i64 1) := (hx9.cell (by first | assumption | omega)).trans r8x7
          have zs9 : b < x9.heap.size := World.block_lt_of_cell? _ _ z9x0
          have zd9 : w5.heap.size < x9.heap.size := World.block_lt_of_cell? _ _ z9x4
          have hB9 : Below w1.heap.size w1 x9 := bt hB8 hx9
          go_wp2_with fail
          refine wp_region_class (by kernel_rfl) (by kernel_rfl) (fun hall => ?_)
          repeat (first | go_big_quiet_skip | (go_big_quiet_want; first | (refine quiet_load1 _ _ _ rfl rfl ?_ ?_ ?_; (focus (intro _; simp; done)); (focus (first | assumption | omega | (simp; done) | (simp; omega))); apply Exists.intro; refine ⟨?_, ?_⟩; assumption; go_simp; go_big_quiet_on) | (refine quiet_load2 _ _ _ _ rfl rfl ?_ ?_ ?_ ?_; (focus (intro _; simp; done)); (focus (intro _; simp; done)); (focus (first | assumption | omega | (simp; done) | (simp; omega))); apply Exists.intro; apply Exists.intro; refine ⟨?_, ?_, ?_⟩; assumption; assumption; go_simp; go_big_quiet_on) | (refine quiet_load3 _ _ _ _ rfl rfl ?_ ?_ ?_ ?_; (focus (intro _; simp; done)); (focus (intro _; simp; done)); (focus (first | assumption | omega | (simp; done) | (simp; omega))); apply Exists.intro; apply Exists.intro; apply Exists.intro; refine ⟨?_, ?_, ?_, ?_⟩; assumption; assumption; assumption; go_simp; go_big_quiet_on) | (refine quiet_load4 _ _ _ _ rfl rfl ?_ ?_ ?_ ?_; (focus (intro _; simp; done)); (focus (intro _; simp; done)); (focus (first | assumption | omega | (simp; done) | (simp; omega))); apply Exists.intro; apply Exists.intro; apply Exists.intro; apply Exists.intro; refine ⟨?_, ?_, ?_, ?_, ?_⟩; assumption; assumption; assumption; assumption; go_simp; go_big_quiet_on) | (go_big_quiet_op; first | go_big_quiet_on | (apply Exists.intro; refine ⟨fun x hx => ?_, ?_⟩; (first | fail); go_big_quiet_on))))
          refine wpQuiet_nil ?_
          clear hall
          intro x11 hx11
          go_wp2_with fail
          go_roundw
          case rel => exact ⟨j + 1, by omega, by first | rfl | go_num | (simp; omega), bt hB9 hx11⟩
          case measure => simp [intOf]; omega
        · have HFC := Lib.hid HFC
          obtain ⟨t, ht⟩ : ∃ t, t = j + 1 := ⟨_, rfl⟩
          rw [← ht] at hnx
          have hbn := (List.getElem?_eq_some_iff.1 hnx).1
          obtain ⟨ct1, ct2⟩ := Ev.cells_at hc t (29, D + 1) hnx
          dsimp only at ct1 ct2
          have t0 : (0 : Int) ≤ (t : Int) := by omega
          have t1 : (t : Int) < (n : Int) := by omega
          have t2 : (j : Int) + 1 = (t : Int) := by omega
          have t3 : ¬ (n : Int) ≤ (t : Int) := by omega
          have T3 : decide ((n : Int) ≤ (t : Int)) = false := by simpa using t3
          have t4 : ¬ n ≤ t := by omega
          have T4 : decide (n ≤ t) = false := by simpa using t4
          have HTe := Lib.hid ht
          clear hnx hx hc hbn ht
          go_wp2_with fail
          refine (HFC.out _).mono ?_
          rintro e w5 ⟨rfl, hb5⟩
          obtain ⟨hc5, hf5⟩ := bcell hb5
          have hz5 := hb5.size
          try simp at hz5
          have hs5x0 : b < w5.heap.size := by omega
          have g5x0 : w5.cell? ⟨b, off + j * 2, none⟩ = some (.int .i64 29) := (hc5 _ _ (by first | omega | (simp; done) | (simp; omega))).trans (by first | (with_reducible assumption) | (simp [go_sem]; done) | (simp [go_sem, *]; done) | assumption)
          have g5x1 : w5.cell? ⟨b, off + j * 2 + 1, none⟩ = some (.int .i64 D) := (hc5 _ _ (by first | omega | (simp; done) | (simp; omega))).trans (by first | (with_reducible assumption) | (simp [go_sem]; done) | (simp [go_sem, *]; done) | assumption)
          have g5x2 : w5.cell? ⟨b, off + q * 2, none⟩ = some (.int .i64 k') := (hc5 _ _ (by first | omega | (simp; done) | (simp; omega))).trans (by first | (with_reducible assumption) | (simp [go_sem]; done) | (simp [go_sem, *]; done) | assumption)
          have g5x3 : w5.cell? ⟨b, off + q * 2 + 1, none⟩ = some (.int .i64 D') := (hc5 _ _ (by first | omega | (simp; done) | (simp; omega))).trans (by first | (with_reducible assumption) | (simp [go_sem]; done) | (simp [go_sem, *]; done) | assumption)
          have g5x4 : w5.cell? ⟨b, off + t * 2, none⟩ = some (.int .i64 29) := (hc5 _ _ (by first | omega | (simp; done) | (simp; omega))).trans (by first | (with_reducible assumption) | (simp [go_sem]; done) | (simp [go_sem, *]; done) | assumption)
          have g5x5 : w5.cell? ⟨b, off + t * 2 + 1, none⟩ = some (.int .i64 (D + 1)) := (hc5 _ _ (by first | omega | (simp; done) | (simp; omega))).trans (by first | (with_reducible assumption) | (simp [go_sem]; done) | (simp [go_sem, *]; done) | assumption)
          go_wp2_with fail
          refine settle (fun W => W.cell? ⟨b, off + j * 2, none⟩ = some (.int .i64 29) ∧ W.cell? ⟨b, off + j * 2 + 1, none⟩ = some (.int .i64 D) ∧ W.cell? ⟨b, off + q * 2, none⟩ = some (.int .i64 k') ∧ W.cell? ⟨b, off + q * 2 + 1, none⟩ = some (.int .i64 D') ∧ W.cell? ⟨b, off + t * 2, none⟩ = some (.int .i64 29) ∧ W.cell? ⟨b, off + t * 2 + 1, none⟩ = some (.int .i64 (D + 1)) ∧ W.cell? ⟨w5.heap.size, 0, none⟩ = some (.int .i64 (1 + y % 9999)) ∧ W.cell? ⟨w5.heap.size, 1, none⟩ = some (.int .i64 num) ∧ W.cell? ⟨w5.heap.size, 2, none⟩ = some (.bool lb) ∧ W.cell? ⟨w5.heap.size, 3, none⟩ = some (.int .i64 30) ∧ b < W.heap.size ∧ w5.heap.size < W.heap.size ∧ Below w1.heap.size w1 W) ⟨?_, ?_, ?_, ?_, ?_, ?_, ?_, ?_, ?_, ?_, ?_, ?_, ?_⟩ ?_
          · (first | (with_reducible assumption) | (simp [go_sem, *]; done) | assumption)
          · (first | (with_reducible assumption) | (simp [go_sem, *]; done) | assumption)
          · (first | (with_reducible assumption) | (simp [go_sem, *]; done) | assumption)
          · (first | (with_reducible assumption) | (simp [go_sem, *]; done) | assumption)
          · (first | (with_reducible assumption) | (simp [go_sem, *]; done) | assumption)
          · (first | (with_reducible assumption) | (simp [go_sem, *]; done) | assumption)
          · (first | (with_reducible assumption) | (simp [go_sem, *]; done) | assumption)
          · (first | (with_reducible assumption) | (simp [go_sem, *]; done) | assumption)
          · (first | (with_reducible assumption) | (simp [go_sem, *]; done) | assumption)
          · (first | (with_reducible assumption) | (simp [go_sem, *]; done) | assumption)
          · (first | assumption | (simp; done) | (simp; omega) | omega)
          · (first | assumption | (simp; done) | (simp; omega) | omega)
          · (repeat (first | exact Below.refl _ _ | assumption | (with_reducible refine bdrew ?_) | (with_reducible refine baa ?_ _) | (with_reducible refine bs ?_ (by first | exact Nat.le_refl _ | omega | (simp; done) | (simp; omega)) _) | (with_reducible refine bt ?_ (by assumption))))
          rintro W8 ⟨r8x0, r8x1, r8x2, r8x3, r8x4, r8x5, r8x6, r8x7, r8x8, r8x9, rs8x0, rs8x1, hB8⟩
          refine wp_region_class (by kernel_rfl) (by kernel_rfl) (fun hall => ?_)
          repeat (first | go_big_quiet_skip | (go_big_quiet_want; first | (refine quiet_load1 _ _ _ rfl rfl ?_ ?_ ?_; (focus (intro _; simp; done)); (focus (first | assumption | omega | (simp; done) | (simp; omega))); apply Exists.intro; refine ⟨?_, ?_⟩; assumption; go_simp; go_big_quiet_on) | (refine quiet_load2 _ _ _ _ rfl rfl ?_ ?_ ?_ ?_; (focus (intro _; simp; done)); (focus (intro _; simp; done)); (focus (first | assumption | omega | (simp; done) | (simp; omega))); apply Exists.intro; apply Exists.intro; refine ⟨?_, ?_, ?_⟩; assumption; assumption; go_simp; go_big_quiet_on) | (refine quiet_load3 _ _ _ _ rfl rfl ?_ ?_ ?_ ?_; (focus (intro _; simp; done)); (focus (intro _; simp; done)); (focus (first | assumption | omega | (simp; done) | (simp; omega))); apply Exists.intro; apply Exists.intro; apply Exists.intro; refine ⟨?_, ?_, ?_, ?_⟩; assumption; assumption; assumption; go_simp; go_big_quiet_on) | (refine quiet_load4 _ _ _ _ rfl rfl ?_ ?_ ?_ ?_; (focus (intro _; simp; done)); (focus (intro _; simp; done)); (focus (first | assumption | omega | (simp; done) | (simp; omega))); apply Exists.intro; apply Exists.intro; apply Exists.intro; apply Exists.intro; refine ⟨?_, ?_, ?_, ?_, ?_⟩; assumption; assumption; assumption; assumption; go_simp; go_big_quiet_on) | (go_big_quiet_op; first | go_big_quiet_on | (apply Exists.intro; refine ⟨fun x hx => ?_, ?_⟩; (first | fail); go_big_quiet_on))))
          refine wpQuiet_nil ?_
          clear hall
          intro x9 hx9
          have z9x0 : x9.cell? ⟨b, off + j * 2, none⟩ = some (.int .i64 29) := (hx9.cell (by first | assumption | omega)).trans r8x0
          have z9x1 : x9.cell? ⟨b, off + j * 2 + 1, none⟩ = some (.int .i64 D) := (hx9.cell (by first | assumption | omega)).trans r8x1
          have z9x2 : x9.cell? ⟨b, off + q * 2, none⟩ = some (.int .i64 k') := (hx9.cell (by first | assumption | omega)).trans r8x2
          have z9x3 : x9.cell? ⟨b, off + q * 2 + 1, none⟩ = some (.int .i64 D') := (hx9.cell (by first | assumption | omega)).trans r8x3
          have z9x4 : x9.cell? ⟨b, off + t * 2, none⟩ = some (.int .i64 29) := (hx9.cell (by first | assumption | omega)).trans r8x4
          have z9x5 : x9.cell? ⟨b, off + t * 2 + 1, none⟩ = some (.int .i64 (D + 1)) := (hx9.cell (by first | assumption | omega)).trans r8x5
          have z9x6 : x9.cell? ⟨w5.heap.size, 0, none⟩ = some (.int .i64 (1 + y % 9999)) := (hx9.cell (by first | assumption | omega)).trans r8x6
          have z9x7 : x9.cell? ⟨w5.heap.size, 1, none⟩ = some (.int .i64 num) := (hx9.cell (by first | assumption | omega)).trans r8x7
          have z9x8 : x9.cell? ⟨w5.heap.size, 2, none⟩ = some (.bool lb) := (hx9.cell (by first | assumption | omega)).trans r8x8
          have z9x9 : x9.cell? ⟨w5.heap.size, 3, none⟩ = some (.int .i64 30) := (hx9.cell (by first | assumption | omega)).trans r8x9
          have zs9 : b < x9.heap.size := World.block_lt_of_cell? _ _ z9x0
          have zd9 : w5.heap.size < x9.heap.size := World.block_lt_of_cell? _ _ z9x6
          have hB9 : Below w1.heap.size w1 x9 := bt hB8 hx9
          go_wp2_with fail
          refine wp_region_class (by kernel_rfl) (by kernel_rfl) (fun hall => ?_)
          repeat (first | go_big_quiet_skip | (go_big_quiet_want; first | (refine quiet_load1 _ _ _ rfl rfl ?_ ?_ ?_; (focus (intro _; simp; done)); (focus (first | assumption | omega | (simp; done) | (simp; omega))); apply Exists.intro; refine ⟨?_, ?_⟩; assumption; go_simp; go_big_quiet_on) | (refine quiet_load2 _ _ _ _ rfl rfl ?_ ?_ ?_ ?_; (focus (intro _; simp; done)); (focus (intro _; simp; done)); (focus (first | assumption | omega | (simp; done) | (simp; omega))); apply Exists.intro; apply Exists.intro; refine ⟨?_, ?_, ?_⟩; assumption; assumption; go_simp; go_big_quiet_on) | (refine quiet_load3 _ _ _ _ rfl rfl ?_ ?_ ?_ ?_; (focus (intro _; simp; done)); (focus (intro _; simp; done)); (focus (first | assumption | omega | (simp; done) | (simp; omega))); apply Exists.intro; apply Exists.intro; apply Exists.intro; refine ⟨?_, ?_, ?_, ?_⟩; assumption; assumption; assumption; go_simp; go_big_quiet_on) | (refine quiet_load4 _ _ _ _ rfl rfl ?_ ?_ ?_ ?_; (focus (intro _; simp; done)); (focus (intro _; simp; done)); (focus (first | assumption | omega | (simp; done) | (simp; omega))); apply Exists.intro; apply Exists.intro; apply Exists.intro; apply Exists.intro; refine ⟨?_, ?_, ?_, ?_, ?_⟩; assumption; assumption; assumption; assumption; go_simp; go_big_quiet_on) | (go_big_quiet_op; first | go_big_quiet_on | (apply Exists.intro; refine ⟨fun x hx => ?_, ?_⟩; (first | fail); go_big_quiet_on))))
          refine wpQuiet_nil ?_
          clear hall
          intro x11 hx11
          go_wp2_with fail
          go_roundw
          case rel => exact ⟨t, by omega, by first | rfl | go_num | (simp; omega), bt hB9 hx11⟩
          case measure => simp [intOf]; omega
    · obtain rfl : j = n := by omega
      clear hlt
      have hBw : Below w.heap.size w wr := bt hb1 hB
      go_wp2_with fail
      refine (HAw.out _ (Tab.below hT (by repeat (first | (with_reducible exact Below.refl _ _) | (with_reducible assumption) | (with_reducible refine bdrew ?_) | (with_reducible refine baa ?_ _) | (with_reducible refine bs ?_ (by first | exact Nat.le_refl _ | omega | (simp; done) | (simp; omega)) _) | (with_reducible refine bt ?_ (by with_reducible assumption))))) (Tab.below hL (by repeat (first | (with_reducible exact Below.refl _ _) | (with_reducible assumption) | (with_reducible refine bdrew ?_) | (with_reducible refine baa ?_ _) | (with_reducible refine bs ?_ (by first | exact Nat.le_refl _ | omega | (simp; done) | (simp; omega)) _) | (with_reducible refine bt ?_ (by with_reducible assumption)))))).mono ?_
      rintro e w9 ⟨rfl, hb9⟩
      go_wp2_with fail
      go_ret
      exact ⟨rfl, bt hBw hb9⟩
theorem ChodeshDays_walk (y : Int) (hy : 0 ≤ y ∧ y ≤ 65535) (w : World) (hT : Tab w 2 kevCells) (hL : Tab w 3 lenCells) :
    Calls Tryz.prog 5 #[.int .u16 y] w fun e w' => e = .returned (.bool true) ∧ Below w.heap.size w w' := by
  obtain ⟨i, hi⟩ := Yr.is_some (1 + y % 9999) (by omega) (by omega)
  have hAw := Lib.hid (fun w hT hL => awake21 w hT hL)
  have hc := List.all_eq_true.1 Ch.all_chk i (List.mem_range.2 hi.2.2.1)
  simp only [Bool.and_eq_true, decide_eq_true_eq] at hc
  exact ChodeshDays_go y _ ((Ch.chL i).map (Ev.sh (Cal.first (1 + y % 9999)))) w hy hT hL rfl (by rw [List.length_map]; exact hc.2.1) (by rw [List.length_map]; exact hc.2.2) (Lib.hid (fun w hT hL => chodesh_Of_at (1 + y % 9999) i w hi hT hL)) (Lib.hid (Ch.chk_ok hi hc.1)) hAw
end Go.Proofs.YtagmdglmflcegaaGreatDoor
