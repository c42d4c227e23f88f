/- Layer 19: FeastPlaces. -/
import Derived.Test.YtagmdglmflcegaaDoorW19
namespace Go.Proofs.YtagmdglmflcegaaDoor
open Go.ChangeShapes Go.WideShapes Go.ChangeAt Go.RowKit Go.Lib Go.Sort Go.Shelf
set_option linter.unusedVariables false
set_option maxRecDepth 100000
namespace Fe
def hasDay (m : List (Int × Int)) (d : Int) : Bool := m.any fun z => z.2 == d
theorem hasDay_next (m : List (Int × Int)) (q : Nat) (k d' d : Int) (h : m[q]? = some (k, d')) : hasDay (m.take (q + 1)) d = (hasDay (m.take q) d || (d' == d)) := by
  unfold hasDay
  rw [List.take_add_one, h]
  simp
def extra (l m : List (Int × Int)) : Int := ((l.filter fun x => !hasDay m x.2).length : Int)
theorem extra_next (l m : List (Int × Int)) (j : Nat) (kd d : Int) (h : l[j]? = some (kd, d)) : extra (l.take (j + 1)) m = if hasDay m d = true then extra (l.take j) m else extra (l.take j) m + 1 := by
  unfold extra
  rw [List.take_add_one, h]
  by_cases c : hasDay m d = true
  · simp [c]
  · simp [c]
theorem extra_bd (l m : List (Int × Int)) (j : Nat) : 0 ≤ extra (l.take j) m ∧ extra (l.take j) m ≤ j := by
  unfold extra
  have h1 := List.length_filter_le (fun x : Int × Int => !hasDay m x.2) (l.take j)
  have h2 := List.length_take_le j l
  omega
theorem hasDay_sh (F o : Int) (m : List (Int × Int)) : hasDay (m.map (Ev.sh F)) (F + o) = hasDay m o := by
  unfold hasDay
  rw [List.any_map]
  congr 1
  funext x
  simp only [Function.comp_apply, Ev.sh]
  by_cases h : x.2 = o
  · simp [h]
  · rw [beq_eq_false_iff_ne.2 h, beq_eq_false_iff_ne.2 (by omega)]
theorem extra_sh (F : Int) (l m : List (Int × Int)) : extra (l.map (Ev.sh F)) (m.map (Ev.sh F)) = extra l m := by
  unfold extra
  rw [List.filter_map, List.length_map]
  congr 2
  apply List.filter_congr
  intro x _
  show (!hasDay (m.map (Ev.sh F)) (F + x.2)) = _
  rw [hasDay_sh]
theorem all_pl : ((List.range 14).all fun i => decide (extra (feastL i false) (feastL i true) = 3) && (decide ((feastL i false).length = (feastL i true).length + 2) && decide ((feastL i false).length ≤ 60))) = true := by decide +kernel
end Fe
set_option maxHeartbeats 16000000 in
theorem FeastPlaces_go (y : Int) (n m : Nat) (l z : List (Int × Int)) (w : World) (hy : 0 ≤ y ∧ y ≤ 65535) (hT : Tab w 3 kevCells) (hL : Tab w 2 lenCells) (hF : Tab w 0 Fe.cells) (hl : l.length = n) (hz : z.length = m) (hn : n ≤ 60) (HM : Hid (n = m + 2))
    (HO0 : Hid (∀ w : World, Tab w 3 kevCells → Tab w 2 lenCells → Tab w 0 Fe.cells → Calls Tryd.prog 13 #[.int .i64 (1 + y % 9999), .int .i64 0] w fun e w' => ∃ v, e = .returned (.tuple #[v, .int .i64 0]) ∧ Ev.Own w' w.heap.size v l ∧ Below w.heap.size w w')) (HO1 : Hid (∀ w : World, Tab w 3 kevCells → Tab w 2 lenCells → Tab w 0 Fe.cells → Calls Tryd.prog 13 #[.int .i64 (1 + y % 9999), .int .i64 1] w fun e w' => ∃ v, e = .returned (.tuple #[v, .int .i64 0]) ∧ Ev.Own w' w.heap.size v z ∧ Below w.heap.size w w')) (HT : Hid (Fe.extra l z = 3)) (HAw : Hid (∀ w : World, Tab w 3 kevCells → Tab w 2 lenCells → Tab w 0 Fe.cells → Calls Tryd.prog 12 #[] w fun e w' => e = .returned (.bool true) ∧ Below w.heap.size w w')) :
    Calls Tryd.prog 5 #[.int .u16 y] w fun e w' => e = .returned (.bool true) ∧ Below w.heap.size w w' := by
  have y0 : 0 ≤ y % 9999 := by omega
  have y1 : y % 9999 < 9999 := by omega
  go_enter Tryd.func5, Tryd.ntmps5
  go_wp2_with fail
  refine (HO0.out _ (Tab.below hT (by repeat (first | (with_reducible exact Below.refl _ _) | (with_reducible assumption) | (with_reducible refine bdrew ?_) | (with_reducible refine baa ?_ _) | (with_reducible refine bs ?_ (by first | exact Nat.le_refl _ | omega | (simp; done) | (simp; omega)) _) | (with_reducible refine bt ?_ (by with_reducible assumption))))) (Tab.below hL (by repeat (first | (with_reducible exact Below.refl _ _) | (with_reducible assumption) | (with_reducible refine bdrew ?_) | (with_reducible refine baa ?_ _) | (with_reducible refine bs ?_ (by first | exact Nat.le_refl _ | omega | (simp; done) | (simp; omega)) _) | (with_reducible refine bt ?_ (by with_reducible assumption))))) (Tab.below hF (by repeat (first | (with_reducible exact Below.refl _ _) | (with_reducible assumption) | (with_reducible refine bdrew ?_) | (with_reducible refine baa ?_ _) | (with_reducible refine bs ?_ (by first | exact Nat.le_refl _ | omega | (simp; done) | (simp; omega)) _) | (with_reducible refine bt ?_ (by with_reducible assumption)))))).mono ?_
  rintro e w1 ⟨v1, rfl, ho1, hb1⟩
  have hr1 := ho1.row
  obtain ⟨p1, c1, rfl⟩ := hr1.len
  rw [hl]
  go_wp2_with fail
  refine (HO1.out _ (Tab.below hT (by repeat (first | (with_reducible exact Below.refl _ _) | (with_reducible assumption) | (with_reducible refine bdrew ?_) | (with_reducible refine baa ?_ _) | (with_reducible refine bs ?_ (by first | exact Nat.le_refl _ | omega | (simp; done) | (simp; omega)) _) | (with_reducible refine bt ?_ (by with_reducible assumption))))) (Tab.below hL (by repeat (first | (with_reducible exact Below.refl _ _) | (with_reducible assumption) | (with_reducible refine bdrew ?_) | (with_reducible refine baa ?_ _) | (with_reducible refine bs ?_ (by first | exact Nat.le_refl _ | omega | (simp; done) | (simp; omega)) _) | (with_reducible refine bt ?_ (by with_reducible assumption))))) (Tab.below hF (by repeat (first | (with_reducible exact Below.refl _ _) | (with_reducible assumption) | (with_reducible refine bdrew ?_) | (with_reducible refine baa ?_ _) | (with_reducible refine bs ?_ (by first | exact Nat.le_refl _ | omega | (simp; done) | (simp; omega)) _) | (with_reducible refine bt ?_ (by with_reducible assumption)))))).mono ?_
  rintro e w3 ⟨v2, rfl, ho2, hb2⟩
  have hq3 := ho2.row
  obtain ⟨p2, c2, rfl⟩ := hq3.len
  rw [hz]
  go_wp2_with fail
  have hr3 := hr1.below hb2
  have hB3 : Below w.heap.size w w3 := bt hb1 hb2
  clear ho1 ho2 hr1 hb1 hb2
  go_loopw [8, 9] (fun s i wr => ∃ j : Nat, j ≤ n ∧ i = .int .i64 (j : Int) ∧ s = .int .i64 (Fe.extra (l.take j) z) ∧ Below w3.heap.size w3 wr) (fun _ i _ => n - (intOf i).toNat)
  case atStart => exact ⟨0, Nat.zero_le _, rfl, rfl, Below.refl _ _⟩
  case round =>
    obtain ⟨j, hj, rfl, rfl, hB⟩ := hrel
    have hbd := Fe.extra_bd l z j
    by_cases hlt : j < n
    · obtain ⟨x, hx⟩ : ∃ x, l[j]? = some x := ⟨_, List.getElem?_eq_getElem (by omega)⟩
      obtain ⟨kd, d⟩ := x
      have HS := Lib.hid (Fe.extra_next l z j kd d hx)
      have j0 : (0 : Int) ≤ (j : Int) := by omega
      have j1 : (j : Int) < (n : Int) := by omega
      have j2 : (j : Int) ≤ 60 := by omega
      obtain ⟨sn, hsn⟩ : ∃ s, Fe.extra (l.take j) z = s := ⟨_, rfl⟩
      rw [hsn] at hbd HS ⊢
      clear hsn
      go_wp2_with fail
      go_loopw [10, 11] (fun f i ws => ∃ q : Nat, q ≤ m ∧ i = .int .i64 (q : Int) ∧ f = .bool (Fe.hasDay (z.take q) d) ∧ Below w3.heap.size w3 ws) (fun _ i _ => m - (intOf i).toNat)
      case atStart => exact ⟨0, Nat.zero_le _, rfl, rfl, hB⟩
      case round =>
        obtain ⟨q, hq, rfl, rfl, hC⟩ := hrel
        by_cases hqt : q < m
        · obtain ⟨u, hu⟩ : ∃ x, z[q]? = some x := ⟨_, List.getElem?_eq_getElem (by omega)⟩
          obtain ⟨k', d'⟩ := u
          have HN := Lib.hid (Fe.hasDay_next z q k' d' d hu)
          obtain ⟨b, off, cc, hp1, hc⟩ := (hr3.below hC).at_some (by omega)
          simp only [Value.slice.injEq] at hp1
          obtain ⟨rfl, _, rfl⟩ := hp1
          obtain ⟨cx1, cx2⟩ := Ev.cells_at hc j (kd, d) hx
          have lx := World.block_lt_of_cell? _ _ cx1
          obtain ⟨b', off', cc', hp2, hc'⟩ := (hq3.below hC).at_some (by omega)
          simp only [Value.slice.injEq] at hp2
          obtain ⟨rfl, _, rfl⟩ := hp2
          obtain ⟨cz1, cz2⟩ := Ev.cells_at hc' q (k', d') hu
          have lz := World.block_lt_of_cell? _ _ cz1
          dsimp only at lx cx1 cx2 lz cz1 cz2
          have q0 : (0 : Int) ≤ (q : Int) := by omega
          have q1 : (q : Int) < (m : Int) := by omega
          have q2 : (q : Int) ≤ 60 := by have := HM.out; omega
          obtain ⟨fv, hf⟩ : ∃ f, Fe.hasDay (z.take q) d = f := ⟨_, rfl⟩
          rw [hf] at HN ⊢
          clear hf hu hc hc'
          cases fv
          · go_wp2_with fail
            refine wp_region_class (by kernel_rfl) (by kernel_rfl) (fun hall => ?_)
            repeat (first | go_big_quiet_skip | (go_big_quiet_want; first | (refine quiet_load1 _ _ _ rfl rfl ?_ ?_ ?_; (focus (intro _; simp; done)); (focus (first | assumption | omega | (simp; done) | (simp; omega))); apply Exists.intro; refine ⟨?_, ?_⟩; assumption; go_simp; go_big_quiet_on) | (refine quiet_load2 _ _ _ _ rfl rfl ?_ ?_ ?_ ?_; (focus (intro _; simp; done)); (focus (intro _; simp; done)); (focus (first | assumption | omega | (simp; done) | (simp; omega))); apply Exists.intro; apply Exists.intro; refine ⟨?_, ?_, ?_⟩; assumption; assumption; go_simp; go_big_quiet_on) | (refine quiet_load3 _ _ _ _ rfl rfl ?_ ?_ ?_ ?_; (focus (intro _; simp; done)); (focus (intro _; simp; done)); (focus (first | assumption | omega | (simp; done) | (simp; omega))); apply Exists.intro; apply Exists.intro; apply Exists.intro; refine ⟨?_, ?_, ?_, ?_⟩; assumption; assumption; assumption; go_simp; go_big_quiet_on) | (refine quiet_load4 _ _ _ _ rfl rfl ?_ ?_ ?_ ?_; (focus (intro _; simp; done)); (focus (intro _; simp; done)); (focus (first | assumption | omega | (simp; done) | (simp; omega))); apply Exists.intro; apply Exists.intro; apply Exists.intro; apply Exists.intro; refine ⟨?_, ?_, ?_, ?_, ?_⟩; assumption; assumption; assumption; assumption; go_simp; go_big_quiet_on) | (go_big_quiet_op; first | go_big_quiet_on | (apply Exists.intro; refine ⟨fun x hx => ?_, ?_⟩; (first | fail); go_big_quiet_on))))
            refine wpQuiet_nil ?_
            clear hall
            intro x12 hx12
            go_wp2_with fail
            go_roundw
            case rel => exact ⟨q + 1, by omega, by go_num, by rw [HN.out, Bool.false_or], bt hC hx12⟩
            case measure => simp [intOf]; omega
          · go_wp2_with fail
            refine wp_region_class (by kernel_rfl) (by kernel_rfl) (fun hall => ?_)
            repeat (first | go_big_quiet_skip | (go_big_quiet_want; first | (refine quiet_load1 _ _ _ rfl rfl ?_ ?_ ?_; (focus (intro _; simp; done)); (focus (first | assumption | omega | (simp; done) | (simp; omega))); apply Exists.intro; refine ⟨?_, ?_⟩; assumption; go_simp; go_big_quiet_on) | (refine quiet_load2 _ _ _ _ rfl rfl ?_ ?_ ?_ ?_; (focus (intro _; simp; done)); (focus (intro _; simp; done)); (focus (first | assumption | omega | (simp; done) | (simp; omega))); apply Exists.intro; apply Exists.intro; refine ⟨?_, ?_, ?_⟩; assumption; assumption; go_simp; go_big_quiet_on) | (refine quiet_load3 _ _ _ _ rfl rfl ?_ ?_ ?_ ?_; (focus (intro _; simp; done)); (focus (intro _; simp; done)); (focus (first | assumption | omega | (simp; done) | (simp; omega))); apply Exists.intro; apply Exists.intro; apply Exists.intro; refine ⟨?_, ?_, ?_, ?_⟩; assumption; assumption; assumption; go_simp; go_big_quiet_on) | (refine quiet_load4 _ _ _ _ rfl rfl ?_ ?_ ?_ ?_; (focus (intro _; simp; done)); (focus (intro _; simp; done)); (focus (first | assumption | omega | (simp; done) | (simp; omega))); apply Exists.intro; apply Exists.intro; apply Exists.intro; apply Exists.intro; refine ⟨?_, ?_, ?_, ?_, ?_⟩; assumption; assumption; assumption; assumption; go_simp; go_big_quiet_on) | (go_big_quiet_op; first | go_big_quiet_on | (apply Exists.intro; refine ⟨fun x hx => ?_, ?_⟩; (first | fail); go_big_quiet_on))))
            refine wpQuiet_nil ?_
            clear hall
            intro x12 hx12
            go_wp2_with fail
            go_roundw
            case rel => exact ⟨q + 1, by omega, by go_num, by rw [HN.out, Bool.true_or], bt hC hx12⟩
            case measure => simp [intOf]; omega
        · obtain rfl : q = m := by omega
          rw [List.take_of_length_le (by omega)]
          clear hqt hx
          obtain ⟨fv, hf⟩ : ∃ f, Fe.hasDay z d = f := ⟨_, rfl⟩
          rw [hf] at HS ⊢
          clear hf
          cases fv
          · go_wp2_with fail
            go_roundw
            case rel => exact ⟨j + 1, by omega, by go_num, by rw [HS.out, if_neg Bool.false_ne_true], hC⟩
            case measure => simp [intOf]; omega
          · go_wp2_with fail
            go_roundw
            case rel => exact ⟨j + 1, by omega, by go_num, by rw [HS.out, if_pos rfl], hC⟩
            case measure => simp [intOf]; omega
    · obtain rfl : j = n := by omega
      rw [List.take_of_length_le (by omega), HT.out]
      clear hlt hbd
      have hBw : Below w.heap.size w wr := bt hB3 hB
      have e2 : ((j : Int) - (m : Int) == 2) = true := by have := HM.out; simp; omega
      have m0 : (m : Int) ≤ 60 := by have := HM.out; omega
      have n0 : (j : Int) ≤ 60 := by omega
      go_wp2_with fail
      refine (HAw.out _ (Tab.below hT (by repeat (first | (with_reducible exact Below.refl _ _) | (with_reducible assumption) | (with_reducible refine bdrew ?_) | (with_reducible refine baa ?_ _) | (with_reducible refine bs ?_ (by first | exact Nat.le_refl _ | omega | (simp; done) | (simp; omega)) _) | (with_reducible refine bt ?_ (by with_reducible assumption))))) (Tab.below hL (by repeat (first | (with_reducible exact Below.refl _ _) | (with_reducible assumption) | (with_reducible refine bdrew ?_) | (with_reducible refine baa ?_ _) | (with_reducible refine bs ?_ (by first | exact Nat.le_refl _ | omega | (simp; done) | (simp; omega)) _) | (with_reducible refine bt ?_ (by with_reducible assumption))))) (Tab.below hF (by repeat (first | (with_reducible exact Below.refl _ _) | (with_reducible assumption) | (with_reducible refine bdrew ?_) | (with_reducible refine baa ?_ _) | (with_reducible refine bs ?_ (by first | exact Nat.le_refl _ | omega | (simp; done) | (simp; omega)) _) | (with_reducible refine bt ?_ (by with_reducible assumption)))))).mono ?_
      rintro e w9 ⟨rfl, hb9⟩
      go_wp2_with fail
      go_ret
      exact ⟨rfl, bt hBw hb9⟩
theorem FeastPlaces_walk (y : Int) (hy : 0 ≤ y ∧ y ≤ 65535) (w : World) (hT : Tab w 3 kevCells) (hL : Tab w 2 lenCells) (hF : Tab w 0 Fe.cells) :
    Calls Tryd.prog 5 #[.int .u16 y] w fun e w' => e = .returned (.bool true) ∧ Below w.heap.size w w' := by
  obtain ⟨i, hi⟩ := Yr.is_some (1 + y % 9999) (by omega) (by omega)
  have hAw := Lib.hid (fun w hT hL hF => awake19 w hT hL hF)
  have hc := List.all_eq_true.1 Fe.all_pl i (List.mem_range.2 hi.2.2.1)
  simp only [Bool.and_eq_true, decide_eq_true_eq] at hc
  exact FeastPlaces_go y _ _ ((Fe.feastL i false).map (Ev.sh (Cal.first (1 + y % 9999)))) ((Fe.feastL i true).map (Ev.sh (Cal.first (1 + y % 9999)))) w hy hT hL hF rfl rfl (by rw [List.length_map]; exact hc.2.2) (Lib.hid (by rw [List.length_map, List.length_map]; exact hc.2.1)) (Lib.hid (fun w hT hL hF => feast_Of_at (1 + y % 9999) i false w hi hT hL hF)) (Lib.hid (fun w hT hL hF => feast_Of_at (1 + y % 9999) i true w hi hT hL hF)) (Lib.hid (by rw [Fe.extra_sh]; exact hc.1)) hAw
end Go.Proofs.YtagmdglmflcegaaDoor
