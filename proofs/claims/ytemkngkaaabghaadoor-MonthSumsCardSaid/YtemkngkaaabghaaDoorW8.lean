/- Layer 8: the walks of its laws. -/
import Derived.Test.YtemkngkaaabghaaDoorMonth4
import Derived.Test.YtemkngkaaabghaaDoorW7
namespace Go.Proofs.YtemkngkaaabghaaDoor
open Go.ChangeShapes Go.WideShapes Go.ChangeAt Go.RowKit
set_option linter.unusedVariables false
theorem sum_nn : ∀ (xs : List Int), (∀ y ∈ xs, 0 ≤ y) → 0 ≤ xs.sum
  | [], _ => by simp
  | y :: ys, h => by
    have h1 := h y (by simp)
    have h2 := sum_nn ys (fun z hz => h z (by simp [hz]))
    rw [List.sum_cons]; omega
theorem findL_in (r : Int) (hr : 1 ≤ r) : ∀ (j : Nat) (xs : List Int) (i x : Int), (∀ y ∈ xs, 0 ≤ y) → xs[j]? = some x → r ≤ x → findL xs i ((xs.take j).sum + r) = (i + j, r, true)
  | 0, [], _, _, _, h, _ => by simp at h
  | 0, y :: ys, i, x, _, h, hx => by
    simp only [List.getElem?_cons_zero, Option.some.injEq] at h
    subst h
    simp [findL, hx]
  | j + 1, [], _, _, _, h, _ => by simp at h
  | j + 1, y :: ys, i, x, hp, h, hx => by
    have hy := hp y (by simp)
    have hs : 0 ≤ (ys.take j).sum := sum_nn _ (fun z hz => hp z (by simp [List.mem_of_mem_take hz]))
    have ih := findL_in r hr j ys (i + 1) x (fun z hz => hp z (by simp [hz])) (by simpa using h) hx
    rw [List.take_succ_cons, List.sum_cons, findL, if_neg (by omega), show y + (ys.take j).sum + r - y = (ys.take j).sum + r by omega, ih]
    simp only [Prod.mk.injEq, and_true]
    omega
theorem findL_over : ∀ (xs : List Int) (i : Int), (∀ y ∈ xs, 0 ≤ y) → findL xs i (xs.sum + 1) = (0, 0, false)
  | [], _, _ => rfl
  | y :: ys, i, hp => by
    have hs : 0 ≤ ys.sum := sum_nn _ (fun z hz => hp z (by simp [hz]))
    rw [List.sum_cons, findL, if_neg (by omega), show y + ys.sum + 1 - y = ys.sum + 1 by omega]
    exact findL_over ys (i + 1) (fun z hz => hp z (by simp [hz]))
theorem findV_in (b k : Int) (l : Bool) (j : Nat) (x r : Int) (hj : (j : Int) + 1 ≤ cnt b k l) (hx : (lens k l)[j]? = some x) (h1 : 1 ≤ r) (h2 : r ≤ x) : findV b k l (((lens k l).take j).sum + r) = ((j : Int) + 1, r, true) := by
  have hbd := lens_bd k l
  have hs := (sum_bd (lens k l) hbd j).1
  have hjn : j < (cnt b k l).toNat := by omega
  unfold findV
  rw [if_neg (by omega)]
  have := findL_in r h1 j ((lens k l).take (cnt b k l).toNat) 1 x (fun y hy => by have := hbd y (List.mem_of_mem_take hy); omega) (by rw [List.getElem?_take_of_lt hjn]; exact hx) h2
  rw [List.take_take, Nat.min_eq_left (by omega)] at this
  rw [this, Int.add_comm]
theorem findV_over (b k : Int) (l : Bool) (hc : cnt b k l = (lens k l).length) : findV b k l ((lens k l).sum + 1) = (0, 0, false) := by
  have hbd := lens_bd k l
  have hs : 0 ≤ (lens k l).sum := sum_nn _ (fun z hz => by have := hbd z hz; omega)
  unfold findV
  rw [if_neg (by omega), hc, Int.toNat_natCast, List.take_length]
  exact findL_over _ _ (fun y hy => by have := hbd y hy; omega)
theorem row_sum (i : Nat) (hi : i < 14) : (lens (kevK i) (kevL i)).sum = 353 + kevK i + if kevL i then 30 else 0 := by
  match i, hi with
  | 0, _ | 1, _ | 2, _ | 3, _ | 4, _ | 5, _ | 6, _ | 7, _ | 8, _ | 9, _ | 10, _ | 11, _ | 12, _ | 13, _ => decide
theorem row_cnt (i : Nat) (hi : i < 14) : cnt (kevB i) (kevK i) (kevL i) = (lens (kevK i) (kevL i)).length := cnt_yes _ _ _ (by rw [number_row i hi]; omega)
theorem month_Find_149 (w : World) (hT : Tab w 0 kevCells) (hL : Tab w 1 lenCells) : Calls Tryd.prog 19 #[.agg #[.int .i64 2, .int .i64 1, .bool false], .int .i64 149] w fun e w' => e = .returned (.tuple #[.int .i64 6, .int .i64 1, .bool true]) ∧ Below w.heap.size w w' := by
  have := month_Find 2 1 false 149 w hT hL (by omega)
  rwa [show findV 2 1 false 149 = (6, 1, true) by decide] at this
theorem month_Count_12 (w : World) (hT : Tab w 0 kevCells) : Calls Tryd.prog 22 #[.agg #[.int .i64 2, .int .i64 1, .bool false]] w fun e w' => e = .returned (.int .i64 12) ∧ Below w.heap.size w w' := by
  have := month_Count 2 1 false w hT
  rwa [show cnt 2 1 false = 12 by decide] at this
theorem month_Days_1 (w : World) (hT : Tab w 0 kevCells) (hL : Tab w 1 lenCells) : Calls Tryd.prog 24 #[.agg #[.int .i64 2, .int .i64 1, .bool false], .int .i64 1] w fun e w' => e = .returned (.int .i64 30) ∧ Below w.heap.size w w' := by
  have := month_Days 2 1 false 1 w hT hL
  rwa [show daysV 2 1 false 1 = 30 by decide] at this
theorem month_Ahead_6 (w : World) (hT : Tab w 0 kevCells) (hL : Tab w 1 lenCells) : Calls Tryd.prog 26 #[.agg #[.int .i64 2, .int .i64 1, .bool false], .int .i64 6] w fun e w' => e = .returned (.int .i64 148) ∧ Below w.heap.size w w' := by
  have := month_Ahead 2 1 false 6 w hT hL
  rwa [show aheadV 2 1 false 6 = 148 by decide] at this
set_option maxHeartbeats 1000000 in
theorem awake8 (w : World) (hT : Tab w 0 kevCells) (hL : Tab w 1 lenCells) : Calls Tryd.prog 21 #[] w fun e w' => e = .returned (.bool true) ∧ Below w.heap.size w w' := by
  go_enter Tryd.func21, Tryd.ntmps21
  go_wp2_with fail
  refine (month_Find_149 _ (Tab.below hT (by repeat (first | exact Below.refl _ _ | assumption | (with_reducible refine bdw ?_) | (with_reducible refine baa ?_ _) | (with_reducible refine bs ?_ (by first | exact Nat.le_refl _ | omega | (simp; omega)) _) | (with_reducible refine bt ?_ (by assumption))))) (Tab.below hL (by repeat (first | exact Below.refl _ _ | assumption | (with_reducible refine bdw ?_) | (with_reducible refine baa ?_ _) | (with_reducible refine bs ?_ (by first | exact Nat.le_refl _ | omega | (simp; omega)) _) | (with_reducible refine bt ?_ (by assumption)))))).mono ?_
  rintro e w1 ⟨rfl, hb1⟩
  obtain ⟨hc1, hf1⟩ := bcell hb1
  have hz1 := hb1.size
  try simp at hz1
  have hl1w : w.heap.size < w1.heap.size := by omega
  have hm1w : w.heap.size ≤ w1.heap.size := by omega
  have g1x0 : w1.cell? ⟨w.heap.size, 0, none⟩ = some (.int .i64 2) := (hc1 _ _ (by first | omega | (simp; done) | (simp; omega))).trans (by first | assumption | simp [go_sem] | simp [go_sem, *])
  have g1x1 : w1.cell? ⟨w.heap.size, 1, none⟩ = some (.int .i64 1) := (hc1 _ _ (by first | omega | (simp; done) | (simp; omega))).trans (by first | assumption | simp [go_sem] | simp [go_sem, *])
  have g1x2 : w1.cell? ⟨w.heap.size, 2, none⟩ = some (.bool false) := (hc1 _ _ (by first | omega | (simp; done) | (simp; omega))).trans (by first | assumption | simp [go_sem] | simp [go_sem, *])
  go_wp2_with fail
  refine (month_Count_12 _ (Tab.below hT (by repeat (first | exact Below.refl _ _ | assumption | (with_reducible refine bdw ?_) | (with_reducible refine baa ?_ _) | (with_reducible refine bs ?_ (by first | exact Nat.le_refl _ | omega | (simp; omega)) _) | (with_reducible refine bt ?_ (by assumption)))))).mono ?_
  rintro e w2 ⟨rfl, hb2⟩
  obtain ⟨hc2, hf2⟩ := bcell hb2
  have hz2 := hb2.size
  try simp at hz2
  have hl2w : w.heap.size < w2.heap.size := by omega
  have hm2w : w.heap.size ≤ w2.heap.size := by omega
  have g2x0 : w2.cell? ⟨w.heap.size, 0, none⟩ = some (.int .i64 2) := (hc2 _ _ (by first | omega | (simp; done) | (simp; omega))).trans (by first | assumption | simp [go_sem] | simp [go_sem, *])
  have g2x1 : w2.cell? ⟨w.heap.size, 1, none⟩ = some (.int .i64 1) := (hc2 _ _ (by first | omega | (simp; done) | (simp; omega))).trans (by first | assumption | simp [go_sem] | simp [go_sem, *])
  have g2x2 : w2.cell? ⟨w.heap.size, 2, none⟩ = some (.bool false) := (hc2 _ _ (by first | omega | (simp; done) | (simp; omega))).trans (by first | assumption | simp [go_sem] | simp [go_sem, *])
  go_wp2_with fail
  refine (month_Days_1 _ (Tab.below hT (by repeat (first | exact Below.refl _ _ | assumption | (with_reducible refine bdw ?_) | (with_reducible refine baa ?_ _) | (with_reducible refine bs ?_ (by first | exact Nat.le_refl _ | omega | (simp; omega)) _) | (with_reducible refine bt ?_ (by assumption))))) (Tab.below hL (by repeat (first | exact Below.refl _ _ | assumption | (with_reducible refine bdw ?_) | (with_reducible refine baa ?_ _) | (with_reducible refine bs ?_ (by first | exact Nat.le_refl _ | omega | (simp; omega)) _) | (with_reducible refine bt ?_ (by assumption)))))).mono ?_
  rintro e w3 ⟨rfl, hb3⟩
  obtain ⟨hc3, hf3⟩ := bcell hb3
  have hz3 := hb3.size
  try simp at hz3
  have hl3w : w.heap.size < w3.heap.size := by omega
  have hm3w : w.heap.size ≤ w3.heap.size := by omega
  have g3x0 : w3.cell? ⟨w.heap.size, 0, none⟩ = some (.int .i64 2) := (hc3 _ _ (by first | omega | (simp; done) | (simp; omega))).trans (by first | assumption | simp [go_sem] | simp [go_sem, *])
  have g3x1 : w3.cell? ⟨w.heap.size, 1, none⟩ = some (.int .i64 1) := (hc3 _ _ (by first | omega | (simp; done) | (simp; omega))).trans (by first | assumption | simp [go_sem] | simp [go_sem, *])
  have g3x2 : w3.cell? ⟨w.heap.size, 2, none⟩ = some (.bool false) := (hc3 _ _ (by first | omega | (simp; done) | (simp; omega))).trans (by first | assumption | simp [go_sem] | simp [go_sem, *])
  go_wp2_with fail
  refine (month_Ahead_6 _ (Tab.below hT (by repeat (first | exact Below.refl _ _ | assumption | (with_reducible refine bdw ?_) | (with_reducible refine baa ?_ _) | (with_reducible refine bs ?_ (by first | exact Nat.le_refl _ | omega | (simp; omega)) _) | (with_reducible refine bt ?_ (by assumption))))) (Tab.below hL (by repeat (first | exact Below.refl _ _ | assumption | (with_reducible refine bdw ?_) | (with_reducible refine baa ?_ _) | (with_reducible refine bs ?_ (by first | exact Nat.le_refl _ | omega | (simp; omega)) _) | (with_reducible refine bt ?_ (by assumption)))))).mono ?_
  rintro e w4 ⟨rfl, hb4⟩
  obtain ⟨hc4, hf4⟩ := bcell hb4
  have hz4 := hb4.size
  try simp at hz4
  have hl4w : w.heap.size < w4.heap.size := by omega
  have hm4w : w.heap.size ≤ w4.heap.size := by omega
  have g4x0 : w4.cell? ⟨w.heap.size, 0, none⟩ = some (.int .i64 2) := (hc4 _ _ (by first | omega | (simp; done) | (simp; omega))).trans (by first | assumption | simp [go_sem] | simp [go_sem, *])
  have g4x1 : w4.cell? ⟨w.heap.size, 1, none⟩ = some (.int .i64 1) := (hc4 _ _ (by first | omega | (simp; done) | (simp; omega))).trans (by first | assumption | simp [go_sem] | simp [go_sem, *])
  have g4x2 : w4.cell? ⟨w.heap.size, 2, none⟩ = some (.bool false) := (hc4 _ _ (by first | omega | (simp; done) | (simp; omega))).trans (by first | assumption | simp [go_sem] | simp [go_sem, *])
  go_wp2_with fail
  go_ret
  exact ⟨rfl, bt (bt (bt (bt (ba _ _) hb1) hb2) hb3) hb4⟩
set_option maxHeartbeats 1000000 in
set_option maxRecDepth 100000 in
theorem MonthTells_walk (b k : Int) (l : Bool) (m n : Int) (hb : I64 b) (hk : I64 k) (hm : I64 m) (hn : I64 n) (w : World) (hT : Tab w 0 kevCells) (hL : Tab w 1 lenCells) :
    Calls Tryd.prog 6 #[.agg #[.int .i64 b, .int .i64 k, .bool l], .int .i64 m, .int .i64 n] w fun e w' => e = .returned (.bool true) ∧ Below w.heap.size w w' := by
  have HF := Lib.hid (fun w h h' => month_Find b k l n w h h' hn.2)
  have HR := Lib.hid (fun w => ref8_Find b k l n w hn.2)
  generalize findV b k l n = V at *
  go_enter Tryd.func6, Tryd.ntmps6
  go_wp2_with fail
  refine (HF.out _ (Tab.below hT (by repeat (first | exact Below.refl _ _ | assumption | (with_reducible refine bdw ?_) | (with_reducible refine baa ?_ _) | (with_reducible refine bs ?_ (by first | exact Nat.le_refl _ | omega | (simp; omega)) _) | (with_reducible refine bt ?_ (by assumption))))) (Tab.below hL (by repeat (first | exact Below.refl _ _ | assumption | (with_reducible refine bdw ?_) | (with_reducible refine baa ?_ _) | (with_reducible refine bs ?_ (by first | exact Nat.le_refl _ | omega | (simp; omega)) _) | (with_reducible refine bt ?_ (by assumption)))))).mono ?_
  rintro e w1 ⟨rfl, hb1⟩
  obtain ⟨hc1, hf1⟩ := bcell hb1
  have hz1 := hb1.size
  try simp at hz1
  have hl1w : w.heap.size < w1.heap.size := by omega
  have hm1w : w.heap.size ≤ w1.heap.size := by omega
  have g1x0 : w1.cell? ⟨w.heap.size, 0, none⟩ = some (.int .i64 b) := (hc1 _ _ (by first | omega | (simp; done) | (simp; omega))).trans (by first | assumption | simp [go_sem] | simp [go_sem, *])
  have g1x1 : w1.cell? ⟨w.heap.size, 1, none⟩ = some (.int .i64 k) := (hc1 _ _ (by first | omega | (simp; done) | (simp; omega))).trans (by first | assumption | simp [go_sem] | simp [go_sem, *])
  have g1x2 : w1.cell? ⟨w.heap.size, 2, none⟩ = some (.bool l) := (hc1 _ _ (by first | omega | (simp; done) | (simp; omega))).trans (by first | assumption | simp [go_sem] | simp [go_sem, *])
  go_wp2_with fail
  refine (HR.out _).mono ?_
  rintro e w2 ⟨rfl, hb2⟩
  obtain ⟨hc2, hf2⟩ := bcell hb2
  have hz2 := hb2.size
  try simp at hz2
  have hl2w : w.heap.size < w2.heap.size := by omega
  have hm2w : w.heap.size ≤ w2.heap.size := by omega
  have g2x0 : w2.cell? ⟨w.heap.size, 0, none⟩ = some (.int .i64 b) := (hc2 _ _ (by first | omega | (simp; done) | (simp; omega))).trans (by first | assumption | simp [go_sem] | simp [go_sem, *])
  have g2x1 : w2.cell? ⟨w.heap.size, 1, none⟩ = some (.int .i64 k) := (hc2 _ _ (by first | omega | (simp; done) | (simp; omega))).trans (by first | assumption | simp [go_sem] | simp [go_sem, *])
  have g2x2 : w2.cell? ⟨w.heap.size, 2, none⟩ = some (.bool l) := (hc2 _ _ (by first | omega | (simp; done) | (simp; omega))).trans (by first | assumption | simp [go_sem] | simp [go_sem, *])
  go_wp2_with fail
  refine settle (fun W => W.cell? ⟨w.heap.size, 0, none⟩ = some (.int .i64 b) ∧ W.cell? ⟨w.heap.size, 1, none⟩ = some (.int .i64 k) ∧ W.cell? ⟨w.heap.size, 2, none⟩ = some (.bool l) ∧ w.heap.size < W.heap.size ∧ Below w.heap.size w W ∧ Tab W 0 kevCells ∧ Tab W 1 lenCells) ⟨?_, ?_, ?_, ?_, ?_, ?_, ?_⟩ ?_
  · (first | assumption | (simp [go_sem, *]; done))
  · (first | assumption | (simp [go_sem, *]; done))
  · (first | assumption | (simp [go_sem, *]; done))
  · (first | assumption | (simp; done) | (simp; omega) | omega)
  · (repeat (first | exact Below.refl _ _ | assumption | (with_reducible refine bdw ?_) | (with_reducible refine baa ?_ _) | (with_reducible refine bs ?_ (by first | exact Nat.le_refl _ | omega | (simp; omega)) _) | (with_reducible refine bt ?_ (by assumption))))
  · (refine Tab.below hT ?_; repeat (first | exact Below.refl _ _ | assumption | (with_reducible refine bdw ?_) | (with_reducible refine baa ?_ _) | (with_reducible refine bs ?_ (by first | exact Nat.le_refl _ | omega | (simp; omega)) _) | (with_reducible refine bt ?_ (by assumption))))
  · (refine Tab.below hL ?_; repeat (first | exact Below.refl _ _ | assumption | (with_reducible refine bdw ?_) | (with_reducible refine baa ?_ _) | (with_reducible refine bs ?_ (by first | exact Nat.le_refl _ | omega | (simp; omega)) _) | (with_reducible refine bt ?_ (by assumption))))
  rintro W3 ⟨r3x0, r3x1, r3x2, rs3x0, hB3, hT3x0, hT3x1⟩
  refine wp_region_class (by kernel_rfl) (by kernel_rfl) (fun hall => ?_)
  repeat (first | go_big_quiet_skip | (go_big_quiet_want; first | (refine quiet_load1 _ _ _ rfl rfl ?_ ?_ ?_; (focus (intro _; simp; done)); (focus (first | assumption | omega | (simp; done) | (simp; omega))); apply Exists.intro; refine ⟨?_, ?_⟩; assumption; go_simp; go_big_quiet_on) | (refine quiet_load2 _ _ _ _ rfl rfl ?_ ?_ ?_ ?_; (focus (intro _; simp; done)); (focus (intro _; simp; done)); (focus (first | assumption | omega | (simp; done) | (simp; omega))); apply Exists.intro; apply Exists.intro; refine ⟨?_, ?_, ?_⟩; assumption; assumption; go_simp; go_big_quiet_on) | (refine quiet_load3 _ _ _ _ rfl rfl ?_ ?_ ?_ ?_; (focus (intro _; simp; done)); (focus (intro _; simp; done)); (focus (first | assumption | omega | (simp; done) | (simp; omega))); apply Exists.intro; apply Exists.intro; apply Exists.intro; refine ⟨?_, ?_, ?_, ?_⟩; assumption; assumption; assumption; go_simp; go_big_quiet_on) | (refine quiet_load4 _ _ _ _ rfl rfl ?_ ?_ ?_ ?_; (focus (intro _; simp; done)); (focus (intro _; simp; done)); (focus (first | assumption | omega | (simp; done) | (simp; omega))); apply Exists.intro; apply Exists.intro; apply Exists.intro; apply Exists.intro; refine ⟨?_, ?_, ?_, ?_, ?_⟩; assumption; assumption; assumption; assumption; go_simp; go_big_quiet_on) | (go_big_quiet_op; first | go_big_quiet_on | (apply Exists.intro; refine ⟨fun x hx => ?_, ?_⟩; (first | exact call_below hx (awake8 x (Tab.below hT3x0 hx) (Tab.below hT3x1 hx)) | exact call_below hx (month_Count b k l x (Tab.below hT3x0 hx)) | exact call_below hx (ref8_Count b k l x) | exact call_below hx (month_Days b k l m x (Tab.below hT3x0 hx) (Tab.below hT3x1 hx)) | exact call_below hx (ref8_Days b k l m x) | exact call_below hx (month_Ahead b k l m x (Tab.below hT3x0 hx) (Tab.below hT3x1 hx)) | exact call_below hx (ref8_Ahead b k l m x)); go_big_quiet_on))))
  refine wpQuiet_nil ?_
  clear hall
  intro x4 hx4
  go_wp2_with fail
  go_ret
  exact ⟨rfl, bt hB3 hx4⟩
set_option maxHeartbeats 2000000 in
set_option maxRecDepth 100000 in
theorem MonthSums_walk (n : Int) (hn : 0 ≤ n ∧ n ≤ 255) (w : World) (hT : Tab w 0 kevCells) (hL : Tab w 1 lenCells) :
    Calls Tryd.prog 7 #[.int .u8 n] w fun e w' => e = .returned (.bool true) ∧ Below w.heap.size w w' := by
  obtain ⟨n0, n1⟩ := hn
  have k1 : 0 ≤ n % 14 := by omega
  have k2 : n % 14 < 14 := by omega
  obtain ⟨i, hi, ei⟩ : ∃ i : Nat, i < 14 ∧ 1 + n % 14 = (i : Int) + 1 := ⟨(n % 14).toNat, by omega, by omega⟩
  have HX := Lib.hid (fun w => ei ▸ ref7_Type_yes i hi w)
  have hc := row_cnt i hi
  have hs := row_sum i hi
  have hkb : 0 ≤ kevK i ∧ kevK i ≤ 2 := by
    match i, hi with
    | 0, _ | 1, _ | 2, _ | 3, _ | 4, _ | 5, _ | 6, _ | 7, _ | 8, _ | 9, _ | 10, _ | 11, _ | 12, _ | 13, _ => decide
  obtain ⟨kb1, kb2⟩ := hkb
  clear ei
  generalize kevB i = b at *
  generalize kevK i = k at *
  generalize kevL i = l at *
  clear hi
  have hbd := Lib.hid (lens_bd k l)
  have HC := Lib.hid (fun w h => month_Count b k l w h)
  have HD := Lib.hid (fun j x w h h' hj hx => month_Days_at b k l j x w h h' hj hx)
  have HA := Lib.hid (fun j w h h' hj => month_Ahead_at b k l j w h h' hj)
  have HFi := Lib.hid (fun z w h h' hz => month_Find b k l z w h h' hz)
  have HV := Lib.hid (fun j x r hj hx h1 h2 => findV_in b k l j x r hj hx h1 h2)
  have HO := Lib.hid (findV_over b k l hc)
  have hlen := lens_len k l
  rw [hc] at HC HD HA HV
  have hl13 : (lens k l).length ≤ 13 := by rw [hlen]; split <;> omega
  obtain ⟨N, hN⟩ : ∃ N : Nat, (lens k l).length = N := ⟨_, rfl⟩
  rw [hN] at HC HD HA HV hl13
  clear hc hlen
  have HN := Lib.hid hN
  clear hN
  have HS := Lib.hid hs
  clear hs
  go_enter Tryd.func7, Tryd.ntmps7
  go_wp2_with fail
  refine (HX.out _).mono ?_
  rintro e w1 ⟨rfl, hb1⟩
  obtain ⟨hc1, hf1⟩ := bcell hb1
  have hz1 := hb1.size
  try simp at hz1
  go_wp2_with fail
  go_loopw [5, 6] (fun s m wr => ∃ j : Nat, j ≤ N ∧ m = .int .i64 ((j : Int) + 1) ∧ s = .int .i64 ((lens k l).take j).sum ∧ wr.cell? ⟨w1.heap.size, 0, none⟩ = some (.int .i64 b) ∧ wr.cell? ⟨w1.heap.size, 1, none⟩ = some (.int .i64 k) ∧ wr.cell? ⟨w1.heap.size, 2, none⟩ = some (.bool l) ∧ w1.heap.size < wr.heap.size ∧ Below w.heap.size w wr) (fun _ m _ => N + 1 - (intOf m).toNat)
  case atStart => exact ⟨0, by omega, rfl, rfl, by simp [go_sem], by simp [go_sem], by simp [go_sem], by simp, baa hb1 _⟩
  case round =>
    obtain ⟨j, hj1, rfl, rfl, c0, c1, c2, hsz, hB⟩ := hrel
    obtain ⟨s1, s2⟩ := sum_bd (lens k l) hbd.out j
    clear hc1 hf1
    by_cases hlt : j < N
    · obtain ⟨x, hx⟩ : ∃ x, (lens k l)[j]? = some x := ⟨_, List.getElem?_eq_getElem (by rw [HN.out]; exact hlt)⟩
      obtain ⟨x1, x2⟩ := hbd.out x (List.mem_of_getElem? hx)
      have hst := Lib.hid (sum_take _ j x hx)
      have HXd := Lib.hid (fun w h h' => HD.out j x w h h' (by omega) hx)
      have HXa := Lib.hid (fun w h h' => HA.out j w h h' (by omega))
      have v1 := HV.out j x 1 (by omega) hx (by omega) (by omega)
      have v2 := HV.out j x x (by omega) hx (by omega) (by omega)
      have hF1 := fun w h h' => HFi.out (((lens k l).take j).sum + 1) w h h' (by omega)
      have hF2 := fun w h h' => HFi.out (((lens k l).take j).sum + x) w h h' (by omega)
      rw [v1] at hF1
      rw [v2] at hF2
      have HF1 := Lib.hid hF1
      have HF2 := Lib.hid hF2
      clear hx v1 v2 hF1 hF2
      generalize ((lens k l).take j).sum = S at *
      go_wp2_with fail
      refine (HC.out _ (Tab.below hT (by repeat (first | exact Below.refl _ _ | assumption | (with_reducible refine bdw ?_) | (with_reducible refine baa ?_ _) | (with_reducible refine bs ?_ (by first | exact Nat.le_refl _ | omega | (simp; omega)) _) | (with_reducible refine bt ?_ (by assumption)))))).mono ?_
      rintro e w2 ⟨rfl, hb2⟩
      obtain ⟨d2x0, d2x1, d2x2, d2x3⟩ := keep3 ⟨c0, c1, c2, hsz⟩ hb2
      go_wp2_with fail
      refine (HXd.out _ (Tab.below hT (by repeat (first | exact Below.refl _ _ | assumption | (with_reducible refine bdw ?_) | (with_reducible refine baa ?_ _) | (with_reducible refine bs ?_ (by first | exact Nat.le_refl _ | omega | (simp; omega)) _) | (with_reducible refine bt ?_ (by assumption))))) (Tab.below hL (by repeat (first | exact Below.refl _ _ | assumption | (with_reducible refine bdw ?_) | (with_reducible refine baa ?_ _) | (with_reducible refine bs ?_ (by first | exact Nat.le_refl _ | omega | (simp; omega)) _) | (with_reducible refine bt ?_ (by assumption)))))).mono ?_
      rintro e w3 ⟨rfl, hb3⟩
      obtain ⟨d3x0, d3x1, d3x2, d3x3⟩ := keep3 ⟨d2x0, d2x1, d2x2, d2x3⟩ hb3
      go_wp2_with fail
      refine (HXa.out _ (Tab.below hT (by repeat (first | exact Below.refl _ _ | assumption | (with_reducible refine bdw ?_) | (with_reducible refine baa ?_ _) | (with_reducible refine bs ?_ (by first | exact Nat.le_refl _ | omega | (simp; omega)) _) | (with_reducible refine bt ?_ (by assumption))))) (Tab.below hL (by repeat (first | exact Below.refl _ _ | assumption | (with_reducible refine bdw ?_) | (with_reducible refine baa ?_ _) | (with_reducible refine bs ?_ (by first | exact Nat.le_refl _ | omega | (simp; omega)) _) | (with_reducible refine bt ?_ (by assumption)))))).mono ?_
      rintro e w4 ⟨rfl, hb4⟩
      obtain ⟨d4x0, d4x1, d4x2, d4x3⟩ := keep3 ⟨d3x0, d3x1, d3x2, d3x3⟩ hb4
      go_wp2_with fail
      refine (HF1.out _ (Tab.below hT (by repeat (first | exact Below.refl _ _ | assumption | (with_reducible refine bdw ?_) | (with_reducible refine baa ?_ _) | (with_reducible refine bs ?_ (by first | exact Nat.le_refl _ | omega | (simp; omega)) _) | (with_reducible refine bt ?_ (by assumption))))) (Tab.below hL (by repeat (first | exact Below.refl _ _ | assumption | (with_reducible refine bdw ?_) | (with_reducible refine baa ?_ _) | (with_reducible refine bs ?_ (by first | exact Nat.le_refl _ | omega | (simp; omega)) _) | (with_reducible refine bt ?_ (by assumption)))))).mono ?_
      rintro e w5 ⟨rfl, hb5⟩
      obtain ⟨d5x0, d5x1, d5x2, d5x3⟩ := keep3 ⟨d4x0, d4x1, d4x2, d4x3⟩ hb5
      go_wp2_with fail
      refine (HF2.out _ (Tab.below hT (by repeat (first | exact Below.refl _ _ | assumption | (with_reducible refine bdw ?_) | (with_reducible refine baa ?_ _) | (with_reducible refine bs ?_ (by first | exact Nat.le_refl _ | omega | (simp; omega)) _) | (with_reducible refine bt ?_ (by assumption))))) (Tab.below hL (by repeat (first | exact Below.refl _ _ | assumption | (with_reducible refine bdw ?_) | (with_reducible refine baa ?_ _) | (with_reducible refine bs ?_ (by first | exact Nat.le_refl _ | omega | (simp; omega)) _) | (with_reducible refine bt ?_ (by assumption)))))).mono ?_
      rintro e w6 ⟨rfl, hb6⟩
      obtain ⟨d6x0, d6x1, d6x2, d6x3⟩ := keep3 ⟨d5x0, d5x1, d5x2, d5x3⟩ hb6
      go_wp2_with fail
      go_roundw
      case rel => exact ⟨j + 1, by omega, by go_num, by rw [hst.out], d6x0, d6x1, d6x2, d6x3, bt (bt (bt (bt (bt hB hb2) hb3) hb4) hb5) hb6⟩
      case measure => simp [intOf]; omega
    · obtain rfl : j = N := by omega
      have hall : (lens k l).take j = lens k l := by rw [← HN.out, List.take_length]
      rw [hall]
      have hFo := fun w h h' => HFi.out ((lens k l).sum + 1) w h h' (by rw [hall] at s2; omega)
      rw [HO.out] at hFo
      have HFo := Lib.hid hFo
      rw [hall] at s1 s2
      clear hFo hall
      have hs := HS.out
      generalize (lens k l).sum = S at *
      cases l
      · have f1 : (S == 353 + k) = true := by rw [beq_iff_eq]; simpa using hs
        clear hs
        go_wp2_with fail
        refine (HC.out _ (Tab.below hT (by repeat (first | exact Below.refl _ _ | assumption | (with_reducible refine bdw ?_) | (with_reducible refine baa ?_ _) | (with_reducible refine bs ?_ (by first | exact Nat.le_refl _ | omega | (simp; omega)) _) | (with_reducible refine bt ?_ (by assumption)))))).mono ?_
        rintro e w2 ⟨rfl, hb2⟩
        obtain ⟨d2x0, d2x1, d2x2, d2x3⟩ := keep3 ⟨c0, c1, c2, hsz⟩ hb2
        go_wp2_with fail
        refine (HFo.out _ (Tab.below hT (by repeat (first | exact Below.refl _ _ | assumption | (with_reducible refine bdw ?_) | (with_reducible refine baa ?_ _) | (with_reducible refine bs ?_ (by first | exact Nat.le_refl _ | omega | (simp; omega)) _) | (with_reducible refine bt ?_ (by assumption))))) (Tab.below hL (by repeat (first | exact Below.refl _ _ | assumption | (with_reducible refine bdw ?_) | (with_reducible refine baa ?_ _) | (with_reducible refine bs ?_ (by first | exact Nat.le_refl _ | omega | (simp; omega)) _) | (with_reducible refine bt ?_ (by assumption)))))).mono ?_
        rintro e w3 ⟨rfl, hb3⟩
        obtain ⟨d3x0, d3x1, d3x2, d3x3⟩ := keep3 ⟨d2x0, d2x1, d2x2, d2x3⟩ hb3
        go_wp2_with fail
        refine (awake8 _ (Tab.below hT (by repeat (first | exact Below.refl _ _ | assumption | (with_reducible refine bdw ?_) | (with_reducible refine baa ?_ _) | (with_reducible refine bs ?_ (by first | exact Nat.le_refl _ | omega | (simp; omega)) _) | (with_reducible refine bt ?_ (by assumption))))) (Tab.below hL (by repeat (first | exact Below.refl _ _ | assumption | (with_reducible refine bdw ?_) | (with_reducible refine baa ?_ _) | (with_reducible refine bs ?_ (by first | exact Nat.le_refl _ | omega | (simp; omega)) _) | (with_reducible refine bt ?_ (by assumption)))))).mono ?_
        rintro e w4 ⟨rfl, hb4⟩
        obtain ⟨d4x0, d4x1, d4x2, d4x3⟩ := keep3 ⟨d3x0, d3x1, d3x2, d3x3⟩ hb4
        go_wp2_with fail
        go_ret
        exact ⟨rfl, bt (bt (bt hB hb2) hb3) hb4⟩
      · have f1 : (S == 353 + k + 30) = true := by rw [beq_iff_eq]; simpa using hs
        clear hs
        go_wp2_with fail
        refine (HC.out _ (Tab.below hT (by repeat (first | exact Below.refl _ _ | assumption | (with_reducible refine bdw ?_) | (with_reducible refine baa ?_ _) | (with_reducible refine bs ?_ (by first | exact Nat.le_refl _ | omega | (simp; omega)) _) | (with_reducible refine bt ?_ (by assumption)))))).mono ?_
        rintro e w2 ⟨rfl, hb2⟩
        obtain ⟨d2x0, d2x1, d2x2, d2x3⟩ := keep3 ⟨c0, c1, c2, hsz⟩ hb2
        go_wp2_with fail
        refine (HFo.out _ (Tab.below hT (by repeat (first | exact Below.refl _ _ | assumption | (with_reducible refine bdw ?_) | (with_reducible refine baa ?_ _) | (with_reducible refine bs ?_ (by first | exact Nat.le_refl _ | omega | (simp; omega)) _) | (with_reducible refine bt ?_ (by assumption))))) (Tab.below hL (by repeat (first | exact Below.refl _ _ | assumption | (with_reducible refine bdw ?_) | (with_reducible refine baa ?_ _) | (with_reducible refine bs ?_ (by first | exact Nat.le_refl _ | omega | (simp; omega)) _) | (with_reducible refine bt ?_ (by assumption)))))).mono ?_
        rintro e w3 ⟨rfl, hb3⟩
        obtain ⟨d3x0, d3x1, d3x2, d3x3⟩ := keep3 ⟨d2x0, d2x1, d2x2, d2x3⟩ hb3
        go_wp2_with fail
        refine (awake8 _ (Tab.below hT (by repeat (first | exact Below.refl _ _ | assumption | (with_reducible refine bdw ?_) | (with_reducible refine baa ?_ _) | (with_reducible refine bs ?_ (by first | exact Nat.le_refl _ | omega | (simp; omega)) _) | (with_reducible refine bt ?_ (by assumption))))) (Tab.below hL (by repeat (first | exact Below.refl _ _ | assumption | (with_reducible refine bdw ?_) | (with_reducible refine baa ?_ _) | (with_reducible refine bs ?_ (by first | exact Nat.le_refl _ | omega | (simp; omega)) _) | (with_reducible refine bt ?_ (by assumption)))))).mono ?_
        rintro e w4 ⟨rfl, hb4⟩
        obtain ⟨d4x0, d4x1, d4x2, d4x3⟩ := keep3 ⟨d3x0, d3x1, d3x2, d3x3⟩ hb4
        go_wp2_with fail
        go_ret
        exact ⟨rfl, bt (bt (bt hB hb2) hb3) hb4⟩
end Go.Proofs.YtemkngkaaabghaaDoor
