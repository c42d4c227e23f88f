/- Layer 19: FeastTells. -/
import Derived.Test.YtagmdglmflcegaaDoorW19r
import Derived.Test.YtagmdglmflcegaaDoorFeS
import Derived.Test.YtagmdglmflcegaaDoorFeMR
import Derived.Test.YtagmdglmflcegaaDoorEvT
namespace Go.Proofs.YtagmdglmflcegaaDoor
open Go.ChangeShapes Go.WideShapes Go.ChangeAt Go.RowKit Go.Lib Go.Sort Go.Shelf
set_option linter.unusedVariables false
set_option maxRecDepth 100000
set_option maxHeartbeats 4000000 in
theorem FeastTells_bigA (y p k : Int) (pa pb : Option Addr) (ca cb : Nat) (la lb : List (Int × Int)) (w : World) (hT : Tab w 3 kevCells) (hL : Tab w 2 lenCells) (hF : Tab w 0 Fe.cells) (HAw : Hid (∀ w : World, Tab w 3 kevCells → Tab w 2 lenCells → Tab w 0 Fe.cells → Calls Tryd.prog 12 #[] w fun e w' => e = .returned (.bool true) ∧ Below w.heap.size w w')) (a0 : 60 < la.length) :
    Calls Tryd.prog 3 #[.agg #[.int .i64 y, .int .i64 p, .int .i64 k, .slice pa la.length ca, .slice pb lb.length cb]] w fun e w' => e = .returned (.bool true) ∧ Below w.heap.size w w' := by
  have a1 : (60 : Int) < (la.length : Int) := by omega
  go_enter Tryd.func3, Tryd.ntmps3
  go_wp2_with fail
  refine settle (fun W => W.cell? ⟨w.heap.size, 0, none⟩ = some (.int .i64 y) ∧ W.cell? ⟨w.heap.size, 1, none⟩ = some (.int .i64 p) ∧ W.cell? ⟨w.heap.size, 2, none⟩ = some (.int .i64 k) ∧ W.cell? ⟨w.heap.size, 3, none⟩ = some (.slice pa la.length ca) ∧ W.cell? ⟨w.heap.size, 4, none⟩ = some (.slice pb lb.length cb) ∧ w.heap.size < W.heap.size ∧ Below w.heap.size w W) ⟨?_, ?_, ?_, ?_, ?_, ?_, ?_⟩ ?_
  · (first | (with_reducible assumption) | (simp [go_sem, *]; done) | assumption)
  · (first | (with_reducible assumption) | (simp [go_sem, *]; done) | assumption)
  · (first | (with_reducible assumption) | (simp [go_sem, *]; done) | assumption)
  · (first | (with_reducible assumption) | (simp [go_sem, *]; done) | assumption)
  · (first | (with_reducible assumption) | (simp [go_sem, *]; done) | assumption)
  · (first | assumption | (simp; done) | (simp; omega) | omega)
  · (repeat (first | exact Below.refl _ _ | assumption | (with_reducible refine bdrew ?_) | (with_reducible refine baa ?_ _) | (with_reducible refine bs ?_ (by first | exact Nat.le_refl _ | omega | (simp; done) | (simp; omega)) _) | (with_reducible refine bt ?_ (by assumption))))
  rintro W0 ⟨r0x0, r0x1, r0x2, r0x3, r0x4, rs0x0, hB0⟩
  refine wp_region_class (by kernel_rfl) (by kernel_rfl) (fun hall => ?_)
  repeat (first | go_big_quiet_skip | (go_big_quiet_want; first | (refine quiet_load1 _ _ _ rfl rfl ?_ ?_ ?_; (focus (intro _; simp; done)); (focus (first | assumption | omega | (simp; done) | (simp; omega))); apply Exists.intro; refine ⟨?_, ?_⟩; assumption; go_simp; go_big_quiet_on) | (refine quiet_load2 _ _ _ _ rfl rfl ?_ ?_ ?_ ?_; (focus (intro _; simp; done)); (focus (intro _; simp; done)); (focus (first | assumption | omega | (simp; done) | (simp; omega))); apply Exists.intro; apply Exists.intro; refine ⟨?_, ?_, ?_⟩; assumption; assumption; go_simp; go_big_quiet_on) | (refine quiet_load3 _ _ _ _ rfl rfl ?_ ?_ ?_ ?_; (focus (intro _; simp; done)); (focus (intro _; simp; done)); (focus (first | assumption | omega | (simp; done) | (simp; omega))); apply Exists.intro; apply Exists.intro; apply Exists.intro; refine ⟨?_, ?_, ?_, ?_⟩; assumption; assumption; assumption; go_simp; go_big_quiet_on) | (refine quiet_load4 _ _ _ _ rfl rfl ?_ ?_ ?_ ?_; (focus (intro _; simp; done)); (focus (intro _; simp; done)); (focus (first | assumption | omega | (simp; done) | (simp; omega))); apply Exists.intro; apply Exists.intro; apply Exists.intro; apply Exists.intro; refine ⟨?_, ?_, ?_, ?_, ?_⟩; assumption; assumption; assumption; assumption; go_simp; go_big_quiet_on) | (go_big_quiet_op; first | go_big_quiet_on | (apply Exists.intro; refine ⟨fun x hx => ?_, ?_⟩; (first | fail); go_big_quiet_on))))
  refine wpQuiet_nil ?_
  clear hall
  intro x1 hx1
  have hBx : Below w.heap.size w x1 := bt hB0 hx1
  go_wp2_with fail
  refine (HAw.out _ (Tab.below hT (by repeat (first | (with_reducible exact Below.refl _ _) | (with_reducible assumption) | (with_reducible refine bdrew ?_) | (with_reducible refine baa ?_ _) | (with_reducible refine bs ?_ (by first | exact Nat.le_refl _ | omega | (simp; done) | (simp; omega)) _) | (with_reducible refine bt ?_ (by with_reducible assumption))))) (Tab.below hL (by repeat (first | (with_reducible exact Below.refl _ _) | (with_reducible assumption) | (with_reducible refine bdrew ?_) | (with_reducible refine baa ?_ _) | (with_reducible refine bs ?_ (by first | exact Nat.le_refl _ | omega | (simp; done) | (simp; omega)) _) | (with_reducible refine bt ?_ (by with_reducible assumption))))) (Tab.below hF (by repeat (first | (with_reducible exact Below.refl _ _) | (with_reducible assumption) | (with_reducible refine bdrew ?_) | (with_reducible refine baa ?_ _) | (with_reducible refine bs ?_ (by first | exact Nat.le_refl _ | omega | (simp; done) | (simp; omega)) _) | (with_reducible refine bt ?_ (by with_reducible assumption)))))).mono ?_
  rintro e w9 ⟨rfl, hb9⟩
  go_wp2_with fail
  go_ret
  exact ⟨rfl, bt hBx hb9⟩
set_option maxHeartbeats 4000000 in
theorem FeastTells_bigB (y p k : Int) (pa pb : Option Addr) (ca cb : Nat) (la lb : List (Int × Int)) (w : World) (hT : Tab w 3 kevCells) (hL : Tab w 2 lenCells) (hF : Tab w 0 Fe.cells) (HAw : Hid (∀ w : World, Tab w 3 kevCells → Tab w 2 lenCells → Tab w 0 Fe.cells → Calls Tryd.prog 12 #[] w fun e w' => e = .returned (.bool true) ∧ Below w.heap.size w w')) (a0 : ¬ 60 < la.length) (b0 : 60 < lb.length) :
    Calls Tryd.prog 3 #[.agg #[.int .i64 y, .int .i64 p, .int .i64 k, .slice pa la.length ca, .slice pb lb.length cb]] w fun e w' => e = .returned (.bool true) ∧ Below w.heap.size w w' := by
  have a1 : ¬ (60 : Int) < (la.length : Int) := by omega
  have a2 : decide ((60 : Int) < (la.length : Int)) = false := decide_eq_false (by omega)
  have a3 : decide (60 < la.length) = false := decide_eq_false (by omega)
  have b1 : (60 : Int) < (lb.length : Int) := by omega
  go_enter Tryd.func3, Tryd.ntmps3
  go_wp2_with fail
  refine settle (fun W => W.cell? ⟨w.heap.size, 0, none⟩ = some (.int .i64 y) ∧ W.cell? ⟨w.heap.size, 1, none⟩ = some (.int .i64 p) ∧ W.cell? ⟨w.heap.size, 2, none⟩ = some (.int .i64 k) ∧ W.cell? ⟨w.heap.size, 3, none⟩ = some (.slice pa la.length ca) ∧ W.cell? ⟨w.heap.size, 4, none⟩ = some (.slice pb lb.length cb) ∧ w.heap.size < W.heap.size ∧ Below w.heap.size w W) ⟨?_, ?_, ?_, ?_, ?_, ?_, ?_⟩ ?_
  · (first | (with_reducible assumption) | (simp [go_sem, *]; done) | assumption)
  · (first | (with_reducible assumption) | (simp [go_sem, *]; done) | assumption)
  · (first | (with_reducible assumption) | (simp [go_sem, *]; done) | assumption)
  · (first | (with_reducible assumption) | (simp [go_sem, *]; done) | assumption)
  · (first | (with_reducible assumption) | (simp [go_sem, *]; done) | assumption)
  · (first | assumption | (simp; done) | (simp; omega) | omega)
  · (repeat (first | exact Below.refl _ _ | assumption | (with_reducible refine bdrew ?_) | (with_reducible refine baa ?_ _) | (with_reducible refine bs ?_ (by first | exact Nat.le_refl _ | omega | (simp; done) | (simp; omega)) _) | (with_reducible refine bt ?_ (by assumption))))
  rintro W0 ⟨r0x0, r0x1, r0x2, r0x3, r0x4, rs0x0, hB0⟩
  refine wp_region_class (by kernel_rfl) (by kernel_rfl) (fun hall => ?_)
  repeat (first | go_big_quiet_skip | (go_big_quiet_want; first | (refine quiet_load1 _ _ _ rfl rfl ?_ ?_ ?_; (focus (intro _; simp; done)); (focus (first | assumption | omega | (simp; done) | (simp; omega))); apply Exists.intro; refine ⟨?_, ?_⟩; assumption; go_simp; go_big_quiet_on) | (refine quiet_load2 _ _ _ _ rfl rfl ?_ ?_ ?_ ?_; (focus (intro _; simp; done)); (focus (intro _; simp; done)); (focus (first | assumption | omega | (simp; done) | (simp; omega))); apply Exists.intro; apply Exists.intro; refine ⟨?_, ?_, ?_⟩; assumption; assumption; go_simp; go_big_quiet_on) | (refine quiet_load3 _ _ _ _ rfl rfl ?_ ?_ ?_ ?_; (focus (intro _; simp; done)); (focus (intro _; simp; done)); (focus (first | assumption | omega | (simp; done) | (simp; omega))); apply Exists.intro; apply Exists.intro; apply Exists.intro; refine ⟨?_, ?_, ?_, ?_⟩; assumption; assumption; assumption; go_simp; go_big_quiet_on) | (refine quiet_load4 _ _ _ _ rfl rfl ?_ ?_ ?_ ?_; (focus (intro _; simp; done)); (focus (intro _; simp; done)); (focus (first | assumption | omega | (simp; done) | (simp; omega))); apply Exists.intro; apply Exists.intro; apply Exists.intro; apply Exists.intro; refine ⟨?_, ?_, ?_, ?_, ?_⟩; assumption; assumption; assumption; assumption; go_simp; go_big_quiet_on) | (go_big_quiet_op; first | go_big_quiet_on | (apply Exists.intro; refine ⟨fun x hx => ?_, ?_⟩; (first | fail); go_big_quiet_on))))
  refine wpQuiet_nil ?_
  clear hall
  intro x1 hx1
  have hBx : Below w.heap.size w x1 := bt hB0 hx1
  go_wp2_with fail
  refine (HAw.out _ (Tab.below hT (by repeat (first | (with_reducible exact Below.refl _ _) | (with_reducible assumption) | (with_reducible refine bdrew ?_) | (with_reducible refine baa ?_ _) | (with_reducible refine bs ?_ (by first | exact Nat.le_refl _ | omega | (simp; done) | (simp; omega)) _) | (with_reducible refine bt ?_ (by with_reducible assumption))))) (Tab.below hL (by repeat (first | (with_reducible exact Below.refl _ _) | (with_reducible assumption) | (with_reducible refine bdrew ?_) | (with_reducible refine baa ?_ _) | (with_reducible refine bs ?_ (by first | exact Nat.le_refl _ | omega | (simp; done) | (simp; omega)) _) | (with_reducible refine bt ?_ (by with_reducible assumption))))) (Tab.below hF (by repeat (first | (with_reducible exact Below.refl _ _) | (with_reducible assumption) | (with_reducible refine bdrew ?_) | (with_reducible refine baa ?_ _) | (with_reducible refine bs ?_ (by first | exact Nat.le_refl _ | omega | (simp; done) | (simp; omega)) _) | (with_reducible refine bt ?_ (by with_reducible assumption)))))).mono ?_
  rintro e w9 ⟨rfl, hb9⟩
  go_wp2_with fail
  go_ret
  exact ⟨rfl, bt hBx hb9⟩
set_option maxHeartbeats 8000000 in
theorem FeastTells_go (y p k : Int) (pa pb : Option Addr) (ca cb : Nat) (la lb : List (Int × Int)) (w : World) (hT : Tab w 3 kevCells) (hL : Tab w 2 lenCells) (hF : Tab w 0 Fe.cells) (HAw : Hid (∀ w : World, Tab w 3 kevCells → Tab w 2 lenCells → Tab w 0 Fe.cells → Calls Tryd.prog 12 #[] w fun e w' => e = .returned (.bool true) ∧ Below w.heap.size w w')) (a0 : ¬ 60 < la.length) (b0 : ¬ 60 < lb.length) (er : Int) (l : List (Int × Int)) (HL : Hid (l.length ≤ 100))
    (ha : Hid (Ev.Row w (.slice pa la.length ca) la)) (hb : Hid (Ev.Row w (.slice pb lb.length cb) lb))
    (HA : Hid (∀ w : World, Tab w 3 kevCells → Tab w 2 lenCells → Tab w 0 Fe.cells → Calls Tryd.prog 13 #[.int .i64 y, .int .i64 p] w fun e w' => ∃ v, e = .returned (.tuple #[v, .int .i64 er]) ∧ Ev.Row w' v l ∧ Below w.heap.size w w'))
    (HB : Hid (∀ w : World, Calls Tryd.prog 14 #[.int .i64 y, .int .i64 p] w fun e w' => ∃ v, e = .returned (.tuple #[v, .int .i64 er]) ∧ Ev.Row w' v l ∧ Below w.heap.size w w')) :
    Calls Tryd.prog 3 #[.agg #[.int .i64 y, .int .i64 p, .int .i64 k, .slice pa la.length ca, .slice pb lb.length cb]] w fun e w' => e = .returned (.bool true) ∧ Below w.heap.size w w' := by
  have HR1 := Lib.hid (fun w => feast_Rest k w)
  have HR2 := Lib.hid (fun w => ref19_Rest k w)
  have HSa : Hid (∀ w : World, ∀ v c l', l'.length ≤ 100 → Ev.Row w v l' → Ev.Row w c l' → Calls Tryd.prog 15 #[v, c] w fun e w' => e = .returned (.bool true) ∧ Below w.heap.size w w') := Lib.hid (fun w v c l' hl' h h' => by
    have q := ref19_Same v c l' l' w h h' (by omega)
    rw [decide_eq_true (rfl : l' = l')] at q
    exact q)
  have HF1 := Lib.hid (fun w v h => feast_Sort v la w h (by omega))
  have HF2 := Lib.hid (fun w v h => ref19_Sort v la w h (by omega))
  have HSL : Hid ((Ev.sort la).length ≤ 100) := Lib.hid (by have := (Ev.sort_perm la).length_eq; omega)
  have HM1 := Lib.hid (fun w v c h h' => feast_Same v c la lb w h h' (by omega) (by omega))
  have HM2 := Lib.hid (fun w v c h h' => ref19_Same v c la lb w h h' (by omega))
  generalize decide (la = lb) = dv at *
  generalize Fe.restV k = rv at *
  have a1 : ¬ (60 : Int) < (la.length : Int) := by omega
  have a2 : decide ((60 : Int) < (la.length : Int)) = false := decide_eq_false (by omega)
  have a3 : decide (60 < la.length) = false := decide_eq_false (by omega)
  have b1 : ¬ (60 : Int) < (lb.length : Int) := by omega
  have b2 : decide ((60 : Int) < (lb.length : Int)) = false := decide_eq_false (by omega)
  have b3 : decide (60 < lb.length) = false := decide_eq_false (by omega)
  go_enter Tryd.func3, Tryd.ntmps3
  go_wp2_with fail
  refine settle (fun W => W.cell? ⟨w.heap.size, 0, none⟩ = some (.int .i64 y) ∧ W.cell? ⟨w.heap.size, 1, none⟩ = some (.int .i64 p) ∧ W.cell? ⟨w.heap.size, 2, none⟩ = some (.int .i64 k) ∧ W.cell? ⟨w.heap.size, 3, none⟩ = some (.slice pa la.length ca) ∧ W.cell? ⟨w.heap.size, 4, none⟩ = some (.slice pb lb.length cb) ∧ w.heap.size < W.heap.size ∧ Below w.heap.size w W) ⟨?_, ?_, ?_, ?_, ?_, ?_, ?_⟩ ?_
  · (first | (with_reducible assumption) | (simp [go_sem, *]; done) | assumption)
  · (first | (with_reducible assumption) | (simp [go_sem, *]; done) | assumption)
  · (first | (with_reducible assumption) | (simp [go_sem, *]; done) | assumption)
  · (first | (with_reducible assumption) | (simp [go_sem, *]; done) | assumption)
  · (first | (with_reducible assumption) | (simp [go_sem, *]; done) | assumption)
  · (first | assumption | (simp; done) | (simp; omega) | omega)
  · (repeat (first | exact Below.refl _ _ | assumption | (with_reducible refine bdrew ?_) | (with_reducible refine baa ?_ _) | (with_reducible refine bs ?_ (by first | exact Nat.le_refl _ | omega | (simp; done) | (simp; omega)) _) | (with_reducible refine bt ?_ (by assumption))))
  rintro W0 ⟨r0x0, r0x1, r0x2, r0x3, r0x4, rs0x0, hB0⟩
  refine wp_region_class (by kernel_rfl) (by kernel_rfl) (fun hall => ?_)
  repeat (first | go_big_quiet_skip | (go_big_quiet_want; first | (refine quiet_load1 _ _ _ rfl rfl ?_ ?_ ?_; (focus (intro _; simp; done)); (focus (first | assumption | omega | (simp; done) | (simp; omega))); apply Exists.intro; refine ⟨?_, ?_⟩; assumption; go_simp; go_big_quiet_on) | (refine quiet_load2 _ _ _ _ rfl rfl ?_ ?_ ?_ ?_; (focus (intro _; simp; done)); (focus (intro _; simp; done)); (focus (first | assumption | omega | (simp; done) | (simp; omega))); apply Exists.intro; apply Exists.intro; refine ⟨?_, ?_, ?_⟩; assumption; assumption; go_simp; go_big_quiet_on) | (refine quiet_load3 _ _ _ _ rfl rfl ?_ ?_ ?_ ?_; (focus (intro _; simp; done)); (focus (intro _; simp; done)); (focus (first | assumption | omega | (simp; done) | (simp; omega))); apply Exists.intro; apply Exists.intro; apply Exists.intro; refine ⟨?_, ?_, ?_, ?_⟩; assumption; assumption; assumption; go_simp; go_big_quiet_on) | (refine quiet_load4 _ _ _ _ rfl rfl ?_ ?_ ?_ ?_; (focus (intro _; simp; done)); (focus (intro _; simp; done)); (focus (first | assumption | omega | (simp; done) | (simp; omega))); apply Exists.intro; apply Exists.intro; apply Exists.intro; apply Exists.intro; refine ⟨?_, ?_, ?_, ?_, ?_⟩; assumption; assumption; assumption; assumption; go_simp; go_big_quiet_on) | (go_big_quiet_op; first | go_big_quiet_on | (apply Exists.intro; refine ⟨fun x hx => ?_, ?_⟩; (first | fail); go_big_quiet_on))))
  refine wpQuiet_nil ?_
  clear hall
  intro x1 hx1
  have hBx : Below w.heap.size w x1 := bt hB0 hx1
  go_wp2_with fail
  refine (HA.out _ (Tab.below hT (by repeat (first | (with_reducible exact Below.refl _ _) | (with_reducible assumption) | (with_reducible refine bdrew ?_) | (with_reducible refine baa ?_ _) | (with_reducible refine bs ?_ (by first | exact Nat.le_refl _ | omega | (simp; done) | (simp; omega)) _) | (with_reducible refine bt ?_ (by with_reducible assumption))))) (Tab.below hL (by repeat (first | (with_reducible exact Below.refl _ _) | (with_reducible assumption) | (with_reducible refine bdrew ?_) | (with_reducible refine baa ?_ _) | (with_reducible refine bs ?_ (by first | exact Nat.le_refl _ | omega | (simp; done) | (simp; omega)) _) | (with_reducible refine bt ?_ (by with_reducible assumption))))) (Tab.below hF (by repeat (first | (with_reducible exact Below.refl _ _) | (with_reducible assumption) | (with_reducible refine bdrew ?_) | (with_reducible refine baa ?_ _) | (with_reducible refine bs ?_ (by first | exact Nat.le_refl _ | omega | (simp; done) | (simp; omega)) _) | (with_reducible refine bt ?_ (by with_reducible assumption)))))).mono ?_
  rintro e w1 ⟨v1, rfl, hr1, hb1⟩
  have HRow1 := Lib.hid hr1
  obtain ⟨p1, c1, hv1⟩ := hr1.len
  have HV1 := Lib.hid hv1
  have hB1 : Below w.heap.size w w1 := bt hBx hb1
  clear hr1 hv1
  go_wp2_with fail
  refine (HB.out _).mono ?_
  rintro e w2 ⟨v2, rfl, hr2, hb2⟩
  have HRow2 := Lib.hid hr2
  have HRow1b := Lib.hid (HRow1.out.below hb2)
  have hB2 : Below w.heap.size w w2 := bt hB1 hb2
  clear hr2
  go_wp2_with fail
  refine (HAw.out _ (Tab.below hT (by repeat (first | (with_reducible exact Below.refl _ _) | (with_reducible assumption) | (with_reducible refine bdrew ?_) | (with_reducible refine baa ?_ _) | (with_reducible refine bs ?_ (by first | exact Nat.le_refl _ | omega | (simp; done) | (simp; omega)) _) | (with_reducible refine bt ?_ (by with_reducible assumption))))) (Tab.below hL (by repeat (first | (with_reducible exact Below.refl _ _) | (with_reducible assumption) | (with_reducible refine bdrew ?_) | (with_reducible refine baa ?_ _) | (with_reducible refine bs ?_ (by first | exact Nat.le_refl _ | omega | (simp; done) | (simp; omega)) _) | (with_reducible refine bt ?_ (by with_reducible assumption))))) (Tab.below hF (by repeat (first | (with_reducible exact Below.refl _ _) | (with_reducible assumption) | (with_reducible refine bdrew ?_) | (with_reducible refine baa ?_ _) | (with_reducible refine bs ?_ (by first | exact Nat.le_refl _ | omega | (simp; done) | (simp; omega)) _) | (with_reducible refine bt ?_ (by with_reducible assumption)))))).mono ?_
  rintro e w3 ⟨rfl, hb3⟩
  have hB3 : Below w.heap.size w w3 := bt hB2 hb3
  have HS1 := Lib.hid (HSa.out w3 v1 v2 l HL.out (HRow1b.out.below hb3) (HRow2.out.below hb3))
  go_wp2_with fail
  refine HS1.out.mono ?_
  rintro e w4 ⟨rfl, hb4⟩
  have hB4 : Below w.heap.size w w4 := bt hB3 hb4
  go_wp2_with fail
  refine (HR1.out _).mono ?_
  rintro e w' ⟨rfl, rfl⟩
  go_wp2_with fail
  refine (HR2.out _).mono ?_
  rintro e w' ⟨rfl, rfl⟩
  go_wp2_with fail
  have HX1 := Lib.hid (HF1.out w4 _ (ha.out.below hB4))
  refine HX1.out.mono ?_
  rintro e w5 ⟨v5, rfl, ho5, hb5⟩
  have hB5 : Below w.heap.size w w5 := bt hB4 hb5
  have HX2 := Lib.hid (HF2.out w5 _ (ha.out.below hB5))
  have HO5 := Lib.hid ho5.row
  clear ho5
  go_wp2_with fail
  refine HX2.out.mono ?_
  rintro e w6 ⟨v6, rfl, ho6, hb6⟩
  have hB6 : Below w.heap.size w w6 := bt hB5 hb6
  have HS2 := Lib.hid (HSa.out w6 v5 v6 _ HSL.out (HO5.out.below hb6) ho6.row)
  clear ho6
  go_wp2_with fail
  refine HS2.out.mono ?_
  rintro e w7 ⟨rfl, hb7⟩
  have hB7 : Below w.heap.size w w7 := bt hB6 hb7
  have HY1 := Lib.hid (HM1.out w7 _ _ (ha.out.below hB7) (hb.out.below hB7))
  go_wp2_with fail
  refine HY1.out.mono ?_
  rintro e w8 ⟨rfl, hb8⟩
  have hB8 : Below w.heap.size w w8 := bt hB7 hb8
  have HY2 := Lib.hid (HM2.out w8 _ _ (ha.out.below hB8) (hb.out.below hB8))
  go_wp2_with fail
  refine HY2.out.mono ?_
  rintro e w9 ⟨rfl, hb9⟩
  go_wp2_with fail
  go_ret
  exact ⟨rfl, bt hB8 hb9⟩
theorem FeastTells_walk (y p k : Int) (va vb : Value) (la lb : List (Int × Int)) (hy : I64 y) (w : World) (ha : Ev.Row w va la) (hb : Ev.Row w vb lb) (hT : Tab w 3 kevCells) (hL : Tab w 2 lenCells) (hF : Tab w 0 Fe.cells) :
    Calls Tryd.prog 3 #[.agg #[.int .i64 y, .int .i64 p, .int .i64 k, va, vb]] w fun e w' => e = .returned (.bool true) ∧ Below w.heap.size w w' := by
  have hAw := Lib.hid (fun w hT hL hF => awake19 w hT hL hF)
  obtain ⟨pa, ca, rfl⟩ := ha.len
  obtain ⟨pb, cb, rfl⟩ := hb.len
  by_cases a0 : 60 < la.length
  · exact FeastTells_bigA y p k pa pb ca cb la lb w hT hL hF hAw a0
  by_cases b0 : 60 < lb.length
  · exact FeastTells_bigB y p k pa pb ca cb la lb w hT hL hF hAw a0 b0
  by_cases h : (1 ≤ y ∧ y ≤ 9999) ∧ (p = 0 ∨ p = 1)
  · obtain ⟨i, hi⟩ := Yr.is_some y h.1.1 h.1.2
    have key : ∀ q : Bool, (if q then (1 : Int) else 0) = p → Calls Tryd.prog 3 #[.agg #[.int .i64 y, .int .i64 p, .int .i64 k, .slice pa la.length ca, .slice pb lb.length cb]] w fun e w' => e = .returned (.bool true) ∧ Below w.heap.size w w' := fun q hq => by
      have hlen : (Fe.feastL i q).length ≤ 60 := by
        have h2 := List.all_eq_true.1 (List.all_eq_true.1 (show ((List.range 14).all fun i => [false, true].all fun p => decide ((Fe.feastL i p).length ≤ 60)) = true by decide +kernel) i (List.mem_range.2 hi.2.2.1)) q (by cases q <;> simp)
        simpa using h2
      refine FeastTells_go y p k pa pb ca cb la lb w hT hL hF hAw a0 b0 0 ((Fe.feastL i q).map (Ev.sh (Cal.first y))) (Lib.hid (by rw [List.length_map]; omega)) (Lib.hid ha) (Lib.hid hb) (Lib.hid (fun w hT hL hF => ?_)) (Lib.hid (fun w => ?_))
      · rw [← hq]
        refine (feast_Of_at y i q w hi hT hL hF).mono ?_
        rintro e w' ⟨v, rfl, ho, hb⟩
        exact ⟨v, rfl, ho.row, hb⟩
      · rw [← hq]
        refine (ref19_Of_at y i q w hi).mono ?_
        rintro e w' ⟨v, rfl, ho, hb⟩
        exact ⟨v, rfl, ho.row, hb⟩
    rcases h.2 with rfl | rfl
    · exact key false rfl
    · exact key true rfl
  · obtain ⟨er, h1, h2⟩ := feast_both_no y p hy h
    refine FeastTells_go y p k pa pb ca cb la lb w hT hL hF hAw a0 b0 er [] (Lib.hid (by simp)) (Lib.hid ha) (Lib.hid hb) (Lib.hid (fun w _ _ _ => ?_)) (Lib.hid (fun w => ?_))
    · refine (h1 w).mono ?_
      rintro e w' ⟨rfl, rfl⟩
      exact ⟨_, rfl, .inl ⟨rfl, rfl⟩, Below.refl _ _⟩
    · refine (h2 w).mono ?_
      rintro e w' ⟨rfl, rfl⟩
      exact ⟨_, rfl, .inl ⟨rfl, rfl⟩, Below.refl _ _⟩
end Go.Proofs.YtagmdglmflcegaaDoor
