/- Layer 16: AddTells. -/
import Derived.Test.YtafenpgafmdenaaGreatDoorRef16
import Derived.RegionTactic
namespace Go.Proofs.YtafenpgafmdenaaGreatDoor
open Go.ChangeShapes Go.WideShapes Go.ChangeAt Go.RowKit
set_option linter.unusedVariables false
set_option maxRecDepth 100000
set_option maxHeartbeats 4000000 in
theorem AddTells_yes (y n : Int) (l : Bool) (d a b c f m : Int) (ry rn : Int) (rl : Bool) (rd er : Int) (w : World) (hT : Tab w 8 kevCells) (hL : Tab w 6 lenCells) (HA : Hid (∀ w : World, Tab w 8 kevCells → Tab w 6 lenCells → Calls Tryz.prog 27 #[.agg #[.int .i64 (y), .int .i64 (n), .bool (l), .int .i64 (d)], .agg #[.int .i64 (a), .int .i64 (b), .int .i64 (c), .int .i64 (f)], .int .i64 m] w fun e w' => e = .returned (.tuple #[.agg #[.int .i64 (ry), .int .i64 (rn), .bool (rl), .int .i64 (rd)], .int .i64 (er)]) ∧ Below w.heap.size w w')) (HB : Hid (∀ w : World, Calls Tryz.prog 28 #[.agg #[.int .i64 (y), .int .i64 (n), .bool (l), .int .i64 (d)], .agg #[.int .i64 (a), .int .i64 (b), .int .i64 (c), .int .i64 (f)], .int .i64 m] w fun e w' => e = .returned (.tuple #[.agg #[.int .i64 (ry), .int .i64 (rn), .bool (rl), .int .i64 (rd)], .int .i64 (er)]) ∧ Below w.heap.size w w')) (HP : Hid (∀ w : World, Calls Tryz.prog 30 #[.agg #[.int .i64 (a), .int .i64 (b), .int .i64 (c), .int .i64 (f)]] w fun e w' => e = .returned (.bool true) ∧ Below w.heap.size w w')) (HQ : Hid (∀ w : World, Calls Tryz.prog 31 #[.agg #[.int .i64 (a), .int .i64 (b), .int .i64 (c), .int .i64 (f)]] w fun e w' => e = .returned (.bool true) ∧ Below w.heap.size w w')) (HMa : Hid (∀ w : World, Calls Tryz.prog 32 #[.agg #[.int .i64 (a), .int .i64 (b), .int .i64 (c), .int .i64 (f)]] w fun e w' => e = .returned (.agg #[.int .i64 (-a), .int .i64 (-b), .int .i64 (-c), .int .i64 (-f)]) ∧ Below w.heap.size w w')) (HMb : Hid (∀ w : World, Calls Tryz.prog 33 #[.agg #[.int .i64 (a), .int .i64 (b), .int .i64 (c), .int .i64 (f)]] w fun e w' => e = .returned (.agg #[.int .i64 (-a), .int .i64 (-b), .int .i64 (-c), .int .i64 (-f)]) ∧ Below w.heap.size w w')) :
    Calls Tryz.prog 6 #[.agg #[.int .i64 (y), .int .i64 (n), .bool (l), .int .i64 (d)], .agg #[.int .i64 (a), .int .i64 (b), .int .i64 (c), .int .i64 (f)], .int .i64 m] w fun e w' => e = .returned (.bool true) ∧ Below w.heap.size w w' := by
  go_enter Tryz.func6, Tryz.ntmps6
  go_wp2_with fail
  refine (HA.out _ (Tab.below hT (by repeat (first | (with_reducible exact Below.refl _ _) | (with_reducible assumption) | (with_reducible refine bdrew ?_) | (with_reducible refine baa ?_ _) | (with_reducible refine bs ?_ (by first | exact Nat.le_refl _ | omega | (simp; done) | (simp; omega)) _) | (with_reducible refine bt ?_ (by with_reducible assumption))))) (Tab.below hL (by repeat (first | (with_reducible exact Below.refl _ _) | (with_reducible assumption) | (with_reducible refine bdrew ?_) | (with_reducible refine baa ?_ _) | (with_reducible refine bs ?_ (by first | exact Nat.le_refl _ | omega | (simp; done) | (simp; omega)) _) | (with_reducible refine bt ?_ (by with_reducible assumption)))))).mono ?_
  rintro e w1 ⟨rfl, hb1⟩
  obtain ⟨hc1, hf1⟩ := bcell hb1
  have hz1 := hb1.size
  try simp at hz1
  have hs1x0 : w.heap.size < w1.heap.size := by omega
  have hs1x1 : (w.heap.size + 1) < w1.heap.size := by omega
  have g1x0 : w1.cell? ⟨w.heap.size, 0, none⟩ = some (.int .i64 (y)) := (hc1 _ _ (by first | omega | (simp; done) | (simp; omega))).trans (by first | (with_reducible assumption) | (simp [go_sem]; done) | (simp [go_sem, *]; done) | assumption)
  have g1x1 : w1.cell? ⟨w.heap.size, 1, none⟩ = some (.int .i64 (n)) := (hc1 _ _ (by first | omega | (simp; done) | (simp; omega))).trans (by first | (with_reducible assumption) | (simp [go_sem]; done) | (simp [go_sem, *]; done) | assumption)
  have g1x2 : w1.cell? ⟨w.heap.size, 2, none⟩ = some (.bool (l)) := (hc1 _ _ (by first | omega | (simp; done) | (simp; omega))).trans (by first | (with_reducible assumption) | (simp [go_sem]; done) | (simp [go_sem, *]; done) | assumption)
  have g1x3 : w1.cell? ⟨w.heap.size, 3, none⟩ = some (.int .i64 (d)) := (hc1 _ _ (by first | omega | (simp; done) | (simp; omega))).trans (by first | (with_reducible assumption) | (simp [go_sem]; done) | (simp [go_sem, *]; done) | assumption)
  have g1x4 : w1.cell? ⟨(w.heap.size + 1), 0, none⟩ = some (.int .i64 (a)) := (hc1 _ _ (by first | omega | (simp; done) | (simp; omega))).trans (by first | (with_reducible assumption) | (simp [go_sem]; done) | (simp [go_sem, *]; done) | assumption)
  have g1x5 : w1.cell? ⟨(w.heap.size + 1), 1, none⟩ = some (.int .i64 (b)) := (hc1 _ _ (by first | omega | (simp; done) | (simp; omega))).trans (by first | (with_reducible assumption) | (simp [go_sem]; done) | (simp [go_sem, *]; done) | assumption)
  have g1x6 : w1.cell? ⟨(w.heap.size + 1), 2, none⟩ = some (.int .i64 (c)) := (hc1 _ _ (by first | omega | (simp; done) | (simp; omega))).trans (by first | (with_reducible assumption) | (simp [go_sem]; done) | (simp [go_sem, *]; done) | assumption)
  have g1x7 : w1.cell? ⟨(w.heap.size + 1), 3, none⟩ = some (.int .i64 (f)) := (hc1 _ _ (by first | omega | (simp; done) | (simp; omega))).trans (by first | (with_reducible assumption) | (simp [go_sem]; done) | (simp [go_sem, *]; done) | assumption)
  go_wp2_with fail
  refine (HB.out _).mono ?_
  rintro e w2 ⟨rfl, hb2⟩
  obtain ⟨hc2, hf2⟩ := bcell hb2
  have hz2 := hb2.size
  try simp at hz2
  have hl2w1 : w1.heap.size < w2.heap.size := by omega
  have hm2w1 : w1.heap.size ≤ w2.heap.size := by omega
  have hs2x0 : w.heap.size < w2.heap.size := by omega
  have hs2x1 : (w.heap.size + 1) < w2.heap.size := by omega
  have g2x0 : w2.cell? ⟨w.heap.size, 0, none⟩ = some (.int .i64 (y)) := (hc2 _ _ (by first | omega | (simp; done) | (simp; omega))).trans (by first | (with_reducible assumption) | (simp [go_sem]; done) | (simp [go_sem, *]; done) | assumption)
  have g2x1 : w2.cell? ⟨w.heap.size, 1, none⟩ = some (.int .i64 (n)) := (hc2 _ _ (by first | omega | (simp; done) | (simp; omega))).trans (by first | (with_reducible assumption) | (simp [go_sem]; done) | (simp [go_sem, *]; done) | assumption)
  have g2x2 : w2.cell? ⟨w.heap.size, 2, none⟩ = some (.bool (l)) := (hc2 _ _ (by first | omega | (simp; done) | (simp; omega))).trans (by first | (with_reducible assumption) | (simp [go_sem]; done) | (simp [go_sem, *]; done) | assumption)
  have g2x3 : w2.cell? ⟨w.heap.size, 3, none⟩ = some (.int .i64 (d)) := (hc2 _ _ (by first | omega | (simp; done) | (simp; omega))).trans (by first | (with_reducible assumption) | (simp [go_sem]; done) | (simp [go_sem, *]; done) | assumption)
  have g2x4 : w2.cell? ⟨(w.heap.size + 1), 0, none⟩ = some (.int .i64 (a)) := (hc2 _ _ (by first | omega | (simp; done) | (simp; omega))).trans (by first | (with_reducible assumption) | (simp [go_sem]; done) | (simp [go_sem, *]; done) | assumption)
  have g2x5 : w2.cell? ⟨(w.heap.size + 1), 1, none⟩ = some (.int .i64 (b)) := (hc2 _ _ (by first | omega | (simp; done) | (simp; omega))).trans (by first | (with_reducible assumption) | (simp [go_sem]; done) | (simp [go_sem, *]; done) | assumption)
  have g2x6 : w2.cell? ⟨(w.heap.size + 1), 2, none⟩ = some (.int .i64 (c)) := (hc2 _ _ (by first | omega | (simp; done) | (simp; omega))).trans (by first | (with_reducible assumption) | (simp [go_sem]; done) | (simp [go_sem, *]; done) | assumption)
  have g2x7 : w2.cell? ⟨(w.heap.size + 1), 3, none⟩ = some (.int .i64 (f)) := (hc2 _ _ (by first | omega | (simp; done) | (simp; omega))).trans (by first | (with_reducible assumption) | (simp [go_sem]; done) | (simp [go_sem, *]; done) | assumption)
  have g2x8 : w2.cell? ⟨w1.heap.size, 0, none⟩ = some (.int .i64 (ry)) := (hc2 _ _ (by first | omega | (simp; done) | (simp; omega))).trans (by first | (with_reducible assumption) | (simp [go_sem]; done) | (simp [go_sem, *]; done) | assumption)
  have g2x9 : w2.cell? ⟨w1.heap.size, 1, none⟩ = some (.int .i64 (rn)) := (hc2 _ _ (by first | omega | (simp; done) | (simp; omega))).trans (by first | (with_reducible assumption) | (simp [go_sem]; done) | (simp [go_sem, *]; done) | assumption)
  have g2x10 : w2.cell? ⟨w1.heap.size, 2, none⟩ = some (.bool (rl)) := (hc2 _ _ (by first | omega | (simp; done) | (simp; omega))).trans (by first | (with_reducible assumption) | (simp [go_sem]; done) | (simp [go_sem, *]; done) | assumption)
  have g2x11 : w2.cell? ⟨w1.heap.size, 3, none⟩ = some (.int .i64 (rd)) := (hc2 _ _ (by first | omega | (simp; done) | (simp; omega))).trans (by first | (with_reducible assumption) | (simp [go_sem]; done) | (simp [go_sem, *]; done) | assumption)
  go_wp2_with fail
  refine settle (fun W => W.cell? ⟨w.heap.size, 0, none⟩ = some (.int .i64 (y)) ∧ W.cell? ⟨w.heap.size, 1, none⟩ = some (.int .i64 (n)) ∧ W.cell? ⟨w.heap.size, 2, none⟩ = some (.bool (l)) ∧ W.cell? ⟨w.heap.size, 3, none⟩ = some (.int .i64 (d)) ∧ W.cell? ⟨(w.heap.size + 1), 0, none⟩ = some (.int .i64 (a)) ∧ W.cell? ⟨(w.heap.size + 1), 1, none⟩ = some (.int .i64 (b)) ∧ W.cell? ⟨(w.heap.size + 1), 2, none⟩ = some (.int .i64 (c)) ∧ W.cell? ⟨(w.heap.size + 1), 3, none⟩ = some (.int .i64 (f)) ∧ W.cell? ⟨w1.heap.size, 0, none⟩ = some (.int .i64 (ry)) ∧ W.cell? ⟨w1.heap.size, 1, none⟩ = some (.int .i64 (rn)) ∧ W.cell? ⟨w1.heap.size, 2, none⟩ = some (.bool (rl)) ∧ W.cell? ⟨w1.heap.size, 3, none⟩ = some (.int .i64 (rd)) ∧ W.cell? ⟨w2.heap.size, 0, none⟩ = some (.int .i64 (ry)) ∧ W.cell? ⟨w2.heap.size, 1, none⟩ = some (.int .i64 (rn)) ∧ W.cell? ⟨w2.heap.size, 2, none⟩ = some (.bool (rl)) ∧ W.cell? ⟨w2.heap.size, 3, none⟩ = some (.int .i64 (rd)) ∧ w.heap.size < W.heap.size ∧ (w.heap.size + 1) < W.heap.size ∧ w1.heap.size < W.heap.size ∧ w2.heap.size < W.heap.size ∧ Below w.heap.size w W ∧ Tab W 8 kevCells ∧ Tab W 6 lenCells) ⟨?_, ?_, ?_, ?_, ?_, ?_, ?_, ?_, ?_, ?_, ?_, ?_, ?_, ?_, ?_, ?_, ?_, ?_, ?_, ?_, ?_, ?_, ?_⟩ ?_
  · (first | (with_reducible assumption) | (simp [go_sem, *]; done) | assumption)
  · (first | (with_reducible assumption) | (simp [go_sem, *]; done) | assumption)
  · (first | (with_reducible assumption) | (simp [go_sem, *]; done) | assumption)
  · (first | (with_reducible assumption) | (simp [go_sem, *]; done) | assumption)
  · (first | (with_reducible assumption) | (simp [go_sem, *]; done) | assumption)
  · (first | (with_reducible assumption) | (simp [go_sem, *]; done) | assumption)
  · (first | (with_reducible assumption) | (simp [go_sem, *]; done) | assumption)
  · (first | (with_reducible assumption) | (simp [go_sem, *]; done) | assumption)
  · (first | (with_reducible assumption) | (simp [go_sem, *]; done) | assumption)
  · (first | (with_reducible assumption) | (simp [go_sem, *]; done) | assumption)
  · (first | (with_reducible assumption) | (simp [go_sem, *]; done) | assumption)
  · (first | (with_reducible assumption) | (simp [go_sem, *]; done) | assumption)
  · (first | (with_reducible assumption) | (simp [go_sem, *]; done) | assumption)
  · (first | (with_reducible assumption) | (simp [go_sem, *]; done) | assumption)
  · (first | (with_reducible assumption) | (simp [go_sem, *]; done) | assumption)
  · (first | (with_reducible assumption) | (simp [go_sem, *]; done) | assumption)
  · (first | assumption | (simp; done) | (simp; omega) | omega)
  · (first | assumption | (simp; done) | (simp; omega) | omega)
  · (first | assumption | (simp; done) | (simp; omega) | omega)
  · (first | assumption | (simp; done) | (simp; omega) | omega)
  · (repeat (first | exact Below.refl _ _ | assumption | (with_reducible refine bdrew ?_) | (with_reducible refine baa ?_ _) | (with_reducible refine bs ?_ (by first | exact Nat.le_refl _ | omega | (simp; done) | (simp; omega)) _) | (with_reducible refine bt ?_ (by assumption))))
  · (refine Tab.below hT ?_; repeat (first | exact Below.refl _ _ | assumption | (with_reducible refine bdrew ?_) | (with_reducible refine baa ?_ _) | (with_reducible refine bs ?_ (by first | exact Nat.le_refl _ | omega | (simp; done) | (simp; omega)) _) | (with_reducible refine bt ?_ (by assumption))))
  · (refine Tab.below hL ?_; repeat (first | exact Below.refl _ _ | assumption | (with_reducible refine bdrew ?_) | (with_reducible refine baa ?_ _) | (with_reducible refine bs ?_ (by first | exact Nat.le_refl _ | omega | (simp; done) | (simp; omega)) _) | (with_reducible refine bt ?_ (by assumption))))
  rintro W7 ⟨r7x0, r7x1, r7x2, r7x3, r7x4, r7x5, r7x6, r7x7, r7x8, r7x9, r7x10, r7x11, r7x12, r7x13, r7x14, r7x15, rs7x0, rs7x1, rs7x2, rs7x3, hB7, hT7x0, hT7x1⟩
  have hT7 := hT7x0
  have hL7 := hT7x1
  clear hc1 hf1 hc2 hf2
  refine wp_region_class (by kernel_rfl) (by kernel_rfl) (fun hall => ?_)
  repeat (first | go_big_quiet_skip | (go_big_quiet_want; first | (refine quiet_load1 _ _ _ rfl rfl ?_ ?_ ?_; (focus (intro _; simp; done)); (focus (first | assumption | omega | (simp; done) | (simp; omega))); apply Exists.intro; refine ⟨?_, ?_⟩; assumption; go_simp; go_big_quiet_on) | (refine quiet_load2 _ _ _ _ rfl rfl ?_ ?_ ?_ ?_; (focus (intro _; simp; done)); (focus (intro _; simp; done)); (focus (first | assumption | omega | (simp; done) | (simp; omega))); apply Exists.intro; apply Exists.intro; refine ⟨?_, ?_, ?_⟩; assumption; assumption; go_simp; go_big_quiet_on) | (refine quiet_load3 _ _ _ _ rfl rfl ?_ ?_ ?_ ?_; (focus (intro _; simp; done)); (focus (intro _; simp; done)); (focus (first | assumption | omega | (simp; done) | (simp; omega))); apply Exists.intro; apply Exists.intro; apply Exists.intro; refine ⟨?_, ?_, ?_, ?_⟩; assumption; assumption; assumption; go_simp; go_big_quiet_on) | (refine quiet_load4 _ _ _ _ rfl rfl ?_ ?_ ?_ ?_; (focus (intro _; simp; done)); (focus (intro _; simp; done)); (focus (first | assumption | omega | (simp; done) | (simp; omega))); apply Exists.intro; apply Exists.intro; apply Exists.intro; apply Exists.intro; refine ⟨?_, ?_, ?_, ?_, ?_⟩; assumption; assumption; assumption; assumption; go_simp; go_big_quiet_on) | (go_big_quiet_op; first | go_big_quiet_on | (apply Exists.intro; refine ⟨fun x hx => ?_, ?_⟩; (first | (with_reducible exact call_below hx (awake16 x (Tab.below hT7 hx) (Tab.below hL7 hx))) | (with_reducible exact call_below hx (HP.out x)) | (with_reducible exact call_below hx (HQ.out x)) | (with_reducible exact call_below hx (HMa.out x)) | (with_reducible exact call_below hx (HMb.out x)) | exact call_below hx (awake16 x (Tab.below hT7 hx) (Tab.below hL7 hx)) | exact call_below hx (HP.out x) | exact call_below hx (HQ.out x) | exact call_below hx (HMa.out x) | exact call_below hx (HMb.out x)); go_big_quiet_on))))
  refine wpQuiet_nil ?_
  clear hall
  intro x8 hx8
  go_wp2_with fail
  go_ret
  exact ⟨by first | rfl | (simp [*]; done), bt hB7 hx8⟩
set_option maxHeartbeats 4000000 in
theorem AddTells_no (y n : Int) (l : Bool) (d a b c f m : Int) (ry rn : Int) (rl : Bool) (rd er : Int) (w : World) (hT : Tab w 8 kevCells) (hL : Tab w 6 lenCells) (HA : Hid (∀ w : World, Tab w 8 kevCells → Tab w 6 lenCells → Calls Tryz.prog 27 #[.agg #[.int .i64 (y), .int .i64 (n), .bool (l), .int .i64 (d)], .agg #[.int .i64 (a), .int .i64 (b), .int .i64 (c), .int .i64 (f)], .int .i64 m] w fun e w' => e = .returned (.tuple #[.agg #[.int .i64 (ry), .int .i64 (rn), .bool (rl), .int .i64 (rd)], .int .i64 (er)]) ∧ Below w.heap.size w w')) (HB : Hid (∀ w : World, Calls Tryz.prog 28 #[.agg #[.int .i64 (y), .int .i64 (n), .bool (l), .int .i64 (d)], .agg #[.int .i64 (a), .int .i64 (b), .int .i64 (c), .int .i64 (f)], .int .i64 m] w fun e w' => e = .returned (.tuple #[.agg #[.int .i64 (ry), .int .i64 (rn), .bool (rl), .int .i64 (rd)], .int .i64 (er)]) ∧ Below w.heap.size w w')) (HP : Hid (∀ w : World, Calls Tryz.prog 30 #[.agg #[.int .i64 (a), .int .i64 (b), .int .i64 (c), .int .i64 (f)]] w fun e w' => e = .returned (.bool false) ∧ Below w.heap.size w w')) (HQ : Hid (∀ w : World, Calls Tryz.prog 31 #[.agg #[.int .i64 (a), .int .i64 (b), .int .i64 (c), .int .i64 (f)]] w fun e w' => e = .returned (.bool false) ∧ Below w.heap.size w w')) :
    Calls Tryz.prog 6 #[.agg #[.int .i64 (y), .int .i64 (n), .bool (l), .int .i64 (d)], .agg #[.int .i64 (a), .int .i64 (b), .int .i64 (c), .int .i64 (f)], .int .i64 m] w fun e w' => e = .returned (.bool true) ∧ Below w.heap.size w w' := by
  go_enter Tryz.func6, Tryz.ntmps6
  go_wp2_with fail
  refine (HA.out _ (Tab.below hT (by repeat (first | (with_reducible exact Below.refl _ _) | (with_reducible assumption) | (with_reducible refine bdrew ?_) | (with_reducible refine baa ?_ _) | (with_reducible refine bs ?_ (by first | exact Nat.le_refl _ | omega | (simp; done) | (simp; omega)) _) | (with_reducible refine bt ?_ (by with_reducible assumption))))) (Tab.below hL (by repeat (first | (with_reducible exact Below.refl _ _) | (with_reducible assumption) | (with_reducible refine bdrew ?_) | (with_reducible refine baa ?_ _) | (with_reducible refine bs ?_ (by first | exact Nat.le_refl _ | omega | (simp; done) | (simp; omega)) _) | (with_reducible refine bt ?_ (by with_reducible assumption)))))).mono ?_
  rintro e w1 ⟨rfl, hb1⟩
  obtain ⟨hc1, hf1⟩ := bcell hb1
  have hz1 := hb1.size
  try simp at hz1
  have hs1x0 : w.heap.size < w1.heap.size := by omega
  have hs1x1 : (w.heap.size + 1) < w1.heap.size := by omega
  have g1x0 : w1.cell? ⟨w.heap.size, 0, none⟩ = some (.int .i64 (y)) := (hc1 _ _ (by first | omega | (simp; done) | (simp; omega))).trans (by first | (with_reducible assumption) | (simp [go_sem]; done) | (simp [go_sem, *]; done) | assumption)
  have g1x1 : w1.cell? ⟨w.heap.size, 1, none⟩ = some (.int .i64 (n)) := (hc1 _ _ (by first | omega | (simp; done) | (simp; omega))).trans (by first | (with_reducible assumption) | (simp [go_sem]; done) | (simp [go_sem, *]; done) | assumption)
  have g1x2 : w1.cell? ⟨w.heap.size, 2, none⟩ = some (.bool (l)) := (hc1 _ _ (by first | omega | (simp; done) | (simp; omega))).trans (by first | (with_reducible assumption) | (simp [go_sem]; done) | (simp [go_sem, *]; done) | assumption)
  have g1x3 : w1.cell? ⟨w.heap.size, 3, none⟩ = some (.int .i64 (d)) := (hc1 _ _ (by first | omega | (simp; done) | (simp; omega))).trans (by first | (with_reducible assumption) | (simp [go_sem]; done) | (simp [go_sem, *]; done) | assumption)
  have g1x4 : w1.cell? ⟨(w.heap.size + 1), 0, none⟩ = some (.int .i64 (a)) := (hc1 _ _ (by first | omega | (simp; done) | (simp; omega))).trans (by first | (with_reducible assumption) | (simp [go_sem]; done) | (simp [go_sem, *]; done) | assumption)
  have g1x5 : w1.cell? ⟨(w.heap.size + 1), 1, none⟩ = some (.int .i64 (b)) := (hc1 _ _ (by first | omega | (simp; done) | (simp; omega))).trans (by first | (with_reducible assumption) | (simp [go_sem]; done) | (simp [go_sem, *]; done) | assumption)
  have g1x6 : w1.cell? ⟨(w.heap.size + 1), 2, none⟩ = some (.int .i64 (c)) := (hc1 _ _ (by first | omega | (simp; done) | (simp; omega))).trans (by first | (with_reducible assumption) | (simp [go_sem]; done) | (simp [go_sem, *]; done) | assumption)
  have g1x7 : w1.cell? ⟨(w.heap.size + 1), 3, none⟩ = some (.int .i64 (f)) := (hc1 _ _ (by first | omega | (simp; done) | (simp; omega))).trans (by first | (with_reducible assumption) | (simp [go_sem]; done) | (simp [go_sem, *]; done) | assumption)
  go_wp2_with fail
  refine (HB.out _).mono ?_
  rintro e w2 ⟨rfl, hb2⟩
  obtain ⟨hc2, hf2⟩ := bcell hb2
  have hz2 := hb2.size
  try simp at hz2
  have hl2w1 : w1.heap.size < w2.heap.size := by omega
  have hm2w1 : w1.heap.size ≤ w2.heap.size := by omega
  have hs2x0 : w.heap.size < w2.heap.size := by omega
  have hs2x1 : (w.heap.size + 1) < w2.heap.size := by omega
  have g2x0 : w2.cell? ⟨w.heap.size, 0, none⟩ = some (.int .i64 (y)) := (hc2 _ _ (by first | omega | (simp; done) | (simp; omega))).trans (by first | (with_reducible assumption) | (simp [go_sem]; done) | (simp [go_sem, *]; done) | assumption)
  have g2x1 : w2.cell? ⟨w.heap.size, 1, none⟩ = some (.int .i64 (n)) := (hc2 _ _ (by first | omega | (simp; done) | (simp; omega))).trans (by first | (with_reducible assumption) | (simp [go_sem]; done) | (simp [go_sem, *]; done) | assumption)
  have g2x2 : w2.cell? ⟨w.heap.size, 2, none⟩ = some (.bool (l)) := (hc2 _ _ (by first | omega | (simp; done) | (simp; omega))).trans (by first | (with_reducible assumption) | (simp [go_sem]; done) | (simp [go_sem, *]; done) | assumption)
  have g2x3 : w2.cell? ⟨w.heap.size, 3, none⟩ = some (.int .i64 (d)) := (hc2 _ _ (by first | omega | (simp; done) | (simp; omega))).trans (by first | (with_reducible assumption) | (simp [go_sem]; done) | (simp [go_sem, *]; done) | assumption)
  have g2x4 : w2.cell? ⟨(w.heap.size + 1), 0, none⟩ = some (.int .i64 (a)) := (hc2 _ _ (by first | omega | (simp; done) | (simp; omega))).trans (by first | (with_reducible assumption) | (simp [go_sem]; done) | (simp [go_sem, *]; done) | assumption)
  have g2x5 : w2.cell? ⟨(w.heap.size + 1), 1, none⟩ = some (.int .i64 (b)) := (hc2 _ _ (by first | omega | (simp; done) | (simp; omega))).trans (by first | (with_reducible assumption) | (simp [go_sem]; done) | (simp [go_sem, *]; done) | assumption)
  have g2x6 : w2.cell? ⟨(w.heap.size + 1), 2, none⟩ = some (.int .i64 (c)) := (hc2 _ _ (by first | omega | (simp; done) | (simp; omega))).trans (by first | (with_reducible assumption) | (simp [go_sem]; done) | (simp [go_sem, *]; done) | assumption)
  have g2x7 : w2.cell? ⟨(w.heap.size + 1), 3, none⟩ = some (.int .i64 (f)) := (hc2 _ _ (by first | omega | (simp; done) | (simp; omega))).trans (by first | (with_reducible assumption) | (simp [go_sem]; done) | (simp [go_sem, *]; done) | assumption)
  have g2x8 : w2.cell? ⟨w1.heap.size, 0, none⟩ = some (.int .i64 (ry)) := (hc2 _ _ (by first | omega | (simp; done) | (simp; omega))).trans (by first | (with_reducible assumption) | (simp [go_sem]; done) | (simp [go_sem, *]; done) | assumption)
  have g2x9 : w2.cell? ⟨w1.heap.size, 1, none⟩ = some (.int .i64 (rn)) := (hc2 _ _ (by first | omega | (simp; done) | (simp; omega))).trans (by first | (with_reducible assumption) | (simp [go_sem]; done) | (simp [go_sem, *]; done) | assumption)
  have g2x10 : w2.cell? ⟨w1.heap.size, 2, none⟩ = some (.bool (rl)) := (hc2 _ _ (by first | omega | (simp; done) | (simp; omega))).trans (by first | (with_reducible assumption) | (simp [go_sem]; done) | (simp [go_sem, *]; done) | assumption)
  have g2x11 : w2.cell? ⟨w1.heap.size, 3, none⟩ = some (.int .i64 (rd)) := (hc2 _ _ (by first | omega | (simp; done) | (simp; omega))).trans (by first | (with_reducible assumption) | (simp [go_sem]; done) | (simp [go_sem, *]; done) | assumption)
  go_wp2_with fail
  refine settle (fun W => W.cell? ⟨w.heap.size, 0, none⟩ = some (.int .i64 (y)) ∧ W.cell? ⟨w.heap.size, 1, none⟩ = some (.int .i64 (n)) ∧ W.cell? ⟨w.heap.size, 2, none⟩ = some (.bool (l)) ∧ W.cell? ⟨w.heap.size, 3, none⟩ = some (.int .i64 (d)) ∧ W.cell? ⟨(w.heap.size + 1), 0, none⟩ = some (.int .i64 (a)) ∧ W.cell? ⟨(w.heap.size + 1), 1, none⟩ = some (.int .i64 (b)) ∧ W.cell? ⟨(w.heap.size + 1), 2, none⟩ = some (.int .i64 (c)) ∧ W.cell? ⟨(w.heap.size + 1), 3, none⟩ = some (.int .i64 (f)) ∧ W.cell? ⟨w1.heap.size, 0, none⟩ = some (.int .i64 (ry)) ∧ W.cell? ⟨w1.heap.size, 1, none⟩ = some (.int .i64 (rn)) ∧ W.cell? ⟨w1.heap.size, 2, none⟩ = some (.bool (rl)) ∧ W.cell? ⟨w1.heap.size, 3, none⟩ = some (.int .i64 (rd)) ∧ W.cell? ⟨w2.heap.size, 0, none⟩ = some (.int .i64 (ry)) ∧ W.cell? ⟨w2.heap.size, 1, none⟩ = some (.int .i64 (rn)) ∧ W.cell? ⟨w2.heap.size, 2, none⟩ = some (.bool (rl)) ∧ W.cell? ⟨w2.heap.size, 3, none⟩ = some (.int .i64 (rd)) ∧ w.heap.size < W.heap.size ∧ (w.heap.size + 1) < W.heap.size ∧ w1.heap.size < W.heap.size ∧ w2.heap.size < W.heap.size ∧ Below w.heap.size w W ∧ Tab W 8 kevCells ∧ Tab W 6 lenCells) ⟨?_, ?_, ?_, ?_, ?_, ?_, ?_, ?_, ?_, ?_, ?_, ?_, ?_, ?_, ?_, ?_, ?_, ?_, ?_, ?_, ?_, ?_, ?_⟩ ?_
  · (first | (with_reducible assumption) | (simp [go_sem, *]; done) | assumption)
  · (first | (with_reducible assumption) | (simp [go_sem, *]; done) | assumption)
  · (first | (with_reducible assumption) | (simp [go_sem, *]; done) | assumption)
  · (first | (with_reducible assumption) | (simp [go_sem, *]; done) | assumption)
  · (first | (with_reducible assumption) | (simp [go_sem, *]; done) | assumption)
  · (first | (with_reducible assumption) | (simp [go_sem, *]; done) | assumption)
  · (first | (with_reducible assumption) | (simp [go_sem, *]; done) | assumption)
  · (first | (with_reducible assumption) | (simp [go_sem, *]; done) | assumption)
  · (first | (with_reducible assumption) | (simp [go_sem, *]; done) | assumption)
  · (first | (with_reducible assumption) | (simp [go_sem, *]; done) | assumption)
  · (first | (with_reducible assumption) | (simp [go_sem, *]; done) | assumption)
  · (first | (with_reducible assumption) | (simp [go_sem, *]; done) | assumption)
  · (first | (with_reducible assumption) | (simp [go_sem, *]; done) | assumption)
  · (first | (with_reducible assumption) | (simp [go_sem, *]; done) | assumption)
  · (first | (with_reducible assumption) | (simp [go_sem, *]; done) | assumption)
  · (first | (with_reducible assumption) | (simp [go_sem, *]; done) | assumption)
  · (first | assumption | (simp; done) | (simp; omega) | omega)
  · (first | assumption | (simp; done) | (simp; omega) | omega)
  · (first | assumption | (simp; done) | (simp; omega) | omega)
  · (first | assumption | (simp; done) | (simp; omega) | omega)
  · (repeat (first | exact Below.refl _ _ | assumption | (with_reducible refine bdrew ?_) | (with_reducible refine baa ?_ _) | (with_reducible refine bs ?_ (by first | exact Nat.le_refl _ | omega | (simp; done) | (simp; omega)) _) | (with_reducible refine bt ?_ (by assumption))))
  · (refine Tab.below hT ?_; repeat (first | exact Below.refl _ _ | assumption | (with_reducible refine bdrew ?_) | (with_reducible refine baa ?_ _) | (with_reducible refine bs ?_ (by first | exact Nat.le_refl _ | omega | (simp; done) | (simp; omega)) _) | (with_reducible refine bt ?_ (by assumption))))
  · (refine Tab.below hL ?_; repeat (first | exact Below.refl _ _ | assumption | (with_reducible refine bdrew ?_) | (with_reducible refine baa ?_ _) | (with_reducible refine bs ?_ (by first | exact Nat.le_refl _ | omega | (simp; done) | (simp; omega)) _) | (with_reducible refine bt ?_ (by assumption))))
  rintro W7 ⟨r7x0, r7x1, r7x2, r7x3, r7x4, r7x5, r7x6, r7x7, r7x8, r7x9, r7x10, r7x11, r7x12, r7x13, r7x14, r7x15, rs7x0, rs7x1, rs7x2, rs7x3, hB7, hT7x0, hT7x1⟩
  have hT7 := hT7x0
  have hL7 := hT7x1
  clear hc1 hf1 hc2 hf2
  refine wp_region_class (by kernel_rfl) (by kernel_rfl) (fun hall => ?_)
  repeat (first | go_big_quiet_skip | (go_big_quiet_want; first | (refine quiet_load1 _ _ _ rfl rfl ?_ ?_ ?_; (focus (intro _; simp; done)); (focus (first | assumption | omega | (simp; done) | (simp; omega))); apply Exists.intro; refine ⟨?_, ?_⟩; assumption; go_simp; go_big_quiet_on) | (refine quiet_load2 _ _ _ _ rfl rfl ?_ ?_ ?_ ?_; (focus (intro _; simp; done)); (focus (intro _; simp; done)); (focus (first | assumption | omega | (simp; done) | (simp; omega))); apply Exists.intro; apply Exists.intro; refine ⟨?_, ?_, ?_⟩; assumption; assumption; go_simp; go_big_quiet_on) | (refine quiet_load3 _ _ _ _ rfl rfl ?_ ?_ ?_ ?_; (focus (intro _; simp; done)); (focus (intro _; simp; done)); (focus (first | assumption | omega | (simp; done) | (simp; omega))); apply Exists.intro; apply Exists.intro; apply Exists.intro; refine ⟨?_, ?_, ?_, ?_⟩; assumption; assumption; assumption; go_simp; go_big_quiet_on) | (refine quiet_load4 _ _ _ _ rfl rfl ?_ ?_ ?_ ?_; (focus (intro _; simp; done)); (focus (intro _; simp; done)); (focus (first | assumption | omega | (simp; done) | (simp; omega))); apply Exists.intro; apply Exists.intro; apply Exists.intro; apply Exists.intro; refine ⟨?_, ?_, ?_, ?_, ?_⟩; assumption; assumption; assumption; assumption; go_simp; go_big_quiet_on) | (go_big_quiet_op; first | go_big_quiet_on | (apply Exists.intro; refine ⟨fun x hx => ?_, ?_⟩; (first | (with_reducible exact call_below hx (awake16 x (Tab.below hT7 hx) (Tab.below hL7 hx))) | (with_reducible exact call_below hx (HP.out x)) | (with_reducible exact call_below hx (HQ.out x)) | exact call_below hx (awake16 x (Tab.below hT7 hx) (Tab.below hL7 hx)) | exact call_below hx (HP.out x) | exact call_below hx (HQ.out x)); go_big_quiet_on))))
  refine wpQuiet_nil ?_
  clear hall
  intro x8 hx8
  go_wp2_with fail
  go_ret
  exact ⟨by first | rfl | (simp [*]; done), bt hB7 hx8⟩
theorem AddTells_walk (y n : Int) (l : Bool) (d a b c f m : Int) (hy : I64 y) (hn : I64 n) (hd : I64 d) (ha : I64 a) (hb : I64 b) (hc : I64 c) (hf : I64 f) (hm : I64 m) (w : World) (hT : Tab w 8 kevCells) (hL : Tab w 6 lenCells) :
    Calls Tryz.prog 6 #[.agg #[.int .i64 (y), .int .i64 (n), .bool (l), .int .i64 (d)], .agg #[.int .i64 (a), .int .i64 (b), .int .i64 (c), .int .i64 (f)], .int .i64 m] w fun e w' => e = .returned (.bool true) ∧ Below w.heap.size w w' := by
  obtain ⟨ry, rn, rl, rd, er, h0⟩ := A16.to_some y n l d a b c f m
  have HA := Lib.hid (fun w hT hL => add_To y n l d a b c f m w hy hT hL ry rn rl rd er (Lib.hid h0))
  have HB := Lib.hid (fun w => ref16_To y n l d a b c f m w hy ry rn rl rd er (Lib.hid h0))
  have HP := Lib.hid (fun w => add_Right a b c f w)
  have HQ := Lib.hid (fun w => ref16_Right a b c f w)
  by_cases hr : A16.right a b c f = true
  · have HMa := Lib.hid (fun w => add_Minus_any a b c f w hr)
    have HMb := Lib.hid (fun w => ref16_Minus a b c f w hr)
    rw [hr] at HP HQ
    exact AddTells_yes y n l d a b c f m ry rn rl rd er w hT hL HA HB HP HQ HMa HMb
  · have hr' : A16.right a b c f = false := by simpa using hr
    rw [hr'] at HP HQ
    exact AddTells_no y n l d a b c f m ry rn rl rd er w hT hL HA HB HP HQ
end Go.Proofs.YtafenpgafmdenaaGreatDoor
