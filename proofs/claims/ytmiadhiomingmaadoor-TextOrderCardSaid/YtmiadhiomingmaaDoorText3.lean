/- Layer 13: a Hebrew date's text. -/
import Derived.Test.YtmiadhiomingmaaDoorCodeT
import Derived.Test.YtmiadhiomingmaaDoorHeb2
import Derived.Test.YtmiadhiomingmaaDoorText2
import Derived.Test.YtmiadhiomingmaaDoorFlat
import Derived.LoopTactic
import Derived.Outline
namespace Go.Proofs.YtmiadhiomingmaaDoor
open Go.ChangeShapes Go.WideShapes Go.ChangeAt Go.RowKit
set_option linter.unusedVariables false
set_option maxRecDepth 100000
set_option maxHeartbeats 2000000 in
theorem text_Heb_err (y n : Int) (l : Bool) (d : Int) (w : World) (hy : I64 y) (hT : Tab w 8 kevCells) (hL : Tab w 5 lenCells) (hP : Tab w 1 powCells) (h0 : ¬ D10.dateE y n l d = 0) :
    Calls Tryd.prog 12 #[.agg #[.int .i64 (y), .int .i64 (n), .bool (l), .int .i64 (d)]] w fun e w' => e = .returned (.tuple #[.string ByteArray.empty, .int .i64 (D10.dateE y n l d)]) ∧ Below w.heap.size w w' := by
  have HC := Lib.hid (fun w hT hL => heb_Check y n l d w hy hT hL)
  have h1 : (D10.dateE y n l d != 0) = true := by simpa using h0
  clear h0
  generalize D10.dateE y n l d = de at *
  go_enter Tryd.func12, Tryd.ntmps12
  go_wp2_with fail
  refine (HC.out _ (Tab.below hT (by repeat (first | (with_reducible exact Below.refl _ _) | (with_reducible assumption) | (with_reducible refine bdrew ?_) | (with_reducible refine baa ?_ _) | (with_reducible refine bs ?_ (by first | exact Nat.le_refl _ | omega | (simp; done) | (simp; omega)) _) | (with_reducible refine bt ?_ (by with_reducible assumption))))) (Tab.below hL (by repeat (first | (with_reducible exact Below.refl _ _) | (with_reducible assumption) | (with_reducible refine bdrew ?_) | (with_reducible refine baa ?_ _) | (with_reducible refine bs ?_ (by first | exact Nat.le_refl _ | omega | (simp; done) | (simp; omega)) _) | (with_reducible refine bt ?_ (by with_reducible assumption)))))).mono ?_
  rintro e w1 ⟨rfl, hb1⟩
  obtain ⟨hc1, hf1⟩ := bcell hb1
  have hz1 := hb1.size
  try simp at hz1
  have hs1x0 : w.heap.size < w1.heap.size := by omega
  have g1x0 : w1.cell? ⟨w.heap.size, 0, none⟩ = some (.int .i64 y) := (hc1 _ _ (by first | omega | (simp; done) | (simp; omega))).trans (by first | (with_reducible assumption) | (simp [go_sem]; done) | (simp [go_sem, *]; done) | assumption)
  have g1x1 : w1.cell? ⟨w.heap.size, 1, none⟩ = some (.int .i64 n) := (hc1 _ _ (by first | omega | (simp; done) | (simp; omega))).trans (by first | (with_reducible assumption) | (simp [go_sem]; done) | (simp [go_sem, *]; done) | assumption)
  have g1x2 : w1.cell? ⟨w.heap.size, 2, none⟩ = some (.bool l) := (hc1 _ _ (by first | omega | (simp; done) | (simp; omega))).trans (by first | (with_reducible assumption) | (simp [go_sem]; done) | (simp [go_sem, *]; done) | assumption)
  have g1x3 : w1.cell? ⟨w.heap.size, 3, none⟩ = some (.int .i64 d) := (hc1 _ _ (by first | omega | (simp; done) | (simp; omega))).trans (by first | (with_reducible assumption) | (simp [go_sem]; done) | (simp [go_sem, *]; done) | assumption)
  go_wp2_with fail
  go_ret2
  refine ⟨rfl, ?_⟩
  repeat (first | (with_reducible exact Below.refl _ _) | (with_reducible assumption) | (with_reducible refine bdrew ?_) | (with_reducible refine baa ?_ _) | (with_reducible refine bs ?_ (by first | exact Nat.le_refl _ | omega | (simp; done) | (simp; omega)) _) | (with_reducible refine bt ?_ (by with_reducible assumption)))
def hebTxt (y n : Int) (l : Bool) (d : Int) : ByteArray := digs y [1000, 100, 10, 1] ++ ⟨#[45]⟩ ++ txtV n l ++ ⟨#[45]⟩ ++ digs d [10, 1]
set_option maxHeartbeats 4000000 in
theorem text_Heb_ok (y n : Int) (l : Bool) (d : Int) (w : World) (hy : I64 y) (hT : Tab w 8 kevCells) (hL : Tab w 5 lenCells) (hP : Tab w 1 powCells) (h0 : D10.dateE y n l d = 0) :
    Calls Tryd.prog 12 #[.agg #[.int .i64 (y), .int .i64 (n), .bool (l), .int .i64 (d)]] w fun e w' => e = .returned (.tuple #[.string (hebTxt y n l d), .int .i64 0]) ∧ Below w.heap.size w w' := by
  have HC := Lib.hid (fun w hT hL => heb_Check y n l d w hy hT hL)
  obtain ⟨hv, hp⟩ := D10.date_valid h0
  obtain ⟨y1, y2, m1, m2, d1, d2⟩ := hv
  have db := D10.len_bd y _ y1 y2 m1 m2
  have HM := Lib.hid (fun w => code_Text_any n l w)
  have HY := Lib.hid (fun w hP => text_digits_4 y (by omega) (by omega) w hP)
  have HD := Lib.hid (fun w hP => text_digits_2 d (by omega) (by omega) w hP)
  rw [h0] at HC
  have sz : (txtV n l).size ≤ 4 := by unfold txtV codeTxt; split; split; all_goals (first | decide | exact Nat.le_of_ble_eq_true rfl | simp [ByteArray.size])
  have s4 : (digs y [1000, 100, 10, 1]).size ≤ 4 := by simp [digs, ByteArray.size]
  have s2 : (digs d [10, 1]).size ≤ 2 := by simp [digs, ByteArray.size]
  clear m1 m2 d1 d2 db hp h0
  unfold hebTxt
  generalize txtV n l = tm at *
  generalize Cal.right n l = rr at *
  generalize digs y [1000, 100, 10, 1] = ty at *
  generalize digs d [10, 1] = td at *
  go_enter Tryd.func12, Tryd.ntmps12
  go_wp2_with fail
  refine (HC.out _ (Tab.below hT (by repeat (first | (with_reducible exact Below.refl _ _) | (with_reducible assumption) | (with_reducible refine bdrew ?_) | (with_reducible refine baa ?_ _) | (with_reducible refine bs ?_ (by first | exact Nat.le_refl _ | omega | (simp; done) | (simp; omega)) _) | (with_reducible refine bt ?_ (by with_reducible assumption))))) (Tab.below hL (by repeat (first | (with_reducible exact Below.refl _ _) | (with_reducible assumption) | (with_reducible refine bdrew ?_) | (with_reducible refine baa ?_ _) | (with_reducible refine bs ?_ (by first | exact Nat.le_refl _ | omega | (simp; done) | (simp; omega)) _) | (with_reducible refine bt ?_ (by with_reducible assumption)))))).mono ?_
  rintro e w1 ⟨rfl, hb1⟩
  obtain ⟨hc1, hf1⟩ := bcell hb1
  have hz1 := hb1.size
  try simp at hz1
  have hs1x0 : w.heap.size < w1.heap.size := by omega
  have g1x0 : w1.cell? ⟨w.heap.size, 0, none⟩ = some (.int .i64 y) := (hc1 _ _ (by first | omega | (simp; done) | (simp; omega))).trans (by first | (with_reducible assumption) | (simp [go_sem]; done) | (simp [go_sem, *]; done) | assumption)
  have g1x1 : w1.cell? ⟨w.heap.size, 1, none⟩ = some (.int .i64 n) := (hc1 _ _ (by first | omega | (simp; done) | (simp; omega))).trans (by first | (with_reducible assumption) | (simp [go_sem]; done) | (simp [go_sem, *]; done) | assumption)
  have g1x2 : w1.cell? ⟨w.heap.size, 2, none⟩ = some (.bool l) := (hc1 _ _ (by first | omega | (simp; done) | (simp; omega))).trans (by first | (with_reducible assumption) | (simp [go_sem]; done) | (simp [go_sem, *]; done) | assumption)
  have g1x3 : w1.cell? ⟨w.heap.size, 3, none⟩ = some (.int .i64 d) := (hc1 _ _ (by first | omega | (simp; done) | (simp; omega))).trans (by first | (with_reducible assumption) | (simp [go_sem]; done) | (simp [go_sem, *]; done) | assumption)
  go_wp2_with fail
  refine (HM.out _).mono ?_
  rintro e w2 ⟨rfl, hb2⟩
  obtain ⟨hc2, hf2⟩ := bcell hb2
  have hz2 := hb2.size
  try simp at hz2
  have hs2x0 : w.heap.size < w2.heap.size := by omega
  have g2x0 : w2.cell? ⟨w.heap.size, 0, none⟩ = some (.int .i64 y) := (hc2 _ _ (by first | omega | (simp; done) | (simp; omega))).trans (by first | (with_reducible assumption) | (simp [go_sem]; done) | (simp [go_sem, *]; done) | assumption)
  have g2x1 : w2.cell? ⟨w.heap.size, 1, none⟩ = some (.int .i64 n) := (hc2 _ _ (by first | omega | (simp; done) | (simp; omega))).trans (by first | (with_reducible assumption) | (simp [go_sem]; done) | (simp [go_sem, *]; done) | assumption)
  have g2x2 : w2.cell? ⟨w.heap.size, 2, none⟩ = some (.bool l) := (hc2 _ _ (by first | omega | (simp; done) | (simp; omega))).trans (by first | (with_reducible assumption) | (simp [go_sem]; done) | (simp [go_sem, *]; done) | assumption)
  have g2x3 : w2.cell? ⟨w.heap.size, 3, none⟩ = some (.int .i64 d) := (hc2 _ _ (by first | omega | (simp; done) | (simp; omega))).trans (by first | (with_reducible assumption) | (simp [go_sem]; done) | (simp [go_sem, *]; done) | assumption)
  go_wp2_with fail
  have hW2 : Below w.heap.size w w2 := by repeat (first | (with_reducible exact Below.refl _ _) | (with_reducible assumption) | (with_reducible refine bdrew ?_) | (with_reducible refine baa ?_ _) | (with_reducible refine bs ?_ (by first | exact Nat.le_refl _ | omega | (simp; done) | (simp; omega)) _) | (with_reducible refine bt ?_ (by with_reducible assumption)))
  refine wp_region_class (by kernel_rfl) (by kernel_rfl) (fun hall => ?_)
  repeat (first | go_big_quiet_skip | (go_big_quiet_want; first | (refine quiet_load1 _ _ _ rfl rfl ?_ ?_ ?_; (focus (intro _; simp; done)); (focus (first | assumption | omega | (simp; done) | (simp; omega))); apply Exists.intro; refine ⟨?_, ?_⟩; assumption; go_simp; go_big_quiet_on) | (refine quiet_load2 _ _ _ _ rfl rfl ?_ ?_ ?_ ?_; (focus (intro _; simp; done)); (focus (intro _; simp; done)); (focus (first | assumption | omega | (simp; done) | (simp; omega))); apply Exists.intro; apply Exists.intro; refine ⟨?_, ?_, ?_⟩; assumption; assumption; go_simp; go_big_quiet_on) | (refine quiet_load3 _ _ _ _ rfl rfl ?_ ?_ ?_ ?_; (focus (intro _; simp; done)); (focus (intro _; simp; done)); (focus (first | assumption | omega | (simp; done) | (simp; omega))); apply Exists.intro; apply Exists.intro; apply Exists.intro; refine ⟨?_, ?_, ?_, ?_⟩; assumption; assumption; assumption; go_simp; go_big_quiet_on) | (refine quiet_load4 _ _ _ _ rfl rfl ?_ ?_ ?_ ?_; (focus (intro _; simp; done)); (focus (intro _; simp; done)); (focus (first | assumption | omega | (simp; done) | (simp; omega))); apply Exists.intro; apply Exists.intro; apply Exists.intro; apply Exists.intro; refine ⟨?_, ?_, ?_, ?_, ?_⟩; assumption; assumption; assumption; assumption; go_simp; go_big_quiet_on) | (go_big_quiet_op; first | go_big_quiet_on | (apply Exists.intro; refine ⟨fun x hx => ?_, ?_⟩; (first | (with_reducible exact call_below hx (HY.out x (Tab.below hP (bt hW2 hx)))) | (with_reducible exact call_below hx (HD.out x (Tab.below hP (bt hW2 hx)))) | exact call_below hx (HY.out x (Tab.below hP (bt hW2 hx))) | exact call_below hx (HD.out x (Tab.below hP (bt hW2 hx)))); go_big_quiet_on))))
  refine wpQuiet_nil ?_
  clear hall
  intro x3 hx3
  go_wp2_with fail
  go_ret2
  exact ⟨rfl, bt hW2 hx3⟩
def hebV (y n : Int) (l : Bool) (d : Int) : ByteArray := if D10.dateE y n l d = 0 then hebTxt y n l d else ByteArray.empty
theorem text_Heb (y n : Int) (l : Bool) (d : Int) (w : World) (hy : I64 y) (hT : Tab w 8 kevCells) (hL : Tab w 5 lenCells) (hP : Tab w 1 powCells) :
    Calls Tryd.prog 12 #[.agg #[.int .i64 (y), .int .i64 (n), .bool (l), .int .i64 (d)]] w fun e w' => e = .returned (.tuple #[.string (hebV y n l d), .int .i64 (D10.dateE y n l d)]) ∧ Below w.heap.size w w' := by
  unfold hebV
  by_cases h0 : D10.dateE y n l d = 0
  · rw [if_pos h0, h0]; exact text_Heb_ok y n l d w hy hT hL hP h0
  · rw [if_neg h0]; exact text_Heb_err y n l d w hy hT hL hP h0
end Go.Proofs.YtmiadhiomingmaaDoor
