/- Layer 10: its laws' walks. -/
import Derived.Test.YtinpdamfdaefmaaDoorW10
namespace Go.Proofs.YtinpdamfdaefmaaDoor
open Go.ChangeShapes Go.WideShapes Go.ChangeAt Go.RowKit
set_option linter.unusedVariables false
set_option maxRecDepth 100000
set_option maxHeartbeats 2000000 in
theorem HebNext_a (y n : Int) (l : Bool) (d z k : Int) (h : Bool) (f : Int) (hy : I64 y) (hz : I64 z) (w : World) (hT : Tab w 2 kevCells) (hL : Tab w 1 lenCells) (he : ¬ D10.dateE y n l d = 0) :
    Calls Tryd.prog 5 #[.agg #[.int .i64 y, .int .i64 n, .bool l, .int .i64 d], .agg #[.int .i64 z, .int .i64 k, .bool h, .int .i64 f]] w fun e w' => e = .returned (.bool true) ∧ Below w.heap.size w w' := by
  have HT1 := Lib.hid (fun w hT hL => heb_ToDay y n l d w hy hT hL)
  have HT2 := Lib.hid (fun w hT hL => heb_ToDay z k h f w hz hT hL)
  generalize D10.dayV y n l d = v1 at *
  generalize D10.dateE y n l d = v2 at *
  generalize D10.dayV z k h f = v3 at *
  generalize D10.dateE z k h f = v4 at *
  have he2 : (v2 != 0) = true := by simpa using he
  go_enter Tryd.func5, Tryd.ntmps5
  go_wp2_with fail
  refine (HT1.out _ (Tab.below hT (by repeat (first | (with_reducible exact Below.refl _ _) | assumption | (with_reducible refine bdrew ?_) | (with_reducible refine baa ?_ _) | (with_reducible refine bs ?_ (by first | exact Nat.le_refl _ | omega | (simp; omega)) _) | (with_reducible refine bt ?_ (by assumption))))) (Tab.below hL (by repeat (first | (with_reducible exact Below.refl _ _) | assumption | (with_reducible refine bdrew ?_) | (with_reducible refine baa ?_ _) | (with_reducible refine bs ?_ (by first | exact Nat.le_refl _ | omega | (simp; omega)) _) | (with_reducible refine bt ?_ (by assumption)))))).mono ?_
  rintro e w1 ⟨rfl, hb1⟩
  obtain ⟨hc1, hf1⟩ := bcell hb1
  have hz1 := hb1.size
  try simp at hz1
  have hs1x0 : w.heap.size < w1.heap.size := by omega
  have hs1x1 : (w.heap.size + 1) < w1.heap.size := by omega
  have g1x0 : w1.cell? ⟨w.heap.size, 0, none⟩ = some (.int .i64 y) := (hc1 _ _ (by first | omega | (simp; done) | (simp; omega))).trans (by first | assumption | simp [go_sem] | simp [go_sem, *])
  have g1x1 : w1.cell? ⟨w.heap.size, 1, none⟩ = some (.int .i64 n) := (hc1 _ _ (by first | omega | (simp; done) | (simp; omega))).trans (by first | assumption | simp [go_sem] | simp [go_sem, *])
  have g1x2 : w1.cell? ⟨w.heap.size, 2, none⟩ = some (.bool l) := (hc1 _ _ (by first | omega | (simp; done) | (simp; omega))).trans (by first | assumption | simp [go_sem] | simp [go_sem, *])
  have g1x3 : w1.cell? ⟨w.heap.size, 3, none⟩ = some (.int .i64 d) := (hc1 _ _ (by first | omega | (simp; done) | (simp; omega))).trans (by first | assumption | simp [go_sem] | simp [go_sem, *])
  have g1x4 : w1.cell? ⟨(w.heap.size + 1), 0, none⟩ = some (.int .i64 z) := (hc1 _ _ (by first | omega | (simp; done) | (simp; omega))).trans (by first | assumption | simp [go_sem] | simp [go_sem, *])
  have g1x5 : w1.cell? ⟨(w.heap.size + 1), 1, none⟩ = some (.int .i64 k) := (hc1 _ _ (by first | omega | (simp; done) | (simp; omega))).trans (by first | assumption | simp [go_sem] | simp [go_sem, *])
  have g1x6 : w1.cell? ⟨(w.heap.size + 1), 2, none⟩ = some (.bool h) := (hc1 _ _ (by first | omega | (simp; done) | (simp; omega))).trans (by first | assumption | simp [go_sem] | simp [go_sem, *])
  have g1x7 : w1.cell? ⟨(w.heap.size + 1), 3, none⟩ = some (.int .i64 f) := (hc1 _ _ (by first | omega | (simp; done) | (simp; omega))).trans (by first | assumption | simp [go_sem] | simp [go_sem, *])
  go_wp2_with fail
  refine (HT2.out _ (Tab.below hT (by repeat (first | (with_reducible exact Below.refl _ _) | assumption | (with_reducible refine bdrew ?_) | (with_reducible refine baa ?_ _) | (with_reducible refine bs ?_ (by first | exact Nat.le_refl _ | omega | (simp; omega)) _) | (with_reducible refine bt ?_ (by assumption))))) (Tab.below hL (by repeat (first | (with_reducible exact Below.refl _ _) | assumption | (with_reducible refine bdrew ?_) | (with_reducible refine baa ?_ _) | (with_reducible refine bs ?_ (by first | exact Nat.le_refl _ | omega | (simp; omega)) _) | (with_reducible refine bt ?_ (by assumption)))))).mono ?_
  rintro e w2 ⟨rfl, hb2⟩
  obtain ⟨hc2, hf2⟩ := bcell hb2
  have hz2 := hb2.size
  try simp at hz2
  have hs2x0 : w.heap.size < w2.heap.size := by omega
  have hs2x1 : (w.heap.size + 1) < w2.heap.size := by omega
  have g2x0 : w2.cell? ⟨w.heap.size, 0, none⟩ = some (.int .i64 y) := (hc2 _ _ (by first | omega | (simp; done) | (simp; omega))).trans (by first | assumption | simp [go_sem] | simp [go_sem, *])
  have g2x1 : w2.cell? ⟨w.heap.size, 1, none⟩ = some (.int .i64 n) := (hc2 _ _ (by first | omega | (simp; done) | (simp; omega))).trans (by first | assumption | simp [go_sem] | simp [go_sem, *])
  have g2x2 : w2.cell? ⟨w.heap.size, 2, none⟩ = some (.bool l) := (hc2 _ _ (by first | omega | (simp; done) | (simp; omega))).trans (by first | assumption | simp [go_sem] | simp [go_sem, *])
  have g2x3 : w2.cell? ⟨w.heap.size, 3, none⟩ = some (.int .i64 d) := (hc2 _ _ (by first | omega | (simp; done) | (simp; omega))).trans (by first | assumption | simp [go_sem] | simp [go_sem, *])
  have g2x4 : w2.cell? ⟨(w.heap.size + 1), 0, none⟩ = some (.int .i64 z) := (hc2 _ _ (by first | omega | (simp; done) | (simp; omega))).trans (by first | assumption | simp [go_sem] | simp [go_sem, *])
  have g2x5 : w2.cell? ⟨(w.heap.size + 1), 1, none⟩ = some (.int .i64 k) := (hc2 _ _ (by first | omega | (simp; done) | (simp; omega))).trans (by first | assumption | simp [go_sem] | simp [go_sem, *])
  have g2x6 : w2.cell? ⟨(w.heap.size + 1), 2, none⟩ = some (.bool h) := (hc2 _ _ (by first | omega | (simp; done) | (simp; omega))).trans (by first | assumption | simp [go_sem] | simp [go_sem, *])
  have g2x7 : w2.cell? ⟨(w.heap.size + 1), 3, none⟩ = some (.int .i64 f) := (hc2 _ _ (by first | omega | (simp; done) | (simp; omega))).trans (by first | assumption | simp [go_sem] | simp [go_sem, *])
  go_wp2_with fail
  refine (awake10 _ (Tab.below hT (by repeat (first | (with_reducible exact Below.refl _ _) | assumption | (with_reducible refine bdrew ?_) | (with_reducible refine baa ?_ _) | (with_reducible refine bs ?_ (by first | exact Nat.le_refl _ | omega | (simp; omega)) _) | (with_reducible refine bt ?_ (by assumption))))) (Tab.below hL (by repeat (first | (with_reducible exact Below.refl _ _) | assumption | (with_reducible refine bdrew ?_) | (with_reducible refine baa ?_ _) | (with_reducible refine bs ?_ (by first | exact Nat.le_refl _ | omega | (simp; omega)) _) | (with_reducible refine bt ?_ (by assumption)))))).mono ?_
  rintro e w3 ⟨rfl, hb3⟩
  obtain ⟨hc3, hf3⟩ := bcell hb3
  have hz3 := hb3.size
  try simp at hz3
  go_wp2_with fail
  go_ret
  refine ⟨rfl, ?_⟩
  repeat (first | (with_reducible exact Below.refl _ _) | assumption | (with_reducible refine bdrew ?_) | (with_reducible refine baa ?_ _) | (with_reducible refine bs ?_ (by first | exact Nat.le_refl _ | omega | (simp; omega)) _) | (with_reducible refine bt ?_ (by assumption)))
set_option maxHeartbeats 2000000 in
theorem HebNext_b (y n : Int) (l : Bool) (d z k : Int) (h : Bool) (f : Int) (hy : I64 y) (hz : I64 z) (w : World) (hT : Tab w 2 kevCells) (hL : Tab w 1 lenCells) (h1 : D10.dateE y n l d = 0) (he : ¬ D10.dateE z k h f = 0) :
    Calls Tryd.prog 5 #[.agg #[.int .i64 y, .int .i64 n, .bool l, .int .i64 d], .agg #[.int .i64 z, .int .i64 k, .bool h, .int .i64 f]] w fun e w' => e = .returned (.bool true) ∧ Below w.heap.size w w' := by
  have HT1 := Lib.hid (fun w hT hL => heb_ToDay y n l d w hy hT hL)
  have HT2 := Lib.hid (fun w hT hL => heb_ToDay z k h f w hz hT hL)
  rw [h1] at HT1
  clear h1
  generalize D10.dayV y n l d = v1 at *
  generalize D10.dayV z k h f = v3 at *
  generalize D10.dateE z k h f = v4 at *
  have he2 : (v4 != 0) = true := by simpa using he
  go_enter Tryd.func5, Tryd.ntmps5
  go_wp2_with fail
  refine (HT1.out _ (Tab.below hT (by repeat (first | (with_reducible exact Below.refl _ _) | assumption | (with_reducible refine bdrew ?_) | (with_reducible refine baa ?_ _) | (with_reducible refine bs ?_ (by first | exact Nat.le_refl _ | omega | (simp; omega)) _) | (with_reducible refine bt ?_ (by assumption))))) (Tab.below hL (by repeat (first | (with_reducible exact Below.refl _ _) | assumption | (with_reducible refine bdrew ?_) | (with_reducible refine baa ?_ _) | (with_reducible refine bs ?_ (by first | exact Nat.le_refl _ | omega | (simp; omega)) _) | (with_reducible refine bt ?_ (by assumption)))))).mono ?_
  rintro e w1 ⟨rfl, hb1⟩
  obtain ⟨hc1, hf1⟩ := bcell hb1
  have hz1 := hb1.size
  try simp at hz1
  have hs1x0 : w.heap.size < w1.heap.size := by omega
  have hs1x1 : (w.heap.size + 1) < w1.heap.size := by omega
  have g1x0 : w1.cell? ⟨w.heap.size, 0, none⟩ = some (.int .i64 y) := (hc1 _ _ (by first | omega | (simp; done) | (simp; omega))).trans (by first | assumption | simp [go_sem] | simp [go_sem, *])
  have g1x1 : w1.cell? ⟨w.heap.size, 1, none⟩ = some (.int .i64 n) := (hc1 _ _ (by first | omega | (simp; done) | (simp; omega))).trans (by first | assumption | simp [go_sem] | simp [go_sem, *])
  have g1x2 : w1.cell? ⟨w.heap.size, 2, none⟩ = some (.bool l) := (hc1 _ _ (by first | omega | (simp; done) | (simp; omega))).trans (by first | assumption | simp [go_sem] | simp [go_sem, *])
  have g1x3 : w1.cell? ⟨w.heap.size, 3, none⟩ = some (.int .i64 d) := (hc1 _ _ (by first | omega | (simp; done) | (simp; omega))).trans (by first | assumption | simp [go_sem] | simp [go_sem, *])
  have g1x4 : w1.cell? ⟨(w.heap.size + 1), 0, none⟩ = some (.int .i64 z) := (hc1 _ _ (by first | omega | (simp; done) | (simp; omega))).trans (by first | assumption | simp [go_sem] | simp [go_sem, *])
  have g1x5 : w1.cell? ⟨(w.heap.size + 1), 1, none⟩ = some (.int .i64 k) := (hc1 _ _ (by first | omega | (simp; done) | (simp; omega))).trans (by first | assumption | simp [go_sem] | simp [go_sem, *])
  have g1x6 : w1.cell? ⟨(w.heap.size + 1), 2, none⟩ = some (.bool h) := (hc1 _ _ (by first | omega | (simp; done) | (simp; omega))).trans (by first | assumption | simp [go_sem] | simp [go_sem, *])
  have g1x7 : w1.cell? ⟨(w.heap.size + 1), 3, none⟩ = some (.int .i64 f) := (hc1 _ _ (by first | omega | (simp; done) | (simp; omega))).trans (by first | assumption | simp [go_sem] | simp [go_sem, *])
  go_wp2_with fail
  refine (HT2.out _ (Tab.below hT (by repeat (first | (with_reducible exact Below.refl _ _) | assumption | (with_reducible refine bdrew ?_) | (with_reducible refine baa ?_ _) | (with_reducible refine bs ?_ (by first | exact Nat.le_refl _ | omega | (simp; omega)) _) | (with_reducible refine bt ?_ (by assumption))))) (Tab.below hL (by repeat (first | (with_reducible exact Below.refl _ _) | assumption | (with_reducible refine bdrew ?_) | (with_reducible refine baa ?_ _) | (with_reducible refine bs ?_ (by first | exact Nat.le_refl _ | omega | (simp; omega)) _) | (with_reducible refine bt ?_ (by assumption)))))).mono ?_
  rintro e w2 ⟨rfl, hb2⟩
  obtain ⟨hc2, hf2⟩ := bcell hb2
  have hz2 := hb2.size
  try simp at hz2
  have hs2x0 : w.heap.size < w2.heap.size := by omega
  have hs2x1 : (w.heap.size + 1) < w2.heap.size := by omega
  have g2x0 : w2.cell? ⟨w.heap.size, 0, none⟩ = some (.int .i64 y) := (hc2 _ _ (by first | omega | (simp; done) | (simp; omega))).trans (by first | assumption | simp [go_sem] | simp [go_sem, *])
  have g2x1 : w2.cell? ⟨w.heap.size, 1, none⟩ = some (.int .i64 n) := (hc2 _ _ (by first | omega | (simp; done) | (simp; omega))).trans (by first | assumption | simp [go_sem] | simp [go_sem, *])
  have g2x2 : w2.cell? ⟨w.heap.size, 2, none⟩ = some (.bool l) := (hc2 _ _ (by first | omega | (simp; done) | (simp; omega))).trans (by first | assumption | simp [go_sem] | simp [go_sem, *])
  have g2x3 : w2.cell? ⟨w.heap.size, 3, none⟩ = some (.int .i64 d) := (hc2 _ _ (by first | omega | (simp; done) | (simp; omega))).trans (by first | assumption | simp [go_sem] | simp [go_sem, *])
  have g2x4 : w2.cell? ⟨(w.heap.size + 1), 0, none⟩ = some (.int .i64 z) := (hc2 _ _ (by first | omega | (simp; done) | (simp; omega))).trans (by first | assumption | simp [go_sem] | simp [go_sem, *])
  have g2x5 : w2.cell? ⟨(w.heap.size + 1), 1, none⟩ = some (.int .i64 k) := (hc2 _ _ (by first | omega | (simp; done) | (simp; omega))).trans (by first | assumption | simp [go_sem] | simp [go_sem, *])
  have g2x6 : w2.cell? ⟨(w.heap.size + 1), 2, none⟩ = some (.bool h) := (hc2 _ _ (by first | omega | (simp; done) | (simp; omega))).trans (by first | assumption | simp [go_sem] | simp [go_sem, *])
  have g2x7 : w2.cell? ⟨(w.heap.size + 1), 3, none⟩ = some (.int .i64 f) := (hc2 _ _ (by first | omega | (simp; done) | (simp; omega))).trans (by first | assumption | simp [go_sem] | simp [go_sem, *])
  go_wp2_with fail
  refine (awake10 _ (Tab.below hT (by repeat (first | (with_reducible exact Below.refl _ _) | assumption | (with_reducible refine bdrew ?_) | (with_reducible refine baa ?_ _) | (with_reducible refine bs ?_ (by first | exact Nat.le_refl _ | omega | (simp; omega)) _) | (with_reducible refine bt ?_ (by assumption))))) (Tab.below hL (by repeat (first | (with_reducible exact Below.refl _ _) | assumption | (with_reducible refine bdrew ?_) | (with_reducible refine baa ?_ _) | (with_reducible refine bs ?_ (by first | exact Nat.le_refl _ | omega | (simp; omega)) _) | (with_reducible refine bt ?_ (by assumption)))))).mono ?_
  rintro e w3 ⟨rfl, hb3⟩
  obtain ⟨hc3, hf3⟩ := bcell hb3
  have hz3 := hb3.size
  try simp at hz3
  go_wp2_with fail
  go_ret
  refine ⟨rfl, ?_⟩
  repeat (first | (with_reducible exact Below.refl _ _) | assumption | (with_reducible refine bdrew ?_) | (with_reducible refine baa ?_ _) | (with_reducible refine bs ?_ (by first | exact Nat.le_refl _ | omega | (simp; omega)) _) | (with_reducible refine bt ?_ (by assumption)))
set_option maxHeartbeats 2000000 in
theorem HebNext_at_same (y n : Int) (l : Bool) (d : Int) (hy : I64 y) (w : World) (hT : Tab w 2 kevCells) (hL : Tab w 1 lenCells) (h1 : D10.dateE y n l d = 0) (ry rm rd : Int) (hv : D10.Valid ry rm rd) (hD : D10.dayV y n l d + 1 = D10.dayOf ry rm rd) :
    Calls Tryd.prog 5 #[.agg #[.int .i64 y, .int .i64 n, .bool l, .int .i64 d], .agg #[.int .i64 y, .int .i64 n, .bool l, .int .i64 d]] w fun e w' => e = .returned (.bool true) ∧ Below w.heap.size w w' := by
  obtain ⟨_, b1, b2⟩ := D10.dayV_ok y n l d h1
  have HT1 := Lib.hid (fun w hT hL => heb_ToDay y n l d w hy hT hL)
  have HL := Lib.hid (fun w => heb_Less y n l d y n l d w)
  rw [D10.less_day h1 h1] at HL
  have hnl := D10.next_less h1 hv hD
  have HX := Lib.hid (fun w => heb_Less y n l d ry (Cal.ofN (Cal.leap ry) rm) (Cal.ofL (Cal.leap ry) rm) rd w)
  rw [hnl] at HX
  have HF := Lib.hid (fun w hT hL => heb_FromDay_at ry rm rd w hT hL hv)
  rw [← hD] at HF
  clear hnl hD hv
  generalize Cal.ofN (Cal.leap ry) rm = rn at *
  generalize Cal.ofL (Cal.leap ry) rm = rl at *
  rw [h1] at HT1
  clear h1
  generalize D10.dayV y n l d = v1 at *
  go_enter Tryd.func5, Tryd.ntmps5
  go_wp2_with fail
  refine (HT1.out _ (Tab.below hT (by repeat (first | (with_reducible exact Below.refl _ _) | assumption | (with_reducible refine bdrew ?_) | (with_reducible refine baa ?_ _) | (with_reducible refine bs ?_ (by first | exact Nat.le_refl _ | omega | (simp; omega)) _) | (with_reducible refine bt ?_ (by assumption))))) (Tab.below hL (by repeat (first | (with_reducible exact Below.refl _ _) | assumption | (with_reducible refine bdrew ?_) | (with_reducible refine baa ?_ _) | (with_reducible refine bs ?_ (by first | exact Nat.le_refl _ | omega | (simp; omega)) _) | (with_reducible refine bt ?_ (by assumption)))))).mono ?_
  rintro e w1 ⟨rfl, hb1⟩
  obtain ⟨hc1, hf1⟩ := bcell hb1
  have hz1 := hb1.size
  try simp at hz1
  have hs1x0 : w.heap.size < w1.heap.size := by omega
  have hs1x1 : (w.heap.size + 1) < w1.heap.size := by omega
  have g1x0 : w1.cell? ⟨w.heap.size, 0, none⟩ = some (.int .i64 y) := (hc1 _ _ (by first | omega | (simp; done) | (simp; omega))).trans (by first | assumption | simp [go_sem] | simp [go_sem, *])
  have g1x1 : w1.cell? ⟨w.heap.size, 1, none⟩ = some (.int .i64 n) := (hc1 _ _ (by first | omega | (simp; done) | (simp; omega))).trans (by first | assumption | simp [go_sem] | simp [go_sem, *])
  have g1x2 : w1.cell? ⟨w.heap.size, 2, none⟩ = some (.bool l) := (hc1 _ _ (by first | omega | (simp; done) | (simp; omega))).trans (by first | assumption | simp [go_sem] | simp [go_sem, *])
  have g1x3 : w1.cell? ⟨w.heap.size, 3, none⟩ = some (.int .i64 d) := (hc1 _ _ (by first | omega | (simp; done) | (simp; omega))).trans (by first | assumption | simp [go_sem] | simp [go_sem, *])
  have g1x4 : w1.cell? ⟨(w.heap.size + 1), 0, none⟩ = some (.int .i64 y) := (hc1 _ _ (by first | omega | (simp; done) | (simp; omega))).trans (by first | assumption | simp [go_sem] | simp [go_sem, *])
  have g1x5 : w1.cell? ⟨(w.heap.size + 1), 1, none⟩ = some (.int .i64 n) := (hc1 _ _ (by first | omega | (simp; done) | (simp; omega))).trans (by first | assumption | simp [go_sem] | simp [go_sem, *])
  have g1x6 : w1.cell? ⟨(w.heap.size + 1), 2, none⟩ = some (.bool l) := (hc1 _ _ (by first | omega | (simp; done) | (simp; omega))).trans (by first | assumption | simp [go_sem] | simp [go_sem, *])
  have g1x7 : w1.cell? ⟨(w.heap.size + 1), 3, none⟩ = some (.int .i64 d) := (hc1 _ _ (by first | omega | (simp; done) | (simp; omega))).trans (by first | assumption | simp [go_sem] | simp [go_sem, *])
  go_wp2_with fail
  refine (HT1.out _ (Tab.below hT (by repeat (first | (with_reducible exact Below.refl _ _) | assumption | (with_reducible refine bdrew ?_) | (with_reducible refine baa ?_ _) | (with_reducible refine bs ?_ (by first | exact Nat.le_refl _ | omega | (simp; omega)) _) | (with_reducible refine bt ?_ (by assumption))))) (Tab.below hL (by repeat (first | (with_reducible exact Below.refl _ _) | assumption | (with_reducible refine bdrew ?_) | (with_reducible refine baa ?_ _) | (with_reducible refine bs ?_ (by first | exact Nat.le_refl _ | omega | (simp; omega)) _) | (with_reducible refine bt ?_ (by assumption)))))).mono ?_
  rintro e w2 ⟨rfl, hb2⟩
  obtain ⟨hc2, hf2⟩ := bcell hb2
  have hz2 := hb2.size
  try simp at hz2
  have hs2x0 : w.heap.size < w2.heap.size := by omega
  have hs2x1 : (w.heap.size + 1) < w2.heap.size := by omega
  have g2x0 : w2.cell? ⟨w.heap.size, 0, none⟩ = some (.int .i64 y) := (hc2 _ _ (by first | omega | (simp; done) | (simp; omega))).trans (by first | assumption | simp [go_sem] | simp [go_sem, *])
  have g2x1 : w2.cell? ⟨w.heap.size, 1, none⟩ = some (.int .i64 n) := (hc2 _ _ (by first | omega | (simp; done) | (simp; omega))).trans (by first | assumption | simp [go_sem] | simp [go_sem, *])
  have g2x2 : w2.cell? ⟨w.heap.size, 2, none⟩ = some (.bool l) := (hc2 _ _ (by first | omega | (simp; done) | (simp; omega))).trans (by first | assumption | simp [go_sem] | simp [go_sem, *])
  have g2x3 : w2.cell? ⟨w.heap.size, 3, none⟩ = some (.int .i64 d) := (hc2 _ _ (by first | omega | (simp; done) | (simp; omega))).trans (by first | assumption | simp [go_sem] | simp [go_sem, *])
  have g2x4 : w2.cell? ⟨(w.heap.size + 1), 0, none⟩ = some (.int .i64 y) := (hc2 _ _ (by first | omega | (simp; done) | (simp; omega))).trans (by first | assumption | simp [go_sem] | simp [go_sem, *])
  have g2x5 : w2.cell? ⟨(w.heap.size + 1), 1, none⟩ = some (.int .i64 n) := (hc2 _ _ (by first | omega | (simp; done) | (simp; omega))).trans (by first | assumption | simp [go_sem] | simp [go_sem, *])
  have g2x6 : w2.cell? ⟨(w.heap.size + 1), 2, none⟩ = some (.bool l) := (hc2 _ _ (by first | omega | (simp; done) | (simp; omega))).trans (by first | assumption | simp [go_sem] | simp [go_sem, *])
  have g2x7 : w2.cell? ⟨(w.heap.size + 1), 3, none⟩ = some (.int .i64 d) := (hc2 _ _ (by first | omega | (simp; done) | (simp; omega))).trans (by first | assumption | simp [go_sem] | simp [go_sem, *])
  go_wp2_with fail
  refine (HF.out _ (Tab.below hT (by repeat (first | (with_reducible exact Below.refl _ _) | assumption | (with_reducible refine bdrew ?_) | (with_reducible refine baa ?_ _) | (with_reducible refine bs ?_ (by first | exact Nat.le_refl _ | omega | (simp; omega)) _) | (with_reducible refine bt ?_ (by assumption))))) (Tab.below hL (by repeat (first | (with_reducible exact Below.refl _ _) | assumption | (with_reducible refine bdrew ?_) | (with_reducible refine baa ?_ _) | (with_reducible refine bs ?_ (by first | exact Nat.le_refl _ | omega | (simp; omega)) _) | (with_reducible refine bt ?_ (by assumption)))))).mono ?_
  rintro e w3 ⟨rfl, hb3⟩
  obtain ⟨hc3, hf3⟩ := bcell hb3
  have hz3 := hb3.size
  try simp at hz3
  have hs3x0 : w.heap.size < w3.heap.size := by omega
  have hs3x1 : (w.heap.size + 1) < w3.heap.size := by omega
  have g3x0 : w3.cell? ⟨w.heap.size, 0, none⟩ = some (.int .i64 y) := (hc3 _ _ (by first | omega | (simp; done) | (simp; omega))).trans (by first | assumption | simp [go_sem] | simp [go_sem, *])
  have g3x1 : w3.cell? ⟨w.heap.size, 1, none⟩ = some (.int .i64 n) := (hc3 _ _ (by first | omega | (simp; done) | (simp; omega))).trans (by first | assumption | simp [go_sem] | simp [go_sem, *])
  have g3x2 : w3.cell? ⟨w.heap.size, 2, none⟩ = some (.bool l) := (hc3 _ _ (by first | omega | (simp; done) | (simp; omega))).trans (by first | assumption | simp [go_sem] | simp [go_sem, *])
  have g3x3 : w3.cell? ⟨w.heap.size, 3, none⟩ = some (.int .i64 d) := (hc3 _ _ (by first | omega | (simp; done) | (simp; omega))).trans (by first | assumption | simp [go_sem] | simp [go_sem, *])
  have g3x4 : w3.cell? ⟨(w.heap.size + 1), 0, none⟩ = some (.int .i64 y) := (hc3 _ _ (by first | omega | (simp; done) | (simp; omega))).trans (by first | assumption | simp [go_sem] | simp [go_sem, *])
  have g3x5 : w3.cell? ⟨(w.heap.size + 1), 1, none⟩ = some (.int .i64 n) := (hc3 _ _ (by first | omega | (simp; done) | (simp; omega))).trans (by first | assumption | simp [go_sem] | simp [go_sem, *])
  have g3x6 : w3.cell? ⟨(w.heap.size + 1), 2, none⟩ = some (.bool l) := (hc3 _ _ (by first | omega | (simp; done) | (simp; omega))).trans (by first | assumption | simp [go_sem] | simp [go_sem, *])
  have g3x7 : w3.cell? ⟨(w.heap.size + 1), 3, none⟩ = some (.int .i64 d) := (hc3 _ _ (by first | omega | (simp; done) | (simp; omega))).trans (by first | assumption | simp [go_sem] | simp [go_sem, *])
  go_wp2_with fail
  refine (HX.out _).mono ?_
  rintro e w4 ⟨rfl, hb4⟩
  obtain ⟨hc4, hf4⟩ := bcell hb4
  have hz4 := hb4.size
  try simp at hz4
  have hl4w3 : w3.heap.size < w4.heap.size := by omega
  have hm4w3 : w3.heap.size ≤ w4.heap.size := by omega
  have hs4x0 : w.heap.size < w4.heap.size := by omega
  have hs4x1 : (w.heap.size + 1) < w4.heap.size := by omega
  have g4x0 : w4.cell? ⟨w.heap.size, 0, none⟩ = some (.int .i64 y) := (hc4 _ _ (by first | omega | (simp; done) | (simp; omega))).trans (by first | assumption | simp [go_sem] | simp [go_sem, *])
  have g4x1 : w4.cell? ⟨w.heap.size, 1, none⟩ = some (.int .i64 n) := (hc4 _ _ (by first | omega | (simp; done) | (simp; omega))).trans (by first | assumption | simp [go_sem] | simp [go_sem, *])
  have g4x2 : w4.cell? ⟨w.heap.size, 2, none⟩ = some (.bool l) := (hc4 _ _ (by first | omega | (simp; done) | (simp; omega))).trans (by first | assumption | simp [go_sem] | simp [go_sem, *])
  have g4x3 : w4.cell? ⟨w.heap.size, 3, none⟩ = some (.int .i64 d) := (hc4 _ _ (by first | omega | (simp; done) | (simp; omega))).trans (by first | assumption | simp [go_sem] | simp [go_sem, *])
  have g4x4 : w4.cell? ⟨(w.heap.size + 1), 0, none⟩ = some (.int .i64 y) := (hc4 _ _ (by first | omega | (simp; done) | (simp; omega))).trans (by first | assumption | simp [go_sem] | simp [go_sem, *])
  have g4x5 : w4.cell? ⟨(w.heap.size + 1), 1, none⟩ = some (.int .i64 n) := (hc4 _ _ (by first | omega | (simp; done) | (simp; omega))).trans (by first | assumption | simp [go_sem] | simp [go_sem, *])
  have g4x6 : w4.cell? ⟨(w.heap.size + 1), 2, none⟩ = some (.bool l) := (hc4 _ _ (by first | omega | (simp; done) | (simp; omega))).trans (by first | assumption | simp [go_sem] | simp [go_sem, *])
  have g4x7 : w4.cell? ⟨(w.heap.size + 1), 3, none⟩ = some (.int .i64 d) := (hc4 _ _ (by first | omega | (simp; done) | (simp; omega))).trans (by first | assumption | simp [go_sem] | simp [go_sem, *])
  have g4x8 : w4.cell? ⟨w3.heap.size, 0, none⟩ = some (.int .i64 ry) := (hc4 _ _ (by first | omega | (simp; done) | (simp; omega))).trans (by first | assumption | simp [go_sem] | simp [go_sem, *])
  have g4x9 : w4.cell? ⟨w3.heap.size, 1, none⟩ = some (.int .i64 rn) := (hc4 _ _ (by first | omega | (simp; done) | (simp; omega))).trans (by first | assumption | simp [go_sem] | simp [go_sem, *])
  have g4x10 : w4.cell? ⟨w3.heap.size, 2, none⟩ = some (.bool rl) := (hc4 _ _ (by first | omega | (simp; done) | (simp; omega))).trans (by first | assumption | simp [go_sem] | simp [go_sem, *])
  have g4x11 : w4.cell? ⟨w3.heap.size, 3, none⟩ = some (.int .i64 rd) := (hc4 _ _ (by first | omega | (simp; done) | (simp; omega))).trans (by first | assumption | simp [go_sem] | simp [go_sem, *])
  go_wp2_with fail
  refine (awake10 _ (Tab.below hT (by repeat (first | (with_reducible exact Below.refl _ _) | assumption | (with_reducible refine bdrew ?_) | (with_reducible refine baa ?_ _) | (with_reducible refine bs ?_ (by first | exact Nat.le_refl _ | omega | (simp; omega)) _) | (with_reducible refine bt ?_ (by assumption))))) (Tab.below hL (by repeat (first | (with_reducible exact Below.refl _ _) | assumption | (with_reducible refine bdrew ?_) | (with_reducible refine baa ?_ _) | (with_reducible refine bs ?_ (by first | exact Nat.le_refl _ | omega | (simp; omega)) _) | (with_reducible refine bt ?_ (by assumption)))))).mono ?_
  rintro e w5 ⟨rfl, hb5⟩
  obtain ⟨hc5, hf5⟩ := bcell hb5
  have hz5 := hb5.size
  try simp at hz5
  have hl5w3 : w3.heap.size < w5.heap.size := by omega
  have hm5w3 : w3.heap.size ≤ w5.heap.size := by omega
  have hs5x0 : w.heap.size < w5.heap.size := by omega
  have hs5x1 : (w.heap.size + 1) < w5.heap.size := by omega
  have g5x0 : w5.cell? ⟨w.heap.size, 0, none⟩ = some (.int .i64 y) := (hc5 _ _ (by first | omega | (simp; done) | (simp; omega))).trans (by first | assumption | simp [go_sem] | simp [go_sem, *])
  have g5x1 : w5.cell? ⟨w.heap.size, 1, none⟩ = some (.int .i64 n) := (hc5 _ _ (by first | omega | (simp; done) | (simp; omega))).trans (by first | assumption | simp [go_sem] | simp [go_sem, *])
  have g5x2 : w5.cell? ⟨w.heap.size, 2, none⟩ = some (.bool l) := (hc5 _ _ (by first | omega | (simp; done) | (simp; omega))).trans (by first | assumption | simp [go_sem] | simp [go_sem, *])
  have g5x3 : w5.cell? ⟨w.heap.size, 3, none⟩ = some (.int .i64 d) := (hc5 _ _ (by first | omega | (simp; done) | (simp; omega))).trans (by first | assumption | simp [go_sem] | simp [go_sem, *])
  have g5x4 : w5.cell? ⟨(w.heap.size + 1), 0, none⟩ = some (.int .i64 y) := (hc5 _ _ (by first | omega | (simp; done) | (simp; omega))).trans (by first | assumption | simp [go_sem] | simp [go_sem, *])
  have g5x5 : w5.cell? ⟨(w.heap.size + 1), 1, none⟩ = some (.int .i64 n) := (hc5 _ _ (by first | omega | (simp; done) | (simp; omega))).trans (by first | assumption | simp [go_sem] | simp [go_sem, *])
  have g5x6 : w5.cell? ⟨(w.heap.size + 1), 2, none⟩ = some (.bool l) := (hc5 _ _ (by first | omega | (simp; done) | (simp; omega))).trans (by first | assumption | simp [go_sem] | simp [go_sem, *])
  have g5x7 : w5.cell? ⟨(w.heap.size + 1), 3, none⟩ = some (.int .i64 d) := (hc5 _ _ (by first | omega | (simp; done) | (simp; omega))).trans (by first | assumption | simp [go_sem] | simp [go_sem, *])
  have g5x8 : w5.cell? ⟨w3.heap.size, 0, none⟩ = some (.int .i64 ry) := (hc5 _ _ (by first | omega | (simp; done) | (simp; omega))).trans (by first | assumption | simp [go_sem] | simp [go_sem, *])
  have g5x9 : w5.cell? ⟨w3.heap.size, 1, none⟩ = some (.int .i64 rn) := (hc5 _ _ (by first | omega | (simp; done) | (simp; omega))).trans (by first | assumption | simp [go_sem] | simp [go_sem, *])
  have g5x10 : w5.cell? ⟨w3.heap.size, 2, none⟩ = some (.bool rl) := (hc5 _ _ (by first | omega | (simp; done) | (simp; omega))).trans (by first | assumption | simp [go_sem] | simp [go_sem, *])
  have g5x11 : w5.cell? ⟨w3.heap.size, 3, none⟩ = some (.int .i64 rd) := (hc5 _ _ (by first | omega | (simp; done) | (simp; omega))).trans (by first | assumption | simp [go_sem] | simp [go_sem, *])
  go_wp2_with fail
  refine (HL.out _).mono ?_
  rintro e w6 ⟨rfl, hb6⟩
  obtain ⟨hc6, hf6⟩ := bcell hb6
  have hz6 := hb6.size
  try simp at hz6
  have hl6w3 : w3.heap.size < w6.heap.size := by omega
  have hm6w3 : w3.heap.size ≤ w6.heap.size := by omega
  have hs6x0 : w.heap.size < w6.heap.size := by omega
  have hs6x1 : (w.heap.size + 1) < w6.heap.size := by omega
  have g6x0 : w6.cell? ⟨w.heap.size, 0, none⟩ = some (.int .i64 y) := (hc6 _ _ (by first | omega | (simp; done) | (simp; omega))).trans (by first | assumption | simp [go_sem] | simp [go_sem, *])
  have g6x1 : w6.cell? ⟨w.heap.size, 1, none⟩ = some (.int .i64 n) := (hc6 _ _ (by first | omega | (simp; done) | (simp; omega))).trans (by first | assumption | simp [go_sem] | simp [go_sem, *])
  have g6x2 : w6.cell? ⟨w.heap.size, 2, none⟩ = some (.bool l) := (hc6 _ _ (by first | omega | (simp; done) | (simp; omega))).trans (by first | assumption | simp [go_sem] | simp [go_sem, *])
  have g6x3 : w6.cell? ⟨w.heap.size, 3, none⟩ = some (.int .i64 d) := (hc6 _ _ (by first | omega | (simp; done) | (simp; omega))).trans (by first | assumption | simp [go_sem] | simp [go_sem, *])
  have g6x4 : w6.cell? ⟨(w.heap.size + 1), 0, none⟩ = some (.int .i64 y) := (hc6 _ _ (by first | omega | (simp; done) | (simp; omega))).trans (by first | assumption | simp [go_sem] | simp [go_sem, *])
  have g6x5 : w6.cell? ⟨(w.heap.size + 1), 1, none⟩ = some (.int .i64 n) := (hc6 _ _ (by first | omega | (simp; done) | (simp; omega))).trans (by first | assumption | simp [go_sem] | simp [go_sem, *])
  have g6x6 : w6.cell? ⟨(w.heap.size + 1), 2, none⟩ = some (.bool l) := (hc6 _ _ (by first | omega | (simp; done) | (simp; omega))).trans (by first | assumption | simp [go_sem] | simp [go_sem, *])
  have g6x7 : w6.cell? ⟨(w.heap.size + 1), 3, none⟩ = some (.int .i64 d) := (hc6 _ _ (by first | omega | (simp; done) | (simp; omega))).trans (by first | assumption | simp [go_sem] | simp [go_sem, *])
  have g6x8 : w6.cell? ⟨w3.heap.size, 0, none⟩ = some (.int .i64 ry) := (hc6 _ _ (by first | omega | (simp; done) | (simp; omega))).trans (by first | assumption | simp [go_sem] | simp [go_sem, *])
  have g6x9 : w6.cell? ⟨w3.heap.size, 1, none⟩ = some (.int .i64 rn) := (hc6 _ _ (by first | omega | (simp; done) | (simp; omega))).trans (by first | assumption | simp [go_sem] | simp [go_sem, *])
  have g6x10 : w6.cell? ⟨w3.heap.size, 2, none⟩ = some (.bool rl) := (hc6 _ _ (by first | omega | (simp; done) | (simp; omega))).trans (by first | assumption | simp [go_sem] | simp [go_sem, *])
  have g6x11 : w6.cell? ⟨w3.heap.size, 3, none⟩ = some (.int .i64 rd) := (hc6 _ _ (by first | omega | (simp; done) | (simp; omega))).trans (by first | assumption | simp [go_sem] | simp [go_sem, *])
  go_wp2_with fail
  go_ret
  refine ⟨?_, ?_⟩
  · simp [*]
  repeat (first | (with_reducible exact Below.refl _ _) | assumption | (with_reducible refine bdrew ?_) | (with_reducible refine baa ?_ _) | (with_reducible refine bs ?_ (by first | exact Nat.le_refl _ | omega | (simp; omega)) _) | (with_reducible refine bt ?_ (by assumption)))
set_option maxHeartbeats 2000000 in
theorem HebNext_at_y (y n : Int) (l : Bool) (d z k : Int) (h : Bool) (f : Int) (hy : I64 y) (hz : I64 z) (w : World) (hT : Tab w 2 kevCells) (hL : Tab w 1 lenCells) (h1 : D10.dateE y n l d = 0) (h2 : D10.dateE z k h f = 0) (hne : ¬ y = z) (ry rm rd : Int) (hv : D10.Valid ry rm rd) (hD : D10.dayV y n l d + 1 = D10.dayOf ry rm rd) :
    Calls Tryd.prog 5 #[.agg #[.int .i64 y, .int .i64 n, .bool l, .int .i64 d], .agg #[.int .i64 z, .int .i64 k, .bool h, .int .i64 f]] w fun e w' => e = .returned (.bool true) ∧ Below w.heap.size w w' := by
  obtain ⟨_, b1, b2⟩ := D10.dayV_ok y n l d h1
  have HT1 := Lib.hid (fun w hT hL => heb_ToDay y n l d w hy hT hL)
  have HT2 := Lib.hid (fun w hT hL => heb_ToDay z k h f w hz hT hL)
  have HL := Lib.hid (fun w => heb_Less y n l d z k h f w)
  have hv13 : ¬ D10.dayV y n l d = D10.dayV z k h f := fun e => hne (by have := D10.same_day h1 h2 e; simp [this])
  rw [D10.less_day h1 h2] at HL
  have hnl := D10.next_less h1 hv hD
  have HX := Lib.hid (fun w => heb_Less y n l d ry (Cal.ofN (Cal.leap ry) rm) (Cal.ofL (Cal.leap ry) rm) rd w)
  rw [hnl] at HX
  have HF := Lib.hid (fun w hT hL => heb_FromDay_at ry rm rd w hT hL hv)
  rw [← hD] at HF
  clear hnl hD hv
  generalize Cal.ofN (Cal.leap ry) rm = rn at *
  generalize Cal.ofL (Cal.leap ry) rm = rl at *
  rw [h1] at HT1
  rw [h2] at HT2
  clear h2
  clear h1
  generalize D10.dayV y n l d = v1 at *
  generalize D10.dayV z k h f = v3 at *
  go_enter Tryd.func5, Tryd.ntmps5
  go_wp2_with fail
  refine (HT1.out _ (Tab.below hT (by repeat (first | (with_reducible exact Below.refl _ _) | assumption | (with_reducible refine bdrew ?_) | (with_reducible refine baa ?_ _) | (with_reducible refine bs ?_ (by first | exact Nat.le_refl _ | omega | (simp; omega)) _) | (with_reducible refine bt ?_ (by assumption))))) (Tab.below hL (by repeat (first | (with_reducible exact Below.refl _ _) | assumption | (with_reducible refine bdrew ?_) | (with_reducible refine baa ?_ _) | (with_reducible refine bs ?_ (by first | exact Nat.le_refl _ | omega | (simp; omega)) _) | (with_reducible refine bt ?_ (by assumption)))))).mono ?_
  rintro e w1 ⟨rfl, hb1⟩
  obtain ⟨hc1, hf1⟩ := bcell hb1
  have hz1 := hb1.size
  try simp at hz1
  have hs1x0 : w.heap.size < w1.heap.size := by omega
  have hs1x1 : (w.heap.size + 1) < w1.heap.size := by omega
  have g1x0 : w1.cell? ⟨w.heap.size, 0, none⟩ = some (.int .i64 y) := (hc1 _ _ (by first | omega | (simp; done) | (simp; omega))).trans (by first | assumption | simp [go_sem] | simp [go_sem, *])
  have g1x1 : w1.cell? ⟨w.heap.size, 1, none⟩ = some (.int .i64 n) := (hc1 _ _ (by first | omega | (simp; done) | (simp; omega))).trans (by first | assumption | simp [go_sem] | simp [go_sem, *])
  have g1x2 : w1.cell? ⟨w.heap.size, 2, none⟩ = some (.bool l) := (hc1 _ _ (by first | omega | (simp; done) | (simp; omega))).trans (by first | assumption | simp [go_sem] | simp [go_sem, *])
  have g1x3 : w1.cell? ⟨w.heap.size, 3, none⟩ = some (.int .i64 d) := (hc1 _ _ (by first | omega | (simp; done) | (simp; omega))).trans (by first | assumption | simp [go_sem] | simp [go_sem, *])
  have g1x4 : w1.cell? ⟨(w.heap.size + 1), 0, none⟩ = some (.int .i64 z) := (hc1 _ _ (by first | omega | (simp; done) | (simp; omega))).trans (by first | assumption | simp [go_sem] | simp [go_sem, *])
  have g1x5 : w1.cell? ⟨(w.heap.size + 1), 1, none⟩ = some (.int .i64 k) := (hc1 _ _ (by first | omega | (simp; done) | (simp; omega))).trans (by first | assumption | simp [go_sem] | simp [go_sem, *])
  have g1x6 : w1.cell? ⟨(w.heap.size + 1), 2, none⟩ = some (.bool h) := (hc1 _ _ (by first | omega | (simp; done) | (simp; omega))).trans (by first | assumption | simp [go_sem] | simp [go_sem, *])
  have g1x7 : w1.cell? ⟨(w.heap.size + 1), 3, none⟩ = some (.int .i64 f) := (hc1 _ _ (by first | omega | (simp; done) | (simp; omega))).trans (by first | assumption | simp [go_sem] | simp [go_sem, *])
  go_wp2_with fail
  refine (HT2.out _ (Tab.below hT (by repeat (first | (with_reducible exact Below.refl _ _) | assumption | (with_reducible refine bdrew ?_) | (with_reducible refine baa ?_ _) | (with_reducible refine bs ?_ (by first | exact Nat.le_refl _ | omega | (simp; omega)) _) | (with_reducible refine bt ?_ (by assumption))))) (Tab.below hL (by repeat (first | (with_reducible exact Below.refl _ _) | assumption | (with_reducible refine bdrew ?_) | (with_reducible refine baa ?_ _) | (with_reducible refine bs ?_ (by first | exact Nat.le_refl _ | omega | (simp; omega)) _) | (with_reducible refine bt ?_ (by assumption)))))).mono ?_
  rintro e w2 ⟨rfl, hb2⟩
  obtain ⟨hc2, hf2⟩ := bcell hb2
  have hz2 := hb2.size
  try simp at hz2
  have hs2x0 : w.heap.size < w2.heap.size := by omega
  have hs2x1 : (w.heap.size + 1) < w2.heap.size := by omega
  have g2x0 : w2.cell? ⟨w.heap.size, 0, none⟩ = some (.int .i64 y) := (hc2 _ _ (by first | omega | (simp; done) | (simp; omega))).trans (by first | assumption | simp [go_sem] | simp [go_sem, *])
  have g2x1 : w2.cell? ⟨w.heap.size, 1, none⟩ = some (.int .i64 n) := (hc2 _ _ (by first | omega | (simp; done) | (simp; omega))).trans (by first | assumption | simp [go_sem] | simp [go_sem, *])
  have g2x2 : w2.cell? ⟨w.heap.size, 2, none⟩ = some (.bool l) := (hc2 _ _ (by first | omega | (simp; done) | (simp; omega))).trans (by first | assumption | simp [go_sem] | simp [go_sem, *])
  have g2x3 : w2.cell? ⟨w.heap.size, 3, none⟩ = some (.int .i64 d) := (hc2 _ _ (by first | omega | (simp; done) | (simp; omega))).trans (by first | assumption | simp [go_sem] | simp [go_sem, *])
  have g2x4 : w2.cell? ⟨(w.heap.size + 1), 0, none⟩ = some (.int .i64 z) := (hc2 _ _ (by first | omega | (simp; done) | (simp; omega))).trans (by first | assumption | simp [go_sem] | simp [go_sem, *])
  have g2x5 : w2.cell? ⟨(w.heap.size + 1), 1, none⟩ = some (.int .i64 k) := (hc2 _ _ (by first | omega | (simp; done) | (simp; omega))).trans (by first | assumption | simp [go_sem] | simp [go_sem, *])
  have g2x6 : w2.cell? ⟨(w.heap.size + 1), 2, none⟩ = some (.bool h) := (hc2 _ _ (by first | omega | (simp; done) | (simp; omega))).trans (by first | assumption | simp [go_sem] | simp [go_sem, *])
  have g2x7 : w2.cell? ⟨(w.heap.size + 1), 3, none⟩ = some (.int .i64 f) := (hc2 _ _ (by first | omega | (simp; done) | (simp; omega))).trans (by first | assumption | simp [go_sem] | simp [go_sem, *])
  go_wp2_with fail
  refine (HF.out _ (Tab.below hT (by repeat (first | (with_reducible exact Below.refl _ _) | assumption | (with_reducible refine bdrew ?_) | (with_reducible refine baa ?_ _) | (with_reducible refine bs ?_ (by first | exact Nat.le_refl _ | omega | (simp; omega)) _) | (with_reducible refine bt ?_ (by assumption))))) (Tab.below hL (by repeat (first | (with_reducible exact Below.refl _ _) | assumption | (with_reducible refine bdrew ?_) | (with_reducible refine baa ?_ _) | (with_reducible refine bs ?_ (by first | exact Nat.le_refl _ | omega | (simp; omega)) _) | (with_reducible refine bt ?_ (by assumption)))))).mono ?_
  rintro e w3 ⟨rfl, hb3⟩
  obtain ⟨hc3, hf3⟩ := bcell hb3
  have hz3 := hb3.size
  try simp at hz3
  have hs3x0 : w.heap.size < w3.heap.size := by omega
  have hs3x1 : (w.heap.size + 1) < w3.heap.size := by omega
  have g3x0 : w3.cell? ⟨w.heap.size, 0, none⟩ = some (.int .i64 y) := (hc3 _ _ (by first | omega | (simp; done) | (simp; omega))).trans (by first | assumption | simp [go_sem] | simp [go_sem, *])
  have g3x1 : w3.cell? ⟨w.heap.size, 1, none⟩ = some (.int .i64 n) := (hc3 _ _ (by first | omega | (simp; done) | (simp; omega))).trans (by first | assumption | simp [go_sem] | simp [go_sem, *])
  have g3x2 : w3.cell? ⟨w.heap.size, 2, none⟩ = some (.bool l) := (hc3 _ _ (by first | omega | (simp; done) | (simp; omega))).trans (by first | assumption | simp [go_sem] | simp [go_sem, *])
  have g3x3 : w3.cell? ⟨w.heap.size, 3, none⟩ = some (.int .i64 d) := (hc3 _ _ (by first | omega | (simp; done) | (simp; omega))).trans (by first | assumption | simp [go_sem] | simp [go_sem, *])
  have g3x4 : w3.cell? ⟨(w.heap.size + 1), 0, none⟩ = some (.int .i64 z) := (hc3 _ _ (by first | omega | (simp; done) | (simp; omega))).trans (by first | assumption | simp [go_sem] | simp [go_sem, *])
  have g3x5 : w3.cell? ⟨(w.heap.size + 1), 1, none⟩ = some (.int .i64 k) := (hc3 _ _ (by first | omega | (simp; done) | (simp; omega))).trans (by first | assumption | simp [go_sem] | simp [go_sem, *])
  have g3x6 : w3.cell? ⟨(w.heap.size + 1), 2, none⟩ = some (.bool h) := (hc3 _ _ (by first | omega | (simp; done) | (simp; omega))).trans (by first | assumption | simp [go_sem] | simp [go_sem, *])
  have g3x7 : w3.cell? ⟨(w.heap.size + 1), 3, none⟩ = some (.int .i64 f) := (hc3 _ _ (by first | omega | (simp; done) | (simp; omega))).trans (by first | assumption | simp [go_sem] | simp [go_sem, *])
  go_wp2_with fail
  refine (HX.out _).mono ?_
  rintro e w4 ⟨rfl, hb4⟩
  obtain ⟨hc4, hf4⟩ := bcell hb4
  have hz4 := hb4.size
  try simp at hz4
  have hl4w3 : w3.heap.size < w4.heap.size := by omega
  have hm4w3 : w3.heap.size ≤ w4.heap.size := by omega
  have hs4x0 : w.heap.size < w4.heap.size := by omega
  have hs4x1 : (w.heap.size + 1) < w4.heap.size := by omega
  have g4x0 : w4.cell? ⟨w.heap.size, 0, none⟩ = some (.int .i64 y) := (hc4 _ _ (by first | omega | (simp; done) | (simp; omega))).trans (by first | assumption | simp [go_sem] | simp [go_sem, *])
  have g4x1 : w4.cell? ⟨w.heap.size, 1, none⟩ = some (.int .i64 n) := (hc4 _ _ (by first | omega | (simp; done) | (simp; omega))).trans (by first | assumption | simp [go_sem] | simp [go_sem, *])
  have g4x2 : w4.cell? ⟨w.heap.size, 2, none⟩ = some (.bool l) := (hc4 _ _ (by first | omega | (simp; done) | (simp; omega))).trans (by first | assumption | simp [go_sem] | simp [go_sem, *])
  have g4x3 : w4.cell? ⟨w.heap.size, 3, none⟩ = some (.int .i64 d) := (hc4 _ _ (by first | omega | (simp; done) | (simp; omega))).trans (by first | assumption | simp [go_sem] | simp [go_sem, *])
  have g4x4 : w4.cell? ⟨(w.heap.size + 1), 0, none⟩ = some (.int .i64 z) := (hc4 _ _ (by first | omega | (simp; done) | (simp; omega))).trans (by first | assumption | simp [go_sem] | simp [go_sem, *])
  have g4x5 : w4.cell? ⟨(w.heap.size + 1), 1, none⟩ = some (.int .i64 k) := (hc4 _ _ (by first | omega | (simp; done) | (simp; omega))).trans (by first | assumption | simp [go_sem] | simp [go_sem, *])
  have g4x6 : w4.cell? ⟨(w.heap.size + 1), 2, none⟩ = some (.bool h) := (hc4 _ _ (by first | omega | (simp; done) | (simp; omega))).trans (by first | assumption | simp [go_sem] | simp [go_sem, *])
  have g4x7 : w4.cell? ⟨(w.heap.size + 1), 3, none⟩ = some (.int .i64 f) := (hc4 _ _ (by first | omega | (simp; done) | (simp; omega))).trans (by first | assumption | simp [go_sem] | simp [go_sem, *])
  have g4x8 : w4.cell? ⟨w3.heap.size, 0, none⟩ = some (.int .i64 ry) := (hc4 _ _ (by first | omega | (simp; done) | (simp; omega))).trans (by first | assumption | simp [go_sem] | simp [go_sem, *])
  have g4x9 : w4.cell? ⟨w3.heap.size, 1, none⟩ = some (.int .i64 rn) := (hc4 _ _ (by first | omega | (simp; done) | (simp; omega))).trans (by first | assumption | simp [go_sem] | simp [go_sem, *])
  have g4x10 : w4.cell? ⟨w3.heap.size, 2, none⟩ = some (.bool rl) := (hc4 _ _ (by first | omega | (simp; done) | (simp; omega))).trans (by first | assumption | simp [go_sem] | simp [go_sem, *])
  have g4x11 : w4.cell? ⟨w3.heap.size, 3, none⟩ = some (.int .i64 rd) := (hc4 _ _ (by first | omega | (simp; done) | (simp; omega))).trans (by first | assumption | simp [go_sem] | simp [go_sem, *])
  go_wp2_with fail
  refine (awake10 _ (Tab.below hT (by repeat (first | (with_reducible exact Below.refl _ _) | assumption | (with_reducible refine bdrew ?_) | (with_reducible refine baa ?_ _) | (with_reducible refine bs ?_ (by first | exact Nat.le_refl _ | omega | (simp; omega)) _) | (with_reducible refine bt ?_ (by assumption))))) (Tab.below hL (by repeat (first | (with_reducible exact Below.refl _ _) | assumption | (with_reducible refine bdrew ?_) | (with_reducible refine baa ?_ _) | (with_reducible refine bs ?_ (by first | exact Nat.le_refl _ | omega | (simp; omega)) _) | (with_reducible refine bt ?_ (by assumption)))))).mono ?_
  rintro e w5 ⟨rfl, hb5⟩
  obtain ⟨hc5, hf5⟩ := bcell hb5
  have hz5 := hb5.size
  try simp at hz5
  have hl5w3 : w3.heap.size < w5.heap.size := by omega
  have hm5w3 : w3.heap.size ≤ w5.heap.size := by omega
  have hs5x0 : w.heap.size < w5.heap.size := by omega
  have hs5x1 : (w.heap.size + 1) < w5.heap.size := by omega
  have g5x0 : w5.cell? ⟨w.heap.size, 0, none⟩ = some (.int .i64 y) := (hc5 _ _ (by first | omega | (simp; done) | (simp; omega))).trans (by first | assumption | simp [go_sem] | simp [go_sem, *])
  have g5x1 : w5.cell? ⟨w.heap.size, 1, none⟩ = some (.int .i64 n) := (hc5 _ _ (by first | omega | (simp; done) | (simp; omega))).trans (by first | assumption | simp [go_sem] | simp [go_sem, *])
  have g5x2 : w5.cell? ⟨w.heap.size, 2, none⟩ = some (.bool l) := (hc5 _ _ (by first | omega | (simp; done) | (simp; omega))).trans (by first | assumption | simp [go_sem] | simp [go_sem, *])
  have g5x3 : w5.cell? ⟨w.heap.size, 3, none⟩ = some (.int .i64 d) := (hc5 _ _ (by first | omega | (simp; done) | (simp; omega))).trans (by first | assumption | simp [go_sem] | simp [go_sem, *])
  have g5x4 : w5.cell? ⟨(w.heap.size + 1), 0, none⟩ = some (.int .i64 z) := (hc5 _ _ (by first | omega | (simp; done) | (simp; omega))).trans (by first | assumption | simp [go_sem] | simp [go_sem, *])
  have g5x5 : w5.cell? ⟨(w.heap.size + 1), 1, none⟩ = some (.int .i64 k) := (hc5 _ _ (by first | omega | (simp; done) | (simp; omega))).trans (by first | assumption | simp [go_sem] | simp [go_sem, *])
  have g5x6 : w5.cell? ⟨(w.heap.size + 1), 2, none⟩ = some (.bool h) := (hc5 _ _ (by first | omega | (simp; done) | (simp; omega))).trans (by first | assumption | simp [go_sem] | simp [go_sem, *])
  have g5x7 : w5.cell? ⟨(w.heap.size + 1), 3, none⟩ = some (.int .i64 f) := (hc5 _ _ (by first | omega | (simp; done) | (simp; omega))).trans (by first | assumption | simp [go_sem] | simp [go_sem, *])
  have g5x8 : w5.cell? ⟨w3.heap.size, 0, none⟩ = some (.int .i64 ry) := (hc5 _ _ (by first | omega | (simp; done) | (simp; omega))).trans (by first | assumption | simp [go_sem] | simp [go_sem, *])
  have g5x9 : w5.cell? ⟨w3.heap.size, 1, none⟩ = some (.int .i64 rn) := (hc5 _ _ (by first | omega | (simp; done) | (simp; omega))).trans (by first | assumption | simp [go_sem] | simp [go_sem, *])
  have g5x10 : w5.cell? ⟨w3.heap.size, 2, none⟩ = some (.bool rl) := (hc5 _ _ (by first | omega | (simp; done) | (simp; omega))).trans (by first | assumption | simp [go_sem] | simp [go_sem, *])
  have g5x11 : w5.cell? ⟨w3.heap.size, 3, none⟩ = some (.int .i64 rd) := (hc5 _ _ (by first | omega | (simp; done) | (simp; omega))).trans (by first | assumption | simp [go_sem] | simp [go_sem, *])
  go_wp2_with fail
  refine (HL.out _).mono ?_
  rintro e w6 ⟨rfl, hb6⟩
  obtain ⟨hc6, hf6⟩ := bcell hb6
  have hz6 := hb6.size
  try simp at hz6
  have hl6w3 : w3.heap.size < w6.heap.size := by omega
  have hm6w3 : w3.heap.size ≤ w6.heap.size := by omega
  have hs6x0 : w.heap.size < w6.heap.size := by omega
  have hs6x1 : (w.heap.size + 1) < w6.heap.size := by omega
  have g6x0 : w6.cell? ⟨w.heap.size, 0, none⟩ = some (.int .i64 y) := (hc6 _ _ (by first | omega | (simp; done) | (simp; omega))).trans (by first | assumption | simp [go_sem] | simp [go_sem, *])
  have g6x1 : w6.cell? ⟨w.heap.size, 1, none⟩ = some (.int .i64 n) := (hc6 _ _ (by first | omega | (simp; done) | (simp; omega))).trans (by first | assumption | simp [go_sem] | simp [go_sem, *])
  have g6x2 : w6.cell? ⟨w.heap.size, 2, none⟩ = some (.bool l) := (hc6 _ _ (by first | omega | (simp; done) | (simp; omega))).trans (by first | assumption | simp [go_sem] | simp [go_sem, *])
  have g6x3 : w6.cell? ⟨w.heap.size, 3, none⟩ = some (.int .i64 d) := (hc6 _ _ (by first | omega | (simp; done) | (simp; omega))).trans (by first | assumption | simp [go_sem] | simp [go_sem, *])
  have g6x4 : w6.cell? ⟨(w.heap.size + 1), 0, none⟩ = some (.int .i64 z) := (hc6 _ _ (by first | omega | (simp; done) | (simp; omega))).trans (by first | assumption | simp [go_sem] | simp [go_sem, *])
  have g6x5 : w6.cell? ⟨(w.heap.size + 1), 1, none⟩ = some (.int .i64 k) := (hc6 _ _ (by first | omega | (simp; done) | (simp; omega))).trans (by first | assumption | simp [go_sem] | simp [go_sem, *])
  have g6x6 : w6.cell? ⟨(w.heap.size + 1), 2, none⟩ = some (.bool h) := (hc6 _ _ (by first | omega | (simp; done) | (simp; omega))).trans (by first | assumption | simp [go_sem] | simp [go_sem, *])
  have g6x7 : w6.cell? ⟨(w.heap.size + 1), 3, none⟩ = some (.int .i64 f) := (hc6 _ _ (by first | omega | (simp; done) | (simp; omega))).trans (by first | assumption | simp [go_sem] | simp [go_sem, *])
  have g6x8 : w6.cell? ⟨w3.heap.size, 0, none⟩ = some (.int .i64 ry) := (hc6 _ _ (by first | omega | (simp; done) | (simp; omega))).trans (by first | assumption | simp [go_sem] | simp [go_sem, *])
  have g6x9 : w6.cell? ⟨w3.heap.size, 1, none⟩ = some (.int .i64 rn) := (hc6 _ _ (by first | omega | (simp; done) | (simp; omega))).trans (by first | assumption | simp [go_sem] | simp [go_sem, *])
  have g6x10 : w6.cell? ⟨w3.heap.size, 2, none⟩ = some (.bool rl) := (hc6 _ _ (by first | omega | (simp; done) | (simp; omega))).trans (by first | assumption | simp [go_sem] | simp [go_sem, *])
  have g6x11 : w6.cell? ⟨w3.heap.size, 3, none⟩ = some (.int .i64 rd) := (hc6 _ _ (by first | omega | (simp; done) | (simp; omega))).trans (by first | assumption | simp [go_sem] | simp [go_sem, *])
  go_wp2_with fail
  go_ret
  refine ⟨?_, ?_⟩
  · simp [*]
  repeat (first | (with_reducible exact Below.refl _ _) | assumption | (with_reducible refine bdrew ?_) | (with_reducible refine baa ?_ _) | (with_reducible refine bs ?_ (by first | exact Nat.le_refl _ | omega | (simp; omega)) _) | (with_reducible refine bt ?_ (by assumption)))
set_option maxHeartbeats 2000000 in
theorem HebNext_at_n (y n : Int) (l : Bool) (d z k : Int) (h : Bool) (f : Int) (hy : I64 y) (hz : I64 z) (w : World) (hT : Tab w 2 kevCells) (hL : Tab w 1 lenCells) (h1 : D10.dateE y n l d = 0) (h2 : D10.dateE z k h f = 0) (hne : ¬ n = k) (ry rm rd : Int) (hv : D10.Valid ry rm rd) (hD : D10.dayV y n l d + 1 = D10.dayOf ry rm rd) :
    Calls Tryd.prog 5 #[.agg #[.int .i64 y, .int .i64 n, .bool l, .int .i64 d], .agg #[.int .i64 z, .int .i64 k, .bool h, .int .i64 f]] w fun e w' => e = .returned (.bool true) ∧ Below w.heap.size w w' := by
  obtain ⟨_, b1, b2⟩ := D10.dayV_ok y n l d h1
  have HT1 := Lib.hid (fun w hT hL => heb_ToDay y n l d w hy hT hL)
  have HT2 := Lib.hid (fun w hT hL => heb_ToDay z k h f w hz hT hL)
  have HL := Lib.hid (fun w => heb_Less y n l d z k h f w)
  have hv13 : ¬ D10.dayV y n l d = D10.dayV z k h f := fun e => hne (by have := D10.same_day h1 h2 e; simp [this])
  rw [D10.less_day h1 h2] at HL
  have hnl := D10.next_less h1 hv hD
  have HX := Lib.hid (fun w => heb_Less y n l d ry (Cal.ofN (Cal.leap ry) rm) (Cal.ofL (Cal.leap ry) rm) rd w)
  rw [hnl] at HX
  have HF := Lib.hid (fun w hT hL => heb_FromDay_at ry rm rd w hT hL hv)
  rw [← hD] at HF
  clear hnl hD hv
  generalize Cal.ofN (Cal.leap ry) rm = rn at *
  generalize Cal.ofL (Cal.leap ry) rm = rl at *
  rw [h1] at HT1
  rw [h2] at HT2
  clear h2
  clear h1
  generalize D10.dayV y n l d = v1 at *
  generalize D10.dayV z k h f = v3 at *
  go_enter Tryd.func5, Tryd.ntmps5
  go_wp2_with fail
  refine (HT1.out _ (Tab.below hT (by repeat (first | (with_reducible exact Below.refl _ _) | assumption | (with_reducible refine bdrew ?_) | (with_reducible refine baa ?_ _) | (with_reducible refine bs ?_ (by first | exact Nat.le_refl _ | omega | (simp; omega)) _) | (with_reducible refine bt ?_ (by assumption))))) (Tab.below hL (by repeat (first | (with_reducible exact Below.refl _ _) | assumption | (with_reducible refine bdrew ?_) | (with_reducible refine baa ?_ _) | (with_reducible refine bs ?_ (by first | exact Nat.le_refl _ | omega | (simp; omega)) _) | (with_reducible refine bt ?_ (by assumption)))))).mono ?_
  rintro e w1 ⟨rfl, hb1⟩
  obtain ⟨hc1, hf1⟩ := bcell hb1
  have hz1 := hb1.size
  try simp at hz1
  have hs1x0 : w.heap.size < w1.heap.size := by omega
  have hs1x1 : (w.heap.size + 1) < w1.heap.size := by omega
  have g1x0 : w1.cell? ⟨w.heap.size, 0, none⟩ = some (.int .i64 y) := (hc1 _ _ (by first | omega | (simp; done) | (simp; omega))).trans (by first | assumption | simp [go_sem] | simp [go_sem, *])
  have g1x1 : w1.cell? ⟨w.heap.size, 1, none⟩ = some (.int .i64 n) := (hc1 _ _ (by first | omega | (simp; done) | (simp; omega))).trans (by first | assumption | simp [go_sem] | simp [go_sem, *])
  have g1x2 : w1.cell? ⟨w.heap.size, 2, none⟩ = some (.bool l) := (hc1 _ _ (by first | omega | (simp; done) | (simp; omega))).trans (by first | assumption | simp [go_sem] | simp [go_sem, *])
  have g1x3 : w1.cell? ⟨w.heap.size, 3, none⟩ = some (.int .i64 d) := (hc1 _ _ (by first | omega | (simp; done) | (simp; omega))).trans (by first | assumption | simp [go_sem] | simp [go_sem, *])
  have g1x4 : w1.cell? ⟨(w.heap.size + 1), 0, none⟩ = some (.int .i64 z) := (hc1 _ _ (by first | omega | (simp; done) | (simp; omega))).trans (by first | assumption | simp [go_sem] | simp [go_sem, *])
  have g1x5 : w1.cell? ⟨(w.heap.size + 1), 1, none⟩ = some (.int .i64 k) := (hc1 _ _ (by first | omega | (simp; done) | (simp; omega))).trans (by first | assumption | simp [go_sem] | simp [go_sem, *])
  have g1x6 : w1.cell? ⟨(w.heap.size + 1), 2, none⟩ = some (.bool h) := (hc1 _ _ (by first | omega | (simp; done) | (simp; omega))).trans (by first | assumption | simp [go_sem] | simp [go_sem, *])
  have g1x7 : w1.cell? ⟨(w.heap.size + 1), 3, none⟩ = some (.int .i64 f) := (hc1 _ _ (by first | omega | (simp; done) | (simp; omega))).trans (by first | assumption | simp [go_sem] | simp [go_sem, *])
  go_wp2_with fail
  refine (HT2.out _ (Tab.below hT (by repeat (first | (with_reducible exact Below.refl _ _) | assumption | (with_reducible refine bdrew ?_) | (with_reducible refine baa ?_ _) | (with_reducible refine bs ?_ (by first | exact Nat.le_refl _ | omega | (simp; omega)) _) | (with_reducible refine bt ?_ (by assumption))))) (Tab.below hL (by repeat (first | (with_reducible exact Below.refl _ _) | assumption | (with_reducible refine bdrew ?_) | (with_reducible refine baa ?_ _) | (with_reducible refine bs ?_ (by first | exact Nat.le_refl _ | omega | (simp; omega)) _) | (with_reducible refine bt ?_ (by assumption)))))).mono ?_
  rintro e w2 ⟨rfl, hb2⟩
  obtain ⟨hc2, hf2⟩ := bcell hb2
  have hz2 := hb2.size
  try simp at hz2
  have hs2x0 : w.heap.size < w2.heap.size := by omega
  have hs2x1 : (w.heap.size + 1) < w2.heap.size := by omega
  have g2x0 : w2.cell? ⟨w.heap.size, 0, none⟩ = some (.int .i64 y) := (hc2 _ _ (by first | omega | (simp; done) | (simp; omega))).trans (by first | assumption | simp [go_sem] | simp [go_sem, *])
  have g2x1 : w2.cell? ⟨w.heap.size, 1, none⟩ = some (.int .i64 n) := (hc2 _ _ (by first | omega | (simp; done) | (simp; omega))).trans (by first | assumption | simp [go_sem] | simp [go_sem, *])
  have g2x2 : w2.cell? ⟨w.heap.size, 2, none⟩ = some (.bool l) := (hc2 _ _ (by first | omega | (simp; done) | (simp; omega))).trans (by first | assumption | simp [go_sem] | simp [go_sem, *])
  have g2x3 : w2.cell? ⟨w.heap.size, 3, none⟩ = some (.int .i64 d) := (hc2 _ _ (by first | omega | (simp; done) | (simp; omega))).trans (by first | assumption | simp [go_sem] | simp [go_sem, *])
  have g2x4 : w2.cell? ⟨(w.heap.size + 1), 0, none⟩ = some (.int .i64 z) := (hc2 _ _ (by first | omega | (simp; done) | (simp; omega))).trans (by first | assumption | simp [go_sem] | simp [go_sem, *])
  have g2x5 : w2.cell? ⟨(w.heap.size + 1), 1, none⟩ = some (.int .i64 k) := (hc2 _ _ (by first | omega | (simp; done) | (simp; omega))).trans (by first | assumption | simp [go_sem] | simp [go_sem, *])
  have g2x6 : w2.cell? ⟨(w.heap.size + 1), 2, none⟩ = some (.bool h) := (hc2 _ _ (by first | omega | (simp; done) | (simp; omega))).trans (by first | assumption | simp [go_sem] | simp [go_sem, *])
  have g2x7 : w2.cell? ⟨(w.heap.size + 1), 3, none⟩ = some (.int .i64 f) := (hc2 _ _ (by first | omega | (simp; done) | (simp; omega))).trans (by first | assumption | simp [go_sem] | simp [go_sem, *])
  go_wp2_with fail
  refine (HF.out _ (Tab.below hT (by repeat (first | (with_reducible exact Below.refl _ _) | assumption | (with_reducible refine bdrew ?_) | (with_reducible refine baa ?_ _) | (with_reducible refine bs ?_ (by first | exact Nat.le_refl _ | omega | (simp; omega)) _) | (with_reducible refine bt ?_ (by assumption))))) (Tab.below hL (by repeat (first | (with_reducible exact Below.refl _ _) | assumption | (with_reducible refine bdrew ?_) | (with_reducible refine baa ?_ _) | (with_reducible refine bs ?_ (by first | exact Nat.le_refl _ | omega | (simp; omega)) _) | (with_reducible refine bt ?_ (by assumption)))))).mono ?_
  rintro e w3 ⟨rfl, hb3⟩
  obtain ⟨hc3, hf3⟩ := bcell hb3
  have hz3 := hb3.size
  try simp at hz3
  have hs3x0 : w.heap.size < w3.heap.size := by omega
  have hs3x1 : (w.heap.size + 1) < w3.heap.size := by omega
  have g3x0 : w3.cell? ⟨w.heap.size, 0, none⟩ = some (.int .i64 y) := (hc3 _ _ (by first | omega | (simp; done) | (simp; omega))).trans (by first | assumption | simp [go_sem] | simp [go_sem, *])
  have g3x1 : w3.cell? ⟨w.heap.size, 1, none⟩ = some (.int .i64 n) := (hc3 _ _ (by first | omega | (simp; done) | (simp; omega))).trans (by first | assumption | simp [go_sem] | simp [go_sem, *])
  have g3x2 : w3.cell? ⟨w.heap.size, 2, none⟩ = some (.bool l) := (hc3 _ _ (by first | omega | (simp; done) | (simp; omega))).trans (by first | assumption | simp [go_sem] | simp [go_sem, *])
  have g3x3 : w3.cell? ⟨w.heap.size, 3, none⟩ = some (.int .i64 d) := (hc3 _ _ (by first | omega | (simp; done) | (simp; omega))).trans (by first | assumption | simp [go_sem] | simp [go_sem, *])
  have g3x4 : w3.cell? ⟨(w.heap.size + 1), 0, none⟩ = some (.int .i64 z) := (hc3 _ _ (by first | omega | (simp; done) | (simp; omega))).trans (by first | assumption | simp [go_sem] | simp [go_sem, *])
  have g3x5 : w3.cell? ⟨(w.heap.size + 1), 1, none⟩ = some (.int .i64 k) := (hc3 _ _ (by first | omega | (simp; done) | (simp; omega))).trans (by first | assumption | simp [go_sem] | simp [go_sem, *])
  have g3x6 : w3.cell? ⟨(w.heap.size + 1), 2, none⟩ = some (.bool h) := (hc3 _ _ (by first | omega | (simp; done) | (simp; omega))).trans (by first | assumption | simp [go_sem] | simp [go_sem, *])
  have g3x7 : w3.cell? ⟨(w.heap.size + 1), 3, none⟩ = some (.int .i64 f) := (hc3 _ _ (by first | omega | (simp; done) | (simp; omega))).trans (by first | assumption | simp [go_sem] | simp [go_sem, *])
  go_wp2_with fail
  refine (HX.out _).mono ?_
  rintro e w4 ⟨rfl, hb4⟩
  obtain ⟨hc4, hf4⟩ := bcell hb4
  have hz4 := hb4.size
  try simp at hz4
  have hl4w3 : w3.heap.size < w4.heap.size := by omega
  have hm4w3 : w3.heap.size ≤ w4.heap.size := by omega
  have hs4x0 : w.heap.size < w4.heap.size := by omega
  have hs4x1 : (w.heap.size + 1) < w4.heap.size := by omega
  have g4x0 : w4.cell? ⟨w.heap.size, 0, none⟩ = some (.int .i64 y) := (hc4 _ _ (by first | omega | (simp; done) | (simp; omega))).trans (by first | assumption | simp [go_sem] | simp [go_sem, *])
  have g4x1 : w4.cell? ⟨w.heap.size, 1, none⟩ = some (.int .i64 n) := (hc4 _ _ (by first | omega | (simp; done) | (simp; omega))).trans (by first | assumption | simp [go_sem] | simp [go_sem, *])
  have g4x2 : w4.cell? ⟨w.heap.size, 2, none⟩ = some (.bool l) := (hc4 _ _ (by first | omega | (simp; done) | (simp; omega))).trans (by first | assumption | simp [go_sem] | simp [go_sem, *])
  have g4x3 : w4.cell? ⟨w.heap.size, 3, none⟩ = some (.int .i64 d) := (hc4 _ _ (by first | omega | (simp; done) | (simp; omega))).trans (by first | assumption | simp [go_sem] | simp [go_sem, *])
  have g4x4 : w4.cell? ⟨(w.heap.size + 1), 0, none⟩ = some (.int .i64 z) := (hc4 _ _ (by first | omega | (simp; done) | (simp; omega))).trans (by first | assumption | simp [go_sem] | simp [go_sem, *])
  have g4x5 : w4.cell? ⟨(w.heap.size + 1), 1, none⟩ = some (.int .i64 k) := (hc4 _ _ (by first | omega | (simp; done) | (simp; omega))).trans (by first | assumption | simp [go_sem] | simp [go_sem, *])
  have g4x6 : w4.cell? ⟨(w.heap.size + 1), 2, none⟩ = some (.bool h) := (hc4 _ _ (by first | omega | (simp; done) | (simp; omega))).trans (by first | assumption | simp [go_sem] | simp [go_sem, *])
  have g4x7 : w4.cell? ⟨(w.heap.size + 1), 3, none⟩ = some (.int .i64 f) := (hc4 _ _ (by first | omega | (simp; done) | (simp; omega))).trans (by first | assumption | simp [go_sem] | simp [go_sem, *])
  have g4x8 : w4.cell? ⟨w3.heap.size, 0, none⟩ = some (.int .i64 ry) := (hc4 _ _ (by first | omega | (simp; done) | (simp; omega))).trans (by first | assumption | simp [go_sem] | simp [go_sem, *])
  have g4x9 : w4.cell? ⟨w3.heap.size, 1, none⟩ = some (.int .i64 rn) := (hc4 _ _ (by first | omega | (simp; done) | (simp; omega))).trans (by first | assumption | simp [go_sem] | simp [go_sem, *])
  have g4x10 : w4.cell? ⟨w3.heap.size, 2, none⟩ = some (.bool rl) := (hc4 _ _ (by first | omega | (simp; done) | (simp; omega))).trans (by first | assumption | simp [go_sem] | simp [go_sem, *])
  have g4x11 : w4.cell? ⟨w3.heap.size, 3, none⟩ = some (.int .i64 rd) := (hc4 _ _ (by first | omega | (simp; done) | (simp; omega))).trans (by first | assumption | simp [go_sem] | simp [go_sem, *])
  go_wp2_with fail
  refine (awake10 _ (Tab.below hT (by repeat (first | (with_reducible exact Below.refl _ _) | assumption | (with_reducible refine bdrew ?_) | (with_reducible refine baa ?_ _) | (with_reducible refine bs ?_ (by first | exact Nat.le_refl _ | omega | (simp; omega)) _) | (with_reducible refine bt ?_ (by assumption))))) (Tab.below hL (by repeat (first | (with_reducible exact Below.refl _ _) | assumption | (with_reducible refine bdrew ?_) | (with_reducible refine baa ?_ _) | (with_reducible refine bs ?_ (by first | exact Nat.le_refl _ | omega | (simp; omega)) _) | (with_reducible refine bt ?_ (by assumption)))))).mono ?_
  rintro e w5 ⟨rfl, hb5⟩
  obtain ⟨hc5, hf5⟩ := bcell hb5
  have hz5 := hb5.size
  try simp at hz5
  have hl5w3 : w3.heap.size < w5.heap.size := by omega
  have hm5w3 : w3.heap.size ≤ w5.heap.size := by omega
  have hs5x0 : w.heap.size < w5.heap.size := by omega
  have hs5x1 : (w.heap.size + 1) < w5.heap.size := by omega
  have g5x0 : w5.cell? ⟨w.heap.size, 0, none⟩ = some (.int .i64 y) := (hc5 _ _ (by first | omega | (simp; done) | (simp; omega))).trans (by first | assumption | simp [go_sem] | simp [go_sem, *])
  have g5x1 : w5.cell? ⟨w.heap.size, 1, none⟩ = some (.int .i64 n) := (hc5 _ _ (by first | omega | (simp; done) | (simp; omega))).trans (by first | assumption | simp [go_sem] | simp [go_sem, *])
  have g5x2 : w5.cell? ⟨w.heap.size, 2, none⟩ = some (.bool l) := (hc5 _ _ (by first | omega | (simp; done) | (simp; omega))).trans (by first | assumption | simp [go_sem] | simp [go_sem, *])
  have g5x3 : w5.cell? ⟨w.heap.size, 3, none⟩ = some (.int .i64 d) := (hc5 _ _ (by first | omega | (simp; done) | (simp; omega))).trans (by first | assumption | simp [go_sem] | simp [go_sem, *])
  have g5x4 : w5.cell? ⟨(w.heap.size + 1), 0, none⟩ = some (.int .i64 z) := (hc5 _ _ (by first | omega | (simp; done) | (simp; omega))).trans (by first | assumption | simp [go_sem] | simp [go_sem, *])
  have g5x5 : w5.cell? ⟨(w.heap.size + 1), 1, none⟩ = some (.int .i64 k) := (hc5 _ _ (by first | omega | (simp; done) | (simp; omega))).trans (by first | assumption | simp [go_sem] | simp [go_sem, *])
  have g5x6 : w5.cell? ⟨(w.heap.size + 1), 2, none⟩ = some (.bool h) := (hc5 _ _ (by first | omega | (simp; done) | (simp; omega))).trans (by first | assumption | simp [go_sem] | simp [go_sem, *])
  have g5x7 : w5.cell? ⟨(w.heap.size + 1), 3, none⟩ = some (.int .i64 f) := (hc5 _ _ (by first | omega | (simp; done) | (simp; omega))).trans (by first | assumption | simp [go_sem] | simp [go_sem, *])
  have g5x8 : w5.cell? ⟨w3.heap.size, 0, none⟩ = some (.int .i64 ry) := (hc5 _ _ (by first | omega | (simp; done) | (simp; omega))).trans (by first | assumption | simp [go_sem] | simp [go_sem, *])
  have g5x9 : w5.cell? ⟨w3.heap.size, 1, none⟩ = some (.int .i64 rn) := (hc5 _ _ (by first | omega | (simp; done) | (simp; omega))).trans (by first | assumption | simp [go_sem] | simp [go_sem, *])
  have g5x10 : w5.cell? ⟨w3.heap.size, 2, none⟩ = some (.bool rl) := (hc5 _ _ (by first | omega | (simp; done) | (simp; omega))).trans (by first | assumption | simp [go_sem] | simp [go_sem, *])
  have g5x11 : w5.cell? ⟨w3.heap.size, 3, none⟩ = some (.int .i64 rd) := (hc5 _ _ (by first | omega | (simp; done) | (simp; omega))).trans (by first | assumption | simp [go_sem] | simp [go_sem, *])
  go_wp2_with fail
  refine (HL.out _).mono ?_
  rintro e w6 ⟨rfl, hb6⟩
  obtain ⟨hc6, hf6⟩ := bcell hb6
  have hz6 := hb6.size
  try simp at hz6
  have hl6w3 : w3.heap.size < w6.heap.size := by omega
  have hm6w3 : w3.heap.size ≤ w6.heap.size := by omega
  have hs6x0 : w.heap.size < w6.heap.size := by omega
  have hs6x1 : (w.heap.size + 1) < w6.heap.size := by omega
  have g6x0 : w6.cell? ⟨w.heap.size, 0, none⟩ = some (.int .i64 y) := (hc6 _ _ (by first | omega | (simp; done) | (simp; omega))).trans (by first | assumption | simp [go_sem] | simp [go_sem, *])
  have g6x1 : w6.cell? ⟨w.heap.size, 1, none⟩ = some (.int .i64 n) := (hc6 _ _ (by first | omega | (simp; done) | (simp; omega))).trans (by first | assumption | simp [go_sem] | simp [go_sem, *])
  have g6x2 : w6.cell? ⟨w.heap.size, 2, none⟩ = some (.bool l) := (hc6 _ _ (by first | omega | (simp; done) | (simp; omega))).trans (by first | assumption | simp [go_sem] | simp [go_sem, *])
  have g6x3 : w6.cell? ⟨w.heap.size, 3, none⟩ = some (.int .i64 d) := (hc6 _ _ (by first | omega | (simp; done) | (simp; omega))).trans (by first | assumption | simp [go_sem] | simp [go_sem, *])
  have g6x4 : w6.cell? ⟨(w.heap.size + 1), 0, none⟩ = some (.int .i64 z) := (hc6 _ _ (by first | omega | (simp; done) | (simp; omega))).trans (by first | assumption | simp [go_sem] | simp [go_sem, *])
  have g6x5 : w6.cell? ⟨(w.heap.size + 1), 1, none⟩ = some (.int .i64 k) := (hc6 _ _ (by first | omega | (simp; done) | (simp; omega))).trans (by first | assumption | simp [go_sem] | simp [go_sem, *])
  have g6x6 : w6.cell? ⟨(w.heap.size + 1), 2, none⟩ = some (.bool h) := (hc6 _ _ (by first | omega | (simp; done) | (simp; omega))).trans (by first | assumption | simp [go_sem] | simp [go_sem, *])
  have g6x7 : w6.cell? ⟨(w.heap.size + 1), 3, none⟩ = some (.int .i64 f) := (hc6 _ _ (by first | omega | (simp; done) | (simp; omega))).trans (by first | assumption | simp [go_sem] | simp [go_sem, *])
  have g6x8 : w6.cell? ⟨w3.heap.size, 0, none⟩ = some (.int .i64 ry) := (hc6 _ _ (by first | omega | (simp; done) | (simp; omega))).trans (by first | assumption | simp [go_sem] | simp [go_sem, *])
  have g6x9 : w6.cell? ⟨w3.heap.size, 1, none⟩ = some (.int .i64 rn) := (hc6 _ _ (by first | omega | (simp; done) | (simp; omega))).trans (by first | assumption | simp [go_sem] | simp [go_sem, *])
  have g6x10 : w6.cell? ⟨w3.heap.size, 2, none⟩ = some (.bool rl) := (hc6 _ _ (by first | omega | (simp; done) | (simp; omega))).trans (by first | assumption | simp [go_sem] | simp [go_sem, *])
  have g6x11 : w6.cell? ⟨w3.heap.size, 3, none⟩ = some (.int .i64 rd) := (hc6 _ _ (by first | omega | (simp; done) | (simp; omega))).trans (by first | assumption | simp [go_sem] | simp [go_sem, *])
  go_wp2_with fail
  go_ret
  refine ⟨?_, ?_⟩
  · simp [*]
  repeat (first | (with_reducible exact Below.refl _ _) | assumption | (with_reducible refine bdrew ?_) | (with_reducible refine baa ?_ _) | (with_reducible refine bs ?_ (by first | exact Nat.le_refl _ | omega | (simp; omega)) _) | (with_reducible refine bt ?_ (by assumption)))
set_option maxHeartbeats 2000000 in
theorem HebNext_at_l (y n : Int) (l : Bool) (d z k : Int) (h : Bool) (f : Int) (hy : I64 y) (hz : I64 z) (w : World) (hT : Tab w 2 kevCells) (hL : Tab w 1 lenCells) (h1 : D10.dateE y n l d = 0) (h2 : D10.dateE z k h f = 0) (hne : ¬ l = h) (ry rm rd : Int) (hv : D10.Valid ry rm rd) (hD : D10.dayV y n l d + 1 = D10.dayOf ry rm rd) :
    Calls Tryd.prog 5 #[.agg #[.int .i64 y, .int .i64 n, .bool l, .int .i64 d], .agg #[.int .i64 z, .int .i64 k, .bool h, .int .i64 f]] w fun e w' => e = .returned (.bool true) ∧ Below w.heap.size w w' := by
  obtain ⟨_, b1, b2⟩ := D10.dayV_ok y n l d h1
  have HT1 := Lib.hid (fun w hT hL => heb_ToDay y n l d w hy hT hL)
  have HT2 := Lib.hid (fun w hT hL => heb_ToDay z k h f w hz hT hL)
  have HL := Lib.hid (fun w => heb_Less y n l d z k h f w)
  have hv13 : ¬ D10.dayV y n l d = D10.dayV z k h f := fun e => hne (by have := D10.same_day h1 h2 e; simp [this])
  rw [D10.less_day h1 h2] at HL
  have hnl := D10.next_less h1 hv hD
  have HX := Lib.hid (fun w => heb_Less y n l d ry (Cal.ofN (Cal.leap ry) rm) (Cal.ofL (Cal.leap ry) rm) rd w)
  rw [hnl] at HX
  have HF := Lib.hid (fun w hT hL => heb_FromDay_at ry rm rd w hT hL hv)
  rw [← hD] at HF
  clear hnl hD hv
  generalize Cal.ofN (Cal.leap ry) rm = rn at *
  generalize Cal.ofL (Cal.leap ry) rm = rl at *
  rw [h1] at HT1
  rw [h2] at HT2
  clear h2
  clear h1
  generalize D10.dayV y n l d = v1 at *
  generalize D10.dayV z k h f = v3 at *
  obtain rfl : h = !l := by cases l <;> cases h <;> simp_all
  clear hne
  go_enter Tryd.func5, Tryd.ntmps5
  go_wp2_with fail
  refine (HT1.out _ (Tab.below hT (by repeat (first | (with_reducible exact Below.refl _ _) | assumption | (with_reducible refine bdrew ?_) | (with_reducible refine baa ?_ _) | (with_reducible refine bs ?_ (by first | exact Nat.le_refl _ | omega | (simp; omega)) _) | (with_reducible refine bt ?_ (by assumption))))) (Tab.below hL (by repeat (first | (with_reducible exact Below.refl _ _) | assumption | (with_reducible refine bdrew ?_) | (with_reducible refine baa ?_ _) | (with_reducible refine bs ?_ (by first | exact Nat.le_refl _ | omega | (simp; omega)) _) | (with_reducible refine bt ?_ (by assumption)))))).mono ?_
  rintro e w1 ⟨rfl, hb1⟩
  obtain ⟨hc1, hf1⟩ := bcell hb1
  have hz1 := hb1.size
  try simp at hz1
  have hs1x0 : w.heap.size < w1.heap.size := by omega
  have hs1x1 : (w.heap.size + 1) < w1.heap.size := by omega
  have g1x0 : w1.cell? ⟨w.heap.size, 0, none⟩ = some (.int .i64 y) := (hc1 _ _ (by first | omega | (simp; done) | (simp; omega))).trans (by first | assumption | simp [go_sem] | simp [go_sem, *])
  have g1x1 : w1.cell? ⟨w.heap.size, 1, none⟩ = some (.int .i64 n) := (hc1 _ _ (by first | omega | (simp; done) | (simp; omega))).trans (by first | assumption | simp [go_sem] | simp [go_sem, *])
  have g1x2 : w1.cell? ⟨w.heap.size, 2, none⟩ = some (.bool l) := (hc1 _ _ (by first | omega | (simp; done) | (simp; omega))).trans (by first | assumption | simp [go_sem] | simp [go_sem, *])
  have g1x3 : w1.cell? ⟨w.heap.size, 3, none⟩ = some (.int .i64 d) := (hc1 _ _ (by first | omega | (simp; done) | (simp; omega))).trans (by first | assumption | simp [go_sem] | simp [go_sem, *])
  have g1x4 : w1.cell? ⟨(w.heap.size + 1), 0, none⟩ = some (.int .i64 z) := (hc1 _ _ (by first | omega | (simp; done) | (simp; omega))).trans (by first | assumption | simp [go_sem] | simp [go_sem, *])
  have g1x5 : w1.cell? ⟨(w.heap.size + 1), 1, none⟩ = some (.int .i64 k) := (hc1 _ _ (by first | omega | (simp; done) | (simp; omega))).trans (by first | assumption | simp [go_sem] | simp [go_sem, *])
  have g1x6 : w1.cell? ⟨(w.heap.size + 1), 2, none⟩ = some (.bool (!l)) := (hc1 _ _ (by first | omega | (simp; done) | (simp; omega))).trans (by first | assumption | simp [go_sem] | simp [go_sem, *])
  have g1x7 : w1.cell? ⟨(w.heap.size + 1), 3, none⟩ = some (.int .i64 f) := (hc1 _ _ (by first | omega | (simp; done) | (simp; omega))).trans (by first | assumption | simp [go_sem] | simp [go_sem, *])
  go_wp2_with fail
  refine (HT2.out _ (Tab.below hT (by repeat (first | (with_reducible exact Below.refl _ _) | assumption | (with_reducible refine bdrew ?_) | (with_reducible refine baa ?_ _) | (with_reducible refine bs ?_ (by first | exact Nat.le_refl _ | omega | (simp; omega)) _) | (with_reducible refine bt ?_ (by assumption))))) (Tab.below hL (by repeat (first | (with_reducible exact Below.refl _ _) | assumption | (with_reducible refine bdrew ?_) | (with_reducible refine baa ?_ _) | (with_reducible refine bs ?_ (by first | exact Nat.le_refl _ | omega | (simp; omega)) _) | (with_reducible refine bt ?_ (by assumption)))))).mono ?_
  rintro e w2 ⟨rfl, hb2⟩
  obtain ⟨hc2, hf2⟩ := bcell hb2
  have hz2 := hb2.size
  try simp at hz2
  have hs2x0 : w.heap.size < w2.heap.size := by omega
  have hs2x1 : (w.heap.size + 1) < w2.heap.size := by omega
  have g2x0 : w2.cell? ⟨w.heap.size, 0, none⟩ = some (.int .i64 y) := (hc2 _ _ (by first | omega | (simp; done) | (simp; omega))).trans (by first | assumption | simp [go_sem] | simp [go_sem, *])
  have g2x1 : w2.cell? ⟨w.heap.size, 1, none⟩ = some (.int .i64 n) := (hc2 _ _ (by first | omega | (simp; done) | (simp; omega))).trans (by first | assumption | simp [go_sem] | simp [go_sem, *])
  have g2x2 : w2.cell? ⟨w.heap.size, 2, none⟩ = some (.bool l) := (hc2 _ _ (by first | omega | (simp; done) | (simp; omega))).trans (by first | assumption | simp [go_sem] | simp [go_sem, *])
  have g2x3 : w2.cell? ⟨w.heap.size, 3, none⟩ = some (.int .i64 d) := (hc2 _ _ (by first | omega | (simp; done) | (simp; omega))).trans (by first | assumption | simp [go_sem] | simp [go_sem, *])
  have g2x4 : w2.cell? ⟨(w.heap.size + 1), 0, none⟩ = some (.int .i64 z) := (hc2 _ _ (by first | omega | (simp; done) | (simp; omega))).trans (by first | assumption | simp [go_sem] | simp [go_sem, *])
  have g2x5 : w2.cell? ⟨(w.heap.size + 1), 1, none⟩ = some (.int .i64 k) := (hc2 _ _ (by first | omega | (simp; done) | (simp; omega))).trans (by first | assumption | simp [go_sem] | simp [go_sem, *])
  have g2x6 : w2.cell? ⟨(w.heap.size + 1), 2, none⟩ = some (.bool (!l)) := (hc2 _ _ (by first | omega | (simp; done) | (simp; omega))).trans (by first | assumption | simp [go_sem] | simp [go_sem, *])
  have g2x7 : w2.cell? ⟨(w.heap.size + 1), 3, none⟩ = some (.int .i64 f) := (hc2 _ _ (by first | omega | (simp; done) | (simp; omega))).trans (by first | assumption | simp [go_sem] | simp [go_sem, *])
  go_wp2_with fail
  refine (HF.out _ (Tab.below hT (by repeat (first | (with_reducible exact Below.refl _ _) | assumption | (with_reducible refine bdrew ?_) | (with_reducible refine baa ?_ _) | (with_reducible refine bs ?_ (by first | exact Nat.le_refl _ | omega | (simp; omega)) _) | (with_reducible refine bt ?_ (by assumption))))) (Tab.below hL (by repeat (first | (with_reducible exact Below.refl _ _) | assumption | (with_reducible refine bdrew ?_) | (with_reducible refine baa ?_ _) | (with_reducible refine bs ?_ (by first | exact Nat.le_refl _ | omega | (simp; omega)) _) | (with_reducible refine bt ?_ (by assumption)))))).mono ?_
  rintro e w3 ⟨rfl, hb3⟩
  obtain ⟨hc3, hf3⟩ := bcell hb3
  have hz3 := hb3.size
  try simp at hz3
  have hs3x0 : w.heap.size < w3.heap.size := by omega
  have hs3x1 : (w.heap.size + 1) < w3.heap.size := by omega
  have g3x0 : w3.cell? ⟨w.heap.size, 0, none⟩ = some (.int .i64 y) := (hc3 _ _ (by first | omega | (simp; done) | (simp; omega))).trans (by first | assumption | simp [go_sem] | simp [go_sem, *])
  have g3x1 : w3.cell? ⟨w.heap.size, 1, none⟩ = some (.int .i64 n) := (hc3 _ _ (by first | omega | (simp; done) | (simp; omega))).trans (by first | assumption | simp [go_sem] | simp [go_sem, *])
  have g3x2 : w3.cell? ⟨w.heap.size, 2, none⟩ = some (.bool l) := (hc3 _ _ (by first | omega | (simp; done) | (simp; omega))).trans (by first | assumption | simp [go_sem] | simp [go_sem, *])
  have g3x3 : w3.cell? ⟨w.heap.size, 3, none⟩ = some (.int .i64 d) := (hc3 _ _ (by first | omega | (simp; done) | (simp; omega))).trans (by first | assumption | simp [go_sem] | simp [go_sem, *])
  have g3x4 : w3.cell? ⟨(w.heap.size + 1), 0, none⟩ = some (.int .i64 z) := (hc3 _ _ (by first | omega | (simp; done) | (simp; omega))).trans (by first | assumption | simp [go_sem] | simp [go_sem, *])
  have g3x5 : w3.cell? ⟨(w.heap.size + 1), 1, none⟩ = some (.int .i64 k) := (hc3 _ _ (by first | omega | (simp; done) | (simp; omega))).trans (by first | assumption | simp [go_sem] | simp [go_sem, *])
  have g3x6 : w3.cell? ⟨(w.heap.size + 1), 2, none⟩ = some (.bool (!l)) := (hc3 _ _ (by first | omega | (simp; done) | (simp; omega))).trans (by first | assumption | simp [go_sem] | simp [go_sem, *])
  have g3x7 : w3.cell? ⟨(w.heap.size + 1), 3, none⟩ = some (.int .i64 f) := (hc3 _ _ (by first | omega | (simp; done) | (simp; omega))).trans (by first | assumption | simp [go_sem] | simp [go_sem, *])
  go_wp2_with fail
  refine (HX.out _).mono ?_
  rintro e w4 ⟨rfl, hb4⟩
  obtain ⟨hc4, hf4⟩ := bcell hb4
  have hz4 := hb4.size
  try simp at hz4
  have hl4w3 : w3.heap.size < w4.heap.size := by omega
  have hm4w3 : w3.heap.size ≤ w4.heap.size := by omega
  have hs4x0 : w.heap.size < w4.heap.size := by omega
  have hs4x1 : (w.heap.size + 1) < w4.heap.size := by omega
  have g4x0 : w4.cell? ⟨w.heap.size, 0, none⟩ = some (.int .i64 y) := (hc4 _ _ (by first | omega | (simp; done) | (simp; omega))).trans (by first | assumption | simp [go_sem] | simp [go_sem, *])
  have g4x1 : w4.cell? ⟨w.heap.size, 1, none⟩ = some (.int .i64 n) := (hc4 _ _ (by first | omega | (simp; done) | (simp; omega))).trans (by first | assumption | simp [go_sem] | simp [go_sem, *])
  have g4x2 : w4.cell? ⟨w.heap.size, 2, none⟩ = some (.bool l) := (hc4 _ _ (by first | omega | (simp; done) | (simp; omega))).trans (by first | assumption | simp [go_sem] | simp [go_sem, *])
  have g4x3 : w4.cell? ⟨w.heap.size, 3, none⟩ = some (.int .i64 d) := (hc4 _ _ (by first | omega | (simp; done) | (simp; omega))).trans (by first | assumption | simp [go_sem] | simp [go_sem, *])
  have g4x4 : w4.cell? ⟨(w.heap.size + 1), 0, none⟩ = some (.int .i64 z) := (hc4 _ _ (by first | omega | (simp; done) | (simp; omega))).trans (by first | assumption | simp [go_sem] | simp [go_sem, *])
  have g4x5 : w4.cell? ⟨(w.heap.size + 1), 1, none⟩ = some (.int .i64 k) := (hc4 _ _ (by first | omega | (simp; done) | (simp; omega))).trans (by first | assumption | simp [go_sem] | simp [go_sem, *])
  have g4x6 : w4.cell? ⟨(w.heap.size + 1), 2, none⟩ = some (.bool (!l)) := (hc4 _ _ (by first | omega | (simp; done) | (simp; omega))).trans (by first | assumption | simp [go_sem] | simp [go_sem, *])
  have g4x7 : w4.cell? ⟨(w.heap.size + 1), 3, none⟩ = some (.int .i64 f) := (hc4 _ _ (by first | omega | (simp; done) | (simp; omega))).trans (by first | assumption | simp [go_sem] | simp [go_sem, *])
  have g4x8 : w4.cell? ⟨w3.heap.size, 0, none⟩ = some (.int .i64 ry) := (hc4 _ _ (by first | omega | (simp; done) | (simp; omega))).trans (by first | assumption | simp [go_sem] | simp [go_sem, *])
  have g4x9 : w4.cell? ⟨w3.heap.size, 1, none⟩ = some (.int .i64 rn) := (hc4 _ _ (by first | omega | (simp; done) | (simp; omega))).trans (by first | assumption | simp [go_sem] | simp [go_sem, *])
  have g4x10 : w4.cell? ⟨w3.heap.size, 2, none⟩ = some (.bool rl) := (hc4 _ _ (by first | omega | (simp; done) | (simp; omega))).trans (by first | assumption | simp [go_sem] | simp [go_sem, *])
  have g4x11 : w4.cell? ⟨w3.heap.size, 3, none⟩ = some (.int .i64 rd) := (hc4 _ _ (by first | omega | (simp; done) | (simp; omega))).trans (by first | assumption | simp [go_sem] | simp [go_sem, *])
  go_wp2_with fail
  refine (awake10 _ (Tab.below hT (by repeat (first | (with_reducible exact Below.refl _ _) | assumption | (with_reducible refine bdrew ?_) | (with_reducible refine baa ?_ _) | (with_reducible refine bs ?_ (by first | exact Nat.le_refl _ | omega | (simp; omega)) _) | (with_reducible refine bt ?_ (by assumption))))) (Tab.below hL (by repeat (first | (with_reducible exact Below.refl _ _) | assumption | (with_reducible refine bdrew ?_) | (with_reducible refine baa ?_ _) | (with_reducible refine bs ?_ (by first | exact Nat.le_refl _ | omega | (simp; omega)) _) | (with_reducible refine bt ?_ (by assumption)))))).mono ?_
  rintro e w5 ⟨rfl, hb5⟩
  obtain ⟨hc5, hf5⟩ := bcell hb5
  have hz5 := hb5.size
  try simp at hz5
  have hl5w3 : w3.heap.size < w5.heap.size := by omega
  have hm5w3 : w3.heap.size ≤ w5.heap.size := by omega
  have hs5x0 : w.heap.size < w5.heap.size := by omega
  have hs5x1 : (w.heap.size + 1) < w5.heap.size := by omega
  have g5x0 : w5.cell? ⟨w.heap.size, 0, none⟩ = some (.int .i64 y) := (hc5 _ _ (by first | omega | (simp; done) | (simp; omega))).trans (by first | assumption | simp [go_sem] | simp [go_sem, *])
  have g5x1 : w5.cell? ⟨w.heap.size, 1, none⟩ = some (.int .i64 n) := (hc5 _ _ (by first | omega | (simp; done) | (simp; omega))).trans (by first | assumption | simp [go_sem] | simp [go_sem, *])
  have g5x2 : w5.cell? ⟨w.heap.size, 2, none⟩ = some (.bool l) := (hc5 _ _ (by first | omega | (simp; done) | (simp; omega))).trans (by first | assumption | simp [go_sem] | simp [go_sem, *])
  have g5x3 : w5.cell? ⟨w.heap.size, 3, none⟩ = some (.int .i64 d) := (hc5 _ _ (by first | omega | (simp; done) | (simp; omega))).trans (by first | assumption | simp [go_sem] | simp [go_sem, *])
  have g5x4 : w5.cell? ⟨(w.heap.size + 1), 0, none⟩ = some (.int .i64 z) := (hc5 _ _ (by first | omega | (simp; done) | (simp; omega))).trans (by first | assumption | simp [go_sem] | simp [go_sem, *])
  have g5x5 : w5.cell? ⟨(w.heap.size + 1), 1, none⟩ = some (.int .i64 k) := (hc5 _ _ (by first | omega | (simp; done) | (simp; omega))).trans (by first | assumption | simp [go_sem] | simp [go_sem, *])
  have g5x6 : w5.cell? ⟨(w.heap.size + 1), 2, none⟩ = some (.bool (!l)) := (hc5 _ _ (by first | omega | (simp; done) | (simp; omega))).trans (by first | assumption | simp [go_sem] | simp [go_sem, *])
  have g5x7 : w5.cell? ⟨(w.heap.size + 1), 3, none⟩ = some (.int .i64 f) := (hc5 _ _ (by first | omega | (simp; done) | (simp; omega))).trans (by first | assumption | simp [go_sem] | simp [go_sem, *])
  have g5x8 : w5.cell? ⟨w3.heap.size, 0, none⟩ = some (.int .i64 ry) := (hc5 _ _ (by first | omega | (simp; done) | (simp; omega))).trans (by first | assumption | simp [go_sem] | simp [go_sem, *])
  have g5x9 : w5.cell? ⟨w3.heap.size, 1, none⟩ = some (.int .i64 rn) := (hc5 _ _ (by first | omega | (simp; done) | (simp; omega))).trans (by first | assumption | simp [go_sem] | simp [go_sem, *])
  have g5x10 : w5.cell? ⟨w3.heap.size, 2, none⟩ = some (.bool rl) := (hc5 _ _ (by first | omega | (simp; done) | (simp; omega))).trans (by first | assumption | simp [go_sem] | simp [go_sem, *])
  have g5x11 : w5.cell? ⟨w3.heap.size, 3, none⟩ = some (.int .i64 rd) := (hc5 _ _ (by first | omega | (simp; done) | (simp; omega))).trans (by first | assumption | simp [go_sem] | simp [go_sem, *])
  go_wp2_with fail
  refine (HL.out _).mono ?_
  rintro e w6 ⟨rfl, hb6⟩
  obtain ⟨hc6, hf6⟩ := bcell hb6
  have hz6 := hb6.size
  try simp at hz6
  have hl6w3 : w3.heap.size < w6.heap.size := by omega
  have hm6w3 : w3.heap.size ≤ w6.heap.size := by omega
  have hs6x0 : w.heap.size < w6.heap.size := by omega
  have hs6x1 : (w.heap.size + 1) < w6.heap.size := by omega
  have g6x0 : w6.cell? ⟨w.heap.size, 0, none⟩ = some (.int .i64 y) := (hc6 _ _ (by first | omega | (simp; done) | (simp; omega))).trans (by first | assumption | simp [go_sem] | simp [go_sem, *])
  have g6x1 : w6.cell? ⟨w.heap.size, 1, none⟩ = some (.int .i64 n) := (hc6 _ _ (by first | omega | (simp; done) | (simp; omega))).trans (by first | assumption | simp [go_sem] | simp [go_sem, *])
  have g6x2 : w6.cell? ⟨w.heap.size, 2, none⟩ = some (.bool l) := (hc6 _ _ (by first | omega | (simp; done) | (simp; omega))).trans (by first | assumption | simp [go_sem] | simp [go_sem, *])
  have g6x3 : w6.cell? ⟨w.heap.size, 3, none⟩ = some (.int .i64 d) := (hc6 _ _ (by first | omega | (simp; done) | (simp; omega))).trans (by first | assumption | simp [go_sem] | simp [go_sem, *])
  have g6x4 : w6.cell? ⟨(w.heap.size + 1), 0, none⟩ = some (.int .i64 z) := (hc6 _ _ (by first | omega | (simp; done) | (simp; omega))).trans (by first | assumption | simp [go_sem] | simp [go_sem, *])
  have g6x5 : w6.cell? ⟨(w.heap.size + 1), 1, none⟩ = some (.int .i64 k) := (hc6 _ _ (by first | omega | (simp; done) | (simp; omega))).trans (by first | assumption | simp [go_sem] | simp [go_sem, *])
  have g6x6 : w6.cell? ⟨(w.heap.size + 1), 2, none⟩ = some (.bool (!l)) := (hc6 _ _ (by first | omega | (simp; done) | (simp; omega))).trans (by first | assumption | simp [go_sem] | simp [go_sem, *])
  have g6x7 : w6.cell? ⟨(w.heap.size + 1), 3, none⟩ = some (.int .i64 f) := (hc6 _ _ (by first | omega | (simp; done) | (simp; omega))).trans (by first | assumption | simp [go_sem] | simp [go_sem, *])
  have g6x8 : w6.cell? ⟨w3.heap.size, 0, none⟩ = some (.int .i64 ry) := (hc6 _ _ (by first | omega | (simp; done) | (simp; omega))).trans (by first | assumption | simp [go_sem] | simp [go_sem, *])
  have g6x9 : w6.cell? ⟨w3.heap.size, 1, none⟩ = some (.int .i64 rn) := (hc6 _ _ (by first | omega | (simp; done) | (simp; omega))).trans (by first | assumption | simp [go_sem] | simp [go_sem, *])
  have g6x10 : w6.cell? ⟨w3.heap.size, 2, none⟩ = some (.bool rl) := (hc6 _ _ (by first | omega | (simp; done) | (simp; omega))).trans (by first | assumption | simp [go_sem] | simp [go_sem, *])
  have g6x11 : w6.cell? ⟨w3.heap.size, 3, none⟩ = some (.int .i64 rd) := (hc6 _ _ (by first | omega | (simp; done) | (simp; omega))).trans (by first | assumption | simp [go_sem] | simp [go_sem, *])
  go_wp2_with fail
  go_ret
  refine ⟨?_, ?_⟩
  · simp [*]
  repeat (first | (with_reducible exact Below.refl _ _) | assumption | (with_reducible refine bdrew ?_) | (with_reducible refine baa ?_ _) | (with_reducible refine bs ?_ (by first | exact Nat.le_refl _ | omega | (simp; omega)) _) | (with_reducible refine bt ?_ (by assumption)))
set_option maxHeartbeats 2000000 in
theorem HebNext_at_d (y n : Int) (l : Bool) (d z k : Int) (h : Bool) (f : Int) (hy : I64 y) (hz : I64 z) (w : World) (hT : Tab w 2 kevCells) (hL : Tab w 1 lenCells) (h1 : D10.dateE y n l d = 0) (h2 : D10.dateE z k h f = 0) (hne : ¬ d = f) (ry rm rd : Int) (hv : D10.Valid ry rm rd) (hD : D10.dayV y n l d + 1 = D10.dayOf ry rm rd) :
    Calls Tryd.prog 5 #[.agg #[.int .i64 y, .int .i64 n, .bool l, .int .i64 d], .agg #[.int .i64 z, .int .i64 k, .bool h, .int .i64 f]] w fun e w' => e = .returned (.bool true) ∧ Below w.heap.size w w' := by
  obtain ⟨_, b1, b2⟩ := D10.dayV_ok y n l d h1
  have HT1 := Lib.hid (fun w hT hL => heb_ToDay y n l d w hy hT hL)
  have HT2 := Lib.hid (fun w hT hL => heb_ToDay z k h f w hz hT hL)
  have HL := Lib.hid (fun w => heb_Less y n l d z k h f w)
  have hv13 : ¬ D10.dayV y n l d = D10.dayV z k h f := fun e => hne (by have := D10.same_day h1 h2 e; simp [this])
  rw [D10.less_day h1 h2] at HL
  have hnl := D10.next_less h1 hv hD
  have HX := Lib.hid (fun w => heb_Less y n l d ry (Cal.ofN (Cal.leap ry) rm) (Cal.ofL (Cal.leap ry) rm) rd w)
  rw [hnl] at HX
  have HF := Lib.hid (fun w hT hL => heb_FromDay_at ry rm rd w hT hL hv)
  rw [← hD] at HF
  clear hnl hD hv
  generalize Cal.ofN (Cal.leap ry) rm = rn at *
  generalize Cal.ofL (Cal.leap ry) rm = rl at *
  rw [h1] at HT1
  rw [h2] at HT2
  clear h2
  clear h1
  generalize D10.dayV y n l d = v1 at *
  generalize D10.dayV z k h f = v3 at *
  go_enter Tryd.func5, Tryd.ntmps5
  go_wp2_with fail
  refine (HT1.out _ (Tab.below hT (by repeat (first | (with_reducible exact Below.refl _ _) | assumption | (with_reducible refine bdrew ?_) | (with_reducible refine baa ?_ _) | (with_reducible refine bs ?_ (by first | exact Nat.le_refl _ | omega | (simp; omega)) _) | (with_reducible refine bt ?_ (by assumption))))) (Tab.below hL (by repeat (first | (with_reducible exact Below.refl _ _) | assumption | (with_reducible refine bdrew ?_) | (with_reducible refine baa ?_ _) | (with_reducible refine bs ?_ (by first | exact Nat.le_refl _ | omega | (simp; omega)) _) | (with_reducible refine bt ?_ (by assumption)))))).mono ?_
  rintro e w1 ⟨rfl, hb1⟩
  obtain ⟨hc1, hf1⟩ := bcell hb1
  have hz1 := hb1.size
  try simp at hz1
  have hs1x0 : w.heap.size < w1.heap.size := by omega
  have hs1x1 : (w.heap.size + 1) < w1.heap.size := by omega
  have g1x0 : w1.cell? ⟨w.heap.size, 0, none⟩ = some (.int .i64 y) := (hc1 _ _ (by first | omega | (simp; done) | (simp; omega))).trans (by first | assumption | simp [go_sem] | simp [go_sem, *])
  have g1x1 : w1.cell? ⟨w.heap.size, 1, none⟩ = some (.int .i64 n) := (hc1 _ _ (by first | omega | (simp; done) | (simp; omega))).trans (by first | assumption | simp [go_sem] | simp [go_sem, *])
  have g1x2 : w1.cell? ⟨w.heap.size, 2, none⟩ = some (.bool l) := (hc1 _ _ (by first | omega | (simp; done) | (simp; omega))).trans (by first | assumption | simp [go_sem] | simp [go_sem, *])
  have g1x3 : w1.cell? ⟨w.heap.size, 3, none⟩ = some (.int .i64 d) := (hc1 _ _ (by first | omega | (simp; done) | (simp; omega))).trans (by first | assumption | simp [go_sem] | simp [go_sem, *])
  have g1x4 : w1.cell? ⟨(w.heap.size + 1), 0, none⟩ = some (.int .i64 z) := (hc1 _ _ (by first | omega | (simp; done) | (simp; omega))).trans (by first | assumption | simp [go_sem] | simp [go_sem, *])
  have g1x5 : w1.cell? ⟨(w.heap.size + 1), 1, none⟩ = some (.int .i64 k) := (hc1 _ _ (by first | omega | (simp; done) | (simp; omega))).trans (by first | assumption | simp [go_sem] | simp [go_sem, *])
  have g1x6 : w1.cell? ⟨(w.heap.size + 1), 2, none⟩ = some (.bool h) := (hc1 _ _ (by first | omega | (simp; done) | (simp; omega))).trans (by first | assumption | simp [go_sem] | simp [go_sem, *])
  have g1x7 : w1.cell? ⟨(w.heap.size + 1), 3, none⟩ = some (.int .i64 f) := (hc1 _ _ (by first | omega | (simp; done) | (simp; omega))).trans (by first | assumption | simp [go_sem] | simp [go_sem, *])
  go_wp2_with fail
  refine (HT2.out _ (Tab.below hT (by repeat (first | (with_reducible exact Below.refl _ _) | assumption | (with_reducible refine bdrew ?_) | (with_reducible refine baa ?_ _) | (with_reducible refine bs ?_ (by first | exact Nat.le_refl _ | omega | (simp; omega)) _) | (with_reducible refine bt ?_ (by assumption))))) (Tab.below hL (by repeat (first | (with_reducible exact Below.refl _ _) | assumption | (with_reducible refine bdrew ?_) | (with_reducible refine baa ?_ _) | (with_reducible refine bs ?_ (by first | exact Nat.le_refl _ | omega | (simp; omega)) _) | (with_reducible refine bt ?_ (by assumption)))))).mono ?_
  rintro e w2 ⟨rfl, hb2⟩
  obtain ⟨hc2, hf2⟩ := bcell hb2
  have hz2 := hb2.size
  try simp at hz2
  have hs2x0 : w.heap.size < w2.heap.size := by omega
  have hs2x1 : (w.heap.size + 1) < w2.heap.size := by omega
  have g2x0 : w2.cell? ⟨w.heap.size, 0, none⟩ = some (.int .i64 y) := (hc2 _ _ (by first | omega | (simp; done) | (simp; omega))).trans (by first | assumption | simp [go_sem] | simp [go_sem, *])
  have g2x1 : w2.cell? ⟨w.heap.size, 1, none⟩ = some (.int .i64 n) := (hc2 _ _ (by first | omega | (simp; done) | (simp; omega))).trans (by first | assumption | simp [go_sem] | simp [go_sem, *])
  have g2x2 : w2.cell? ⟨w.heap.size, 2, none⟩ = some (.bool l) := (hc2 _ _ (by first | omega | (simp; done) | (simp; omega))).trans (by first | assumption | simp [go_sem] | simp [go_sem, *])
  have g2x3 : w2.cell? ⟨w.heap.size, 3, none⟩ = some (.int .i64 d) := (hc2 _ _ (by first | omega | (simp; done) | (simp; omega))).trans (by first | assumption | simp [go_sem] | simp [go_sem, *])
  have g2x4 : w2.cell? ⟨(w.heap.size + 1), 0, none⟩ = some (.int .i64 z) := (hc2 _ _ (by first | omega | (simp; done) | (simp; omega))).trans (by first | assumption | simp [go_sem] | simp [go_sem, *])
  have g2x5 : w2.cell? ⟨(w.heap.size + 1), 1, none⟩ = some (.int .i64 k) := (hc2 _ _ (by first | omega | (simp; done) | (simp; omega))).trans (by first | assumption | simp [go_sem] | simp [go_sem, *])
  have g2x6 : w2.cell? ⟨(w.heap.size + 1), 2, none⟩ = some (.bool h) := (hc2 _ _ (by first | omega | (simp; done) | (simp; omega))).trans (by first | assumption | simp [go_sem] | simp [go_sem, *])
  have g2x7 : w2.cell? ⟨(w.heap.size + 1), 3, none⟩ = some (.int .i64 f) := (hc2 _ _ (by first | omega | (simp; done) | (simp; omega))).trans (by first | assumption | simp [go_sem] | simp [go_sem, *])
  go_wp2_with fail
  refine (HF.out _ (Tab.below hT (by repeat (first | (with_reducible exact Below.refl _ _) | assumption | (with_reducible refine bdrew ?_) | (with_reducible refine baa ?_ _) | (with_reducible refine bs ?_ (by first | exact Nat.le_refl _ | omega | (simp; omega)) _) | (with_reducible refine bt ?_ (by assumption))))) (Tab.below hL (by repeat (first | (with_reducible exact Below.refl _ _) | assumption | (with_reducible refine bdrew ?_) | (with_reducible refine baa ?_ _) | (with_reducible refine bs ?_ (by first | exact Nat.le_refl _ | omega | (simp; omega)) _) | (with_reducible refine bt ?_ (by assumption)))))).mono ?_
  rintro e w3 ⟨rfl, hb3⟩
  obtain ⟨hc3, hf3⟩ := bcell hb3
  have hz3 := hb3.size
  try simp at hz3
  have hs3x0 : w.heap.size < w3.heap.size := by omega
  have hs3x1 : (w.heap.size + 1) < w3.heap.size := by omega
  have g3x0 : w3.cell? ⟨w.heap.size, 0, none⟩ = some (.int .i64 y) := (hc3 _ _ (by first | omega | (simp; done) | (simp; omega))).trans (by first | assumption | simp [go_sem] | simp [go_sem, *])
  have g3x1 : w3.cell? ⟨w.heap.size, 1, none⟩ = some (.int .i64 n) := (hc3 _ _ (by first | omega | (simp; done) | (simp; omega))).trans (by first | assumption | simp [go_sem] | simp [go_sem, *])
  have g3x2 : w3.cell? ⟨w.heap.size, 2, none⟩ = some (.bool l) := (hc3 _ _ (by first | omega | (simp; done) | (simp; omega))).trans (by first | assumption | simp [go_sem] | simp [go_sem, *])
  have g3x3 : w3.cell? ⟨w.heap.size, 3, none⟩ = some (.int .i64 d) := (hc3 _ _ (by first | omega | (simp; done) | (simp; omega))).trans (by first | assumption | simp [go_sem] | simp [go_sem, *])
  have g3x4 : w3.cell? ⟨(w.heap.size + 1), 0, none⟩ = some (.int .i64 z) := (hc3 _ _ (by first | omega | (simp; done) | (simp; omega))).trans (by first | assumption | simp [go_sem] | simp [go_sem, *])
  have g3x5 : w3.cell? ⟨(w.heap.size + 1), 1, none⟩ = some (.int .i64 k) := (hc3 _ _ (by first | omega | (simp; done) | (simp; omega))).trans (by first | assumption | simp [go_sem] | simp [go_sem, *])
  have g3x6 : w3.cell? ⟨(w.heap.size + 1), 2, none⟩ = some (.bool h) := (hc3 _ _ (by first | omega | (simp; done) | (simp; omega))).trans (by first | assumption | simp [go_sem] | simp [go_sem, *])
  have g3x7 : w3.cell? ⟨(w.heap.size + 1), 3, none⟩ = some (.int .i64 f) := (hc3 _ _ (by first | omega | (simp; done) | (simp; omega))).trans (by first | assumption | simp [go_sem] | simp [go_sem, *])
  go_wp2_with fail
  refine (HX.out _).mono ?_
  rintro e w4 ⟨rfl, hb4⟩
  obtain ⟨hc4, hf4⟩ := bcell hb4
  have hz4 := hb4.size
  try simp at hz4
  have hl4w3 : w3.heap.size < w4.heap.size := by omega
  have hm4w3 : w3.heap.size ≤ w4.heap.size := by omega
  have hs4x0 : w.heap.size < w4.heap.size := by omega
  have hs4x1 : (w.heap.size + 1) < w4.heap.size := by omega
  have g4x0 : w4.cell? ⟨w.heap.size, 0, none⟩ = some (.int .i64 y) := (hc4 _ _ (by first | omega | (simp; done) | (simp; omega))).trans (by first | assumption | simp [go_sem] | simp [go_sem, *])
  have g4x1 : w4.cell? ⟨w.heap.size, 1, none⟩ = some (.int .i64 n) := (hc4 _ _ (by first | omega | (simp; done) | (simp; omega))).trans (by first | assumption | simp [go_sem] | simp [go_sem, *])
  have g4x2 : w4.cell? ⟨w.heap.size, 2, none⟩ = some (.bool l) := (hc4 _ _ (by first | omega | (simp; done) | (simp; omega))).trans (by first | assumption | simp [go_sem] | simp [go_sem, *])
  have g4x3 : w4.cell? ⟨w.heap.size, 3, none⟩ = some (.int .i64 d) := (hc4 _ _ (by first | omega | (simp; done) | (simp; omega))).trans (by first | assumption | simp [go_sem] | simp [go_sem, *])
  have g4x4 : w4.cell? ⟨(w.heap.size + 1), 0, none⟩ = some (.int .i64 z) := (hc4 _ _ (by first | omega | (simp; done) | (simp; omega))).trans (by first | assumption | simp [go_sem] | simp [go_sem, *])
  have g4x5 : w4.cell? ⟨(w.heap.size + 1), 1, none⟩ = some (.int .i64 k) := (hc4 _ _ (by first | omega | (simp; done) | (simp; omega))).trans (by first | assumption | simp [go_sem] | simp [go_sem, *])
  have g4x6 : w4.cell? ⟨(w.heap.size + 1), 2, none⟩ = some (.bool h) := (hc4 _ _ (by first | omega | (simp; done) | (simp; omega))).trans (by first | assumption | simp [go_sem] | simp [go_sem, *])
  have g4x7 : w4.cell? ⟨(w.heap.size + 1), 3, none⟩ = some (.int .i64 f) := (hc4 _ _ (by first | omega | (simp; done) | (simp; omega))).trans (by first | assumption | simp [go_sem] | simp [go_sem, *])
  have g4x8 : w4.cell? ⟨w3.heap.size, 0, none⟩ = some (.int .i64 ry) := (hc4 _ _ (by first | omega | (simp; done) | (simp; omega))).trans (by first | assumption | simp [go_sem] | simp [go_sem, *])
  have g4x9 : w4.cell? ⟨w3.heap.size, 1, none⟩ = some (.int .i64 rn) := (hc4 _ _ (by first | omega | (simp; done) | (simp; omega))).trans (by first | assumption | simp [go_sem] | simp [go_sem, *])
  have g4x10 : w4.cell? ⟨w3.heap.size, 2, none⟩ = some (.bool rl) := (hc4 _ _ (by first | omega | (simp; done) | (simp; omega))).trans (by first | assumption | simp [go_sem] | simp [go_sem, *])
  have g4x11 : w4.cell? ⟨w3.heap.size, 3, none⟩ = some (.int .i64 rd) := (hc4 _ _ (by first | omega | (simp; done) | (simp; omega))).trans (by first | assumption | simp [go_sem] | simp [go_sem, *])
  go_wp2_with fail
  refine (awake10 _ (Tab.below hT (by repeat (first | (with_reducible exact Below.refl _ _) | assumption | (with_reducible refine bdrew ?_) | (with_reducible refine baa ?_ _) | (with_reducible refine bs ?_ (by first | exact Nat.le_refl _ | omega | (simp; omega)) _) | (with_reducible refine bt ?_ (by assumption))))) (Tab.below hL (by repeat (first | (with_reducible exact Below.refl _ _) | assumption | (with_reducible refine bdrew ?_) | (with_reducible refine baa ?_ _) | (with_reducible refine bs ?_ (by first | exact Nat.le_refl _ | omega | (simp; omega)) _) | (with_reducible refine bt ?_ (by assumption)))))).mono ?_
  rintro e w5 ⟨rfl, hb5⟩
  obtain ⟨hc5, hf5⟩ := bcell hb5
  have hz5 := hb5.size
  try simp at hz5
  have hl5w3 : w3.heap.size < w5.heap.size := by omega
  have hm5w3 : w3.heap.size ≤ w5.heap.size := by omega
  have hs5x0 : w.heap.size < w5.heap.size := by omega
  have hs5x1 : (w.heap.size + 1) < w5.heap.size := by omega
  have g5x0 : w5.cell? ⟨w.heap.size, 0, none⟩ = some (.int .i64 y) := (hc5 _ _ (by first | omega | (simp; done) | (simp; omega))).trans (by first | assumption | simp [go_sem] | simp [go_sem, *])
  have g5x1 : w5.cell? ⟨w.heap.size, 1, none⟩ = some (.int .i64 n) := (hc5 _ _ (by first | omega | (simp; done) | (simp; omega))).trans (by first | assumption | simp [go_sem] | simp [go_sem, *])
  have g5x2 : w5.cell? ⟨w.heap.size, 2, none⟩ = some (.bool l) := (hc5 _ _ (by first | omega | (simp; done) | (simp; omega))).trans (by first | assumption | simp [go_sem] | simp [go_sem, *])
  have g5x3 : w5.cell? ⟨w.heap.size, 3, none⟩ = some (.int .i64 d) := (hc5 _ _ (by first | omega | (simp; done) | (simp; omega))).trans (by first | assumption | simp [go_sem] | simp [go_sem, *])
  have g5x4 : w5.cell? ⟨(w.heap.size + 1), 0, none⟩ = some (.int .i64 z) := (hc5 _ _ (by first | omega | (simp; done) | (simp; omega))).trans (by first | assumption | simp [go_sem] | simp [go_sem, *])
  have g5x5 : w5.cell? ⟨(w.heap.size + 1), 1, none⟩ = some (.int .i64 k) := (hc5 _ _ (by first | omega | (simp; done) | (simp; omega))).trans (by first | assumption | simp [go_sem] | simp [go_sem, *])
  have g5x6 : w5.cell? ⟨(w.heap.size + 1), 2, none⟩ = some (.bool h) := (hc5 _ _ (by first | omega | (simp; done) | (simp; omega))).trans (by first | assumption | simp [go_sem] | simp [go_sem, *])
  have g5x7 : w5.cell? ⟨(w.heap.size + 1), 3, none⟩ = some (.int .i64 f) := (hc5 _ _ (by first | omega | (simp; done) | (simp; omega))).trans (by first | assumption | simp [go_sem] | simp [go_sem, *])
  have g5x8 : w5.cell? ⟨w3.heap.size, 0, none⟩ = some (.int .i64 ry) := (hc5 _ _ (by first | omega | (simp; done) | (simp; omega))).trans (by first | assumption | simp [go_sem] | simp [go_sem, *])
  have g5x9 : w5.cell? ⟨w3.heap.size, 1, none⟩ = some (.int .i64 rn) := (hc5 _ _ (by first | omega | (simp; done) | (simp; omega))).trans (by first | assumption | simp [go_sem] | simp [go_sem, *])
  have g5x10 : w5.cell? ⟨w3.heap.size, 2, none⟩ = some (.bool rl) := (hc5 _ _ (by first | omega | (simp; done) | (simp; omega))).trans (by first | assumption | simp [go_sem] | simp [go_sem, *])
  have g5x11 : w5.cell? ⟨w3.heap.size, 3, none⟩ = some (.int .i64 rd) := (hc5 _ _ (by first | omega | (simp; done) | (simp; omega))).trans (by first | assumption | simp [go_sem] | simp [go_sem, *])
  go_wp2_with fail
  refine (HL.out _).mono ?_
  rintro e w6 ⟨rfl, hb6⟩
  obtain ⟨hc6, hf6⟩ := bcell hb6
  have hz6 := hb6.size
  try simp at hz6
  have hl6w3 : w3.heap.size < w6.heap.size := by omega
  have hm6w3 : w3.heap.size ≤ w6.heap.size := by omega
  have hs6x0 : w.heap.size < w6.heap.size := by omega
  have hs6x1 : (w.heap.size + 1) < w6.heap.size := by omega
  have g6x0 : w6.cell? ⟨w.heap.size, 0, none⟩ = some (.int .i64 y) := (hc6 _ _ (by first | omega | (simp; done) | (simp; omega))).trans (by first | assumption | simp [go_sem] | simp [go_sem, *])
  have g6x1 : w6.cell? ⟨w.heap.size, 1, none⟩ = some (.int .i64 n) := (hc6 _ _ (by first | omega | (simp; done) | (simp; omega))).trans (by first | assumption | simp [go_sem] | simp [go_sem, *])
  have g6x2 : w6.cell? ⟨w.heap.size, 2, none⟩ = some (.bool l) := (hc6 _ _ (by first | omega | (simp; done) | (simp; omega))).trans (by first | assumption | simp [go_sem] | simp [go_sem, *])
  have g6x3 : w6.cell? ⟨w.heap.size, 3, none⟩ = some (.int .i64 d) := (hc6 _ _ (by first | omega | (simp; done) | (simp; omega))).trans (by first | assumption | simp [go_sem] | simp [go_sem, *])
  have g6x4 : w6.cell? ⟨(w.heap.size + 1), 0, none⟩ = some (.int .i64 z) := (hc6 _ _ (by first | omega | (simp; done) | (simp; omega))).trans (by first | assumption | simp [go_sem] | simp [go_sem, *])
  have g6x5 : w6.cell? ⟨(w.heap.size + 1), 1, none⟩ = some (.int .i64 k) := (hc6 _ _ (by first | omega | (simp; done) | (simp; omega))).trans (by first | assumption | simp [go_sem] | simp [go_sem, *])
  have g6x6 : w6.cell? ⟨(w.heap.size + 1), 2, none⟩ = some (.bool h) := (hc6 _ _ (by first | omega | (simp; done) | (simp; omega))).trans (by first | assumption | simp [go_sem] | simp [go_sem, *])
  have g6x7 : w6.cell? ⟨(w.heap.size + 1), 3, none⟩ = some (.int .i64 f) := (hc6 _ _ (by first | omega | (simp; done) | (simp; omega))).trans (by first | assumption | simp [go_sem] | simp [go_sem, *])
  have g6x8 : w6.cell? ⟨w3.heap.size, 0, none⟩ = some (.int .i64 ry) := (hc6 _ _ (by first | omega | (simp; done) | (simp; omega))).trans (by first | assumption | simp [go_sem] | simp [go_sem, *])
  have g6x9 : w6.cell? ⟨w3.heap.size, 1, none⟩ = some (.int .i64 rn) := (hc6 _ _ (by first | omega | (simp; done) | (simp; omega))).trans (by first | assumption | simp [go_sem] | simp [go_sem, *])
  have g6x10 : w6.cell? ⟨w3.heap.size, 2, none⟩ = some (.bool rl) := (hc6 _ _ (by first | omega | (simp; done) | (simp; omega))).trans (by first | assumption | simp [go_sem] | simp [go_sem, *])
  have g6x11 : w6.cell? ⟨w3.heap.size, 3, none⟩ = some (.int .i64 rd) := (hc6 _ _ (by first | omega | (simp; done) | (simp; omega))).trans (by first | assumption | simp [go_sem] | simp [go_sem, *])
  go_wp2_with fail
  go_ret
  refine ⟨?_, ?_⟩
  · simp [*]
  repeat (first | (with_reducible exact Below.refl _ _) | assumption | (with_reducible refine bdrew ?_) | (with_reducible refine baa ?_ _) | (with_reducible refine bs ?_ (by first | exact Nat.le_refl _ | omega | (simp; omega)) _) | (with_reducible refine bt ?_ (by assumption)))
set_option maxHeartbeats 2000000 in
theorem HebNext_no_same (y n : Int) (l : Bool) (d : Int) (hy : I64 y) (w : World) (hT : Tab w 2 kevCells) (hL : Tab w 1 lenCells) (h1 : D10.dateE y n l d = 0) (hD : 2278650 < D10.dayV y n l d + 1) :
    Calls Tryd.prog 5 #[.agg #[.int .i64 y, .int .i64 n, .bool l, .int .i64 d], .agg #[.int .i64 y, .int .i64 n, .bool l, .int .i64 d]] w fun e w' => e = .returned (.bool true) ∧ Below w.heap.size w w' := by
  obtain ⟨_, b1, b2⟩ := D10.dayV_ok y n l d h1
  have HT1 := Lib.hid (fun w hT hL => heb_ToDay y n l d w hy hT hL)
  have HL := Lib.hid (fun w => heb_Less y n l d y n l d w)
  rw [D10.less_day h1 h1] at HL
  have HF := Lib.hid (fun w => heb_FromDay_no (D10.dayV y n l d + 1) w (.inr hD))
  clear hD
  rw [h1] at HT1
  clear h1
  generalize D10.dayV y n l d = v1 at *
  go_enter Tryd.func5, Tryd.ntmps5
  go_wp2_with fail
  refine (HT1.out _ (Tab.below hT (by repeat (first | (with_reducible exact Below.refl _ _) | assumption | (with_reducible refine bdrew ?_) | (with_reducible refine baa ?_ _) | (with_reducible refine bs ?_ (by first | exact Nat.le_refl _ | omega | (simp; omega)) _) | (with_reducible refine bt ?_ (by assumption))))) (Tab.below hL (by repeat (first | (with_reducible exact Below.refl _ _) | assumption | (with_reducible refine bdrew ?_) | (with_reducible refine baa ?_ _) | (with_reducible refine bs ?_ (by first | exact Nat.le_refl _ | omega | (simp; omega)) _) | (with_reducible refine bt ?_ (by assumption)))))).mono ?_
  rintro e w1 ⟨rfl, hb1⟩
  obtain ⟨hc1, hf1⟩ := bcell hb1
  have hz1 := hb1.size
  try simp at hz1
  have hs1x0 : w.heap.size < w1.heap.size := by omega
  have hs1x1 : (w.heap.size + 1) < w1.heap.size := by omega
  have g1x0 : w1.cell? ⟨w.heap.size, 0, none⟩ = some (.int .i64 y) := (hc1 _ _ (by first | omega | (simp; done) | (simp; omega))).trans (by first | assumption | simp [go_sem] | simp [go_sem, *])
  have g1x1 : w1.cell? ⟨w.heap.size, 1, none⟩ = some (.int .i64 n) := (hc1 _ _ (by first | omega | (simp; done) | (simp; omega))).trans (by first | assumption | simp [go_sem] | simp [go_sem, *])
  have g1x2 : w1.cell? ⟨w.heap.size, 2, none⟩ = some (.bool l) := (hc1 _ _ (by first | omega | (simp; done) | (simp; omega))).trans (by first | assumption | simp [go_sem] | simp [go_sem, *])
  have g1x3 : w1.cell? ⟨w.heap.size, 3, none⟩ = some (.int .i64 d) := (hc1 _ _ (by first | omega | (simp; done) | (simp; omega))).trans (by first | assumption | simp [go_sem] | simp [go_sem, *])
  have g1x4 : w1.cell? ⟨(w.heap.size + 1), 0, none⟩ = some (.int .i64 y) := (hc1 _ _ (by first | omega | (simp; done) | (simp; omega))).trans (by first | assumption | simp [go_sem] | simp [go_sem, *])
  have g1x5 : w1.cell? ⟨(w.heap.size + 1), 1, none⟩ = some (.int .i64 n) := (hc1 _ _ (by first | omega | (simp; done) | (simp; omega))).trans (by first | assumption | simp [go_sem] | simp [go_sem, *])
  have g1x6 : w1.cell? ⟨(w.heap.size + 1), 2, none⟩ = some (.bool l) := (hc1 _ _ (by first | omega | (simp; done) | (simp; omega))).trans (by first | assumption | simp [go_sem] | simp [go_sem, *])
  have g1x7 : w1.cell? ⟨(w.heap.size + 1), 3, none⟩ = some (.int .i64 d) := (hc1 _ _ (by first | omega | (simp; done) | (simp; omega))).trans (by first | assumption | simp [go_sem] | simp [go_sem, *])
  go_wp2_with fail
  refine (HT1.out _ (Tab.below hT (by repeat (first | (with_reducible exact Below.refl _ _) | assumption | (with_reducible refine bdrew ?_) | (with_reducible refine baa ?_ _) | (with_reducible refine bs ?_ (by first | exact Nat.le_refl _ | omega | (simp; omega)) _) | (with_reducible refine bt ?_ (by assumption))))) (Tab.below hL (by repeat (first | (with_reducible exact Below.refl _ _) | assumption | (with_reducible refine bdrew ?_) | (with_reducible refine baa ?_ _) | (with_reducible refine bs ?_ (by first | exact Nat.le_refl _ | omega | (simp; omega)) _) | (with_reducible refine bt ?_ (by assumption)))))).mono ?_
  rintro e w2 ⟨rfl, hb2⟩
  obtain ⟨hc2, hf2⟩ := bcell hb2
  have hz2 := hb2.size
  try simp at hz2
  have hs2x0 : w.heap.size < w2.heap.size := by omega
  have hs2x1 : (w.heap.size + 1) < w2.heap.size := by omega
  have g2x0 : w2.cell? ⟨w.heap.size, 0, none⟩ = some (.int .i64 y) := (hc2 _ _ (by first | omega | (simp; done) | (simp; omega))).trans (by first | assumption | simp [go_sem] | simp [go_sem, *])
  have g2x1 : w2.cell? ⟨w.heap.size, 1, none⟩ = some (.int .i64 n) := (hc2 _ _ (by first | omega | (simp; done) | (simp; omega))).trans (by first | assumption | simp [go_sem] | simp [go_sem, *])
  have g2x2 : w2.cell? ⟨w.heap.size, 2, none⟩ = some (.bool l) := (hc2 _ _ (by first | omega | (simp; done) | (simp; omega))).trans (by first | assumption | simp [go_sem] | simp [go_sem, *])
  have g2x3 : w2.cell? ⟨w.heap.size, 3, none⟩ = some (.int .i64 d) := (hc2 _ _ (by first | omega | (simp; done) | (simp; omega))).trans (by first | assumption | simp [go_sem] | simp [go_sem, *])
  have g2x4 : w2.cell? ⟨(w.heap.size + 1), 0, none⟩ = some (.int .i64 y) := (hc2 _ _ (by first | omega | (simp; done) | (simp; omega))).trans (by first | assumption | simp [go_sem] | simp [go_sem, *])
  have g2x5 : w2.cell? ⟨(w.heap.size + 1), 1, none⟩ = some (.int .i64 n) := (hc2 _ _ (by first | omega | (simp; done) | (simp; omega))).trans (by first | assumption | simp [go_sem] | simp [go_sem, *])
  have g2x6 : w2.cell? ⟨(w.heap.size + 1), 2, none⟩ = some (.bool l) := (hc2 _ _ (by first | omega | (simp; done) | (simp; omega))).trans (by first | assumption | simp [go_sem] | simp [go_sem, *])
  have g2x7 : w2.cell? ⟨(w.heap.size + 1), 3, none⟩ = some (.int .i64 d) := (hc2 _ _ (by first | omega | (simp; done) | (simp; omega))).trans (by first | assumption | simp [go_sem] | simp [go_sem, *])
  go_wp2_with fail
  refine (HF.out _).mono ?_
  rintro e w3 ⟨rfl, hb3⟩
  obtain ⟨hc3, hf3⟩ := bcell hb3
  have hz3 := hb3.size
  try simp at hz3
  have hs3x0 : w.heap.size < w3.heap.size := by omega
  have hs3x1 : (w.heap.size + 1) < w3.heap.size := by omega
  have g3x0 : w3.cell? ⟨w.heap.size, 0, none⟩ = some (.int .i64 y) := (hc3 _ _ (by first | omega | (simp; done) | (simp; omega))).trans (by first | assumption | simp [go_sem] | simp [go_sem, *])
  have g3x1 : w3.cell? ⟨w.heap.size, 1, none⟩ = some (.int .i64 n) := (hc3 _ _ (by first | omega | (simp; done) | (simp; omega))).trans (by first | assumption | simp [go_sem] | simp [go_sem, *])
  have g3x2 : w3.cell? ⟨w.heap.size, 2, none⟩ = some (.bool l) := (hc3 _ _ (by first | omega | (simp; done) | (simp; omega))).trans (by first | assumption | simp [go_sem] | simp [go_sem, *])
  have g3x3 : w3.cell? ⟨w.heap.size, 3, none⟩ = some (.int .i64 d) := (hc3 _ _ (by first | omega | (simp; done) | (simp; omega))).trans (by first | assumption | simp [go_sem] | simp [go_sem, *])
  have g3x4 : w3.cell? ⟨(w.heap.size + 1), 0, none⟩ = some (.int .i64 y) := (hc3 _ _ (by first | omega | (simp; done) | (simp; omega))).trans (by first | assumption | simp [go_sem] | simp [go_sem, *])
  have g3x5 : w3.cell? ⟨(w.heap.size + 1), 1, none⟩ = some (.int .i64 n) := (hc3 _ _ (by first | omega | (simp; done) | (simp; omega))).trans (by first | assumption | simp [go_sem] | simp [go_sem, *])
  have g3x6 : w3.cell? ⟨(w.heap.size + 1), 2, none⟩ = some (.bool l) := (hc3 _ _ (by first | omega | (simp; done) | (simp; omega))).trans (by first | assumption | simp [go_sem] | simp [go_sem, *])
  have g3x7 : w3.cell? ⟨(w.heap.size + 1), 3, none⟩ = some (.int .i64 d) := (hc3 _ _ (by first | omega | (simp; done) | (simp; omega))).trans (by first | assumption | simp [go_sem] | simp [go_sem, *])
  go_wp2_with fail
  refine (awake10 _ (Tab.below hT (by repeat (first | (with_reducible exact Below.refl _ _) | assumption | (with_reducible refine bdrew ?_) | (with_reducible refine baa ?_ _) | (with_reducible refine bs ?_ (by first | exact Nat.le_refl _ | omega | (simp; omega)) _) | (with_reducible refine bt ?_ (by assumption))))) (Tab.below hL (by repeat (first | (with_reducible exact Below.refl _ _) | assumption | (with_reducible refine bdrew ?_) | (with_reducible refine baa ?_ _) | (with_reducible refine bs ?_ (by first | exact Nat.le_refl _ | omega | (simp; omega)) _) | (with_reducible refine bt ?_ (by assumption)))))).mono ?_
  rintro e w4 ⟨rfl, hb4⟩
  obtain ⟨hc4, hf4⟩ := bcell hb4
  have hz4 := hb4.size
  try simp at hz4
  have hl4w3 : w3.heap.size < w4.heap.size := by omega
  have hm4w3 : w3.heap.size ≤ w4.heap.size := by omega
  have hs4x0 : w.heap.size < w4.heap.size := by omega
  have hs4x1 : (w.heap.size + 1) < w4.heap.size := by omega
  have g4x0 : w4.cell? ⟨w.heap.size, 0, none⟩ = some (.int .i64 y) := (hc4 _ _ (by first | omega | (simp; done) | (simp; omega))).trans (by first | assumption | simp [go_sem] | simp [go_sem, *])
  have g4x1 : w4.cell? ⟨w.heap.size, 1, none⟩ = some (.int .i64 n) := (hc4 _ _ (by first | omega | (simp; done) | (simp; omega))).trans (by first | assumption | simp [go_sem] | simp [go_sem, *])
  have g4x2 : w4.cell? ⟨w.heap.size, 2, none⟩ = some (.bool l) := (hc4 _ _ (by first | omega | (simp; done) | (simp; omega))).trans (by first | assumption | simp [go_sem] | simp [go_sem, *])
  have g4x3 : w4.cell? ⟨w.heap.size, 3, none⟩ = some (.int .i64 d) := (hc4 _ _ (by first | omega | (simp; done) | (simp; omega))).trans (by first | assumption | simp [go_sem] | simp [go_sem, *])
  have g4x4 : w4.cell? ⟨(w.heap.size + 1), 0, none⟩ = some (.int .i64 y) := (hc4 _ _ (by first | omega | (simp; done) | (simp; omega))).trans (by first | assumption | simp [go_sem] | simp [go_sem, *])
  have g4x5 : w4.cell? ⟨(w.heap.size + 1), 1, none⟩ = some (.int .i64 n) := (hc4 _ _ (by first | omega | (simp; done) | (simp; omega))).trans (by first | assumption | simp [go_sem] | simp [go_sem, *])
  have g4x6 : w4.cell? ⟨(w.heap.size + 1), 2, none⟩ = some (.bool l) := (hc4 _ _ (by first | omega | (simp; done) | (simp; omega))).trans (by first | assumption | simp [go_sem] | simp [go_sem, *])
  have g4x7 : w4.cell? ⟨(w.heap.size + 1), 3, none⟩ = some (.int .i64 d) := (hc4 _ _ (by first | omega | (simp; done) | (simp; omega))).trans (by first | assumption | simp [go_sem] | simp [go_sem, *])
  have g4x8 : w4.cell? ⟨w3.heap.size, 0, none⟩ = some (.int .i64 0) := (hc4 _ _ (by first | omega | (simp; done) | (simp; omega))).trans (by first | assumption | simp [go_sem] | simp [go_sem, *])
  have g4x9 : w4.cell? ⟨w3.heap.size, 1, none⟩ = some (.int .i64 0) := (hc4 _ _ (by first | omega | (simp; done) | (simp; omega))).trans (by first | assumption | simp [go_sem] | simp [go_sem, *])
  have g4x10 : w4.cell? ⟨w3.heap.size, 2, none⟩ = some (.bool false) := (hc4 _ _ (by first | omega | (simp; done) | (simp; omega))).trans (by first | assumption | simp [go_sem] | simp [go_sem, *])
  have g4x11 : w4.cell? ⟨w3.heap.size, 3, none⟩ = some (.int .i64 0) := (hc4 _ _ (by first | omega | (simp; done) | (simp; omega))).trans (by first | assumption | simp [go_sem] | simp [go_sem, *])
  go_wp2_with fail
  refine (HL.out _).mono ?_
  rintro e w5 ⟨rfl, hb5⟩
  obtain ⟨hc5, hf5⟩ := bcell hb5
  have hz5 := hb5.size
  try simp at hz5
  have hl5w3 : w3.heap.size < w5.heap.size := by omega
  have hm5w3 : w3.heap.size ≤ w5.heap.size := by omega
  have hs5x0 : w.heap.size < w5.heap.size := by omega
  have hs5x1 : (w.heap.size + 1) < w5.heap.size := by omega
  have g5x0 : w5.cell? ⟨w.heap.size, 0, none⟩ = some (.int .i64 y) := (hc5 _ _ (by first | omega | (simp; done) | (simp; omega))).trans (by first | assumption | simp [go_sem] | simp [go_sem, *])
  have g5x1 : w5.cell? ⟨w.heap.size, 1, none⟩ = some (.int .i64 n) := (hc5 _ _ (by first | omega | (simp; done) | (simp; omega))).trans (by first | assumption | simp [go_sem] | simp [go_sem, *])
  have g5x2 : w5.cell? ⟨w.heap.size, 2, none⟩ = some (.bool l) := (hc5 _ _ (by first | omega | (simp; done) | (simp; omega))).trans (by first | assumption | simp [go_sem] | simp [go_sem, *])
  have g5x3 : w5.cell? ⟨w.heap.size, 3, none⟩ = some (.int .i64 d) := (hc5 _ _ (by first | omega | (simp; done) | (simp; omega))).trans (by first | assumption | simp [go_sem] | simp [go_sem, *])
  have g5x4 : w5.cell? ⟨(w.heap.size + 1), 0, none⟩ = some (.int .i64 y) := (hc5 _ _ (by first | omega | (simp; done) | (simp; omega))).trans (by first | assumption | simp [go_sem] | simp [go_sem, *])
  have g5x5 : w5.cell? ⟨(w.heap.size + 1), 1, none⟩ = some (.int .i64 n) := (hc5 _ _ (by first | omega | (simp; done) | (simp; omega))).trans (by first | assumption | simp [go_sem] | simp [go_sem, *])
  have g5x6 : w5.cell? ⟨(w.heap.size + 1), 2, none⟩ = some (.bool l) := (hc5 _ _ (by first | omega | (simp; done) | (simp; omega))).trans (by first | assumption | simp [go_sem] | simp [go_sem, *])
  have g5x7 : w5.cell? ⟨(w.heap.size + 1), 3, none⟩ = some (.int .i64 d) := (hc5 _ _ (by first | omega | (simp; done) | (simp; omega))).trans (by first | assumption | simp [go_sem] | simp [go_sem, *])
  have g5x8 : w5.cell? ⟨w3.heap.size, 0, none⟩ = some (.int .i64 0) := (hc5 _ _ (by first | omega | (simp; done) | (simp; omega))).trans (by first | assumption | simp [go_sem] | simp [go_sem, *])
  have g5x9 : w5.cell? ⟨w3.heap.size, 1, none⟩ = some (.int .i64 0) := (hc5 _ _ (by first | omega | (simp; done) | (simp; omega))).trans (by first | assumption | simp [go_sem] | simp [go_sem, *])
  have g5x10 : w5.cell? ⟨w3.heap.size, 2, none⟩ = some (.bool false) := (hc5 _ _ (by first | omega | (simp; done) | (simp; omega))).trans (by first | assumption | simp [go_sem] | simp [go_sem, *])
  have g5x11 : w5.cell? ⟨w3.heap.size, 3, none⟩ = some (.int .i64 0) := (hc5 _ _ (by first | omega | (simp; done) | (simp; omega))).trans (by first | assumption | simp [go_sem] | simp [go_sem, *])
  go_wp2_with fail
  go_ret
  refine ⟨?_, ?_⟩
  · simp [*]
  repeat (first | (with_reducible exact Below.refl _ _) | assumption | (with_reducible refine bdrew ?_) | (with_reducible refine baa ?_ _) | (with_reducible refine bs ?_ (by first | exact Nat.le_refl _ | omega | (simp; omega)) _) | (with_reducible refine bt ?_ (by assumption)))
set_option maxHeartbeats 2000000 in
theorem HebNext_no_y (y n : Int) (l : Bool) (d z k : Int) (h : Bool) (f : Int) (hy : I64 y) (hz : I64 z) (w : World) (hT : Tab w 2 kevCells) (hL : Tab w 1 lenCells) (h1 : D10.dateE y n l d = 0) (h2 : D10.dateE z k h f = 0) (hne : ¬ y = z) (hD : 2278650 < D10.dayV y n l d + 1) :
    Calls Tryd.prog 5 #[.agg #[.int .i64 y, .int .i64 n, .bool l, .int .i64 d], .agg #[.int .i64 z, .int .i64 k, .bool h, .int .i64 f]] w fun e w' => e = .returned (.bool true) ∧ Below w.heap.size w w' := by
  obtain ⟨_, b1, b2⟩ := D10.dayV_ok y n l d h1
  have HT1 := Lib.hid (fun w hT hL => heb_ToDay y n l d w hy hT hL)
  have HT2 := Lib.hid (fun w hT hL => heb_ToDay z k h f w hz hT hL)
  have HL := Lib.hid (fun w => heb_Less y n l d z k h f w)
  have hv13 : ¬ D10.dayV y n l d = D10.dayV z k h f := fun e => hne (by have := D10.same_day h1 h2 e; simp [this])
  rw [D10.less_day h1 h2] at HL
  have HF := Lib.hid (fun w => heb_FromDay_no (D10.dayV y n l d + 1) w (.inr hD))
  clear hD
  rw [h1] at HT1
  rw [h2] at HT2
  clear h2
  clear h1
  generalize D10.dayV y n l d = v1 at *
  generalize D10.dayV z k h f = v3 at *
  go_enter Tryd.func5, Tryd.ntmps5
  go_wp2_with fail
  refine (HT1.out _ (Tab.below hT (by repeat (first | (with_reducible exact Below.refl _ _) | assumption | (with_reducible refine bdrew ?_) | (with_reducible refine baa ?_ _) | (with_reducible refine bs ?_ (by first | exact Nat.le_refl _ | omega | (simp; omega)) _) | (with_reducible refine bt ?_ (by assumption))))) (Tab.below hL (by repeat (first | (with_reducible exact Below.refl _ _) | assumption | (with_reducible refine bdrew ?_) | (with_reducible refine baa ?_ _) | (with_reducible refine bs ?_ (by first | exact Nat.le_refl _ | omega | (simp; omega)) _) | (with_reducible refine bt ?_ (by assumption)))))).mono ?_
  rintro e w1 ⟨rfl, hb1⟩
  obtain ⟨hc1, hf1⟩ := bcell hb1
  have hz1 := hb1.size
  try simp at hz1
  have hs1x0 : w.heap.size < w1.heap.size := by omega
  have hs1x1 : (w.heap.size + 1) < w1.heap.size := by omega
  have g1x0 : w1.cell? ⟨w.heap.size, 0, none⟩ = some (.int .i64 y) := (hc1 _ _ (by first | omega | (simp; done) | (simp; omega))).trans (by first | assumption | simp [go_sem] | simp [go_sem, *])
  have g1x1 : w1.cell? ⟨w.heap.size, 1, none⟩ = some (.int .i64 n) := (hc1 _ _ (by first | omega | (simp; done) | (simp; omega))).trans (by first | assumption | simp [go_sem] | simp [go_sem, *])
  have g1x2 : w1.cell? ⟨w.heap.size, 2, none⟩ = some (.bool l) := (hc1 _ _ (by first | omega | (simp; done) | (simp; omega))).trans (by first | assumption | simp [go_sem] | simp [go_sem, *])
  have g1x3 : w1.cell? ⟨w.heap.size, 3, none⟩ = some (.int .i64 d) := (hc1 _ _ (by first | omega | (simp; done) | (simp; omega))).trans (by first | assumption | simp [go_sem] | simp [go_sem, *])
  have g1x4 : w1.cell? ⟨(w.heap.size + 1), 0, none⟩ = some (.int .i64 z) := (hc1 _ _ (by first | omega | (simp; done) | (simp; omega))).trans (by first | assumption | simp [go_sem] | simp [go_sem, *])
  have g1x5 : w1.cell? ⟨(w.heap.size + 1), 1, none⟩ = some (.int .i64 k) := (hc1 _ _ (by first | omega | (simp; done) | (simp; omega))).trans (by first | assumption | simp [go_sem] | simp [go_sem, *])
  have g1x6 : w1.cell? ⟨(w.heap.size + 1), 2, none⟩ = some (.bool h) := (hc1 _ _ (by first | omega | (simp; done) | (simp; omega))).trans (by first | assumption | simp [go_sem] | simp [go_sem, *])
  have g1x7 : w1.cell? ⟨(w.heap.size + 1), 3, none⟩ = some (.int .i64 f) := (hc1 _ _ (by first | omega | (simp; done) | (simp; omega))).trans (by first | assumption | simp [go_sem] | simp [go_sem, *])
  go_wp2_with fail
  refine (HT2.out _ (Tab.below hT (by repeat (first | (with_reducible exact Below.refl _ _) | assumption | (with_reducible refine bdrew ?_) | (with_reducible refine baa ?_ _) | (with_reducible refine bs ?_ (by first | exact Nat.le_refl _ | omega | (simp; omega)) _) | (with_reducible refine bt ?_ (by assumption))))) (Tab.below hL (by repeat (first | (with_reducible exact Below.refl _ _) | assumption | (with_reducible refine bdrew ?_) | (with_reducible refine baa ?_ _) | (with_reducible refine bs ?_ (by first | exact Nat.le_refl _ | omega | (simp; omega)) _) | (with_reducible refine bt ?_ (by assumption)))))).mono ?_
  rintro e w2 ⟨rfl, hb2⟩
  obtain ⟨hc2, hf2⟩ := bcell hb2
  have hz2 := hb2.size
  try simp at hz2
  have hs2x0 : w.heap.size < w2.heap.size := by omega
  have hs2x1 : (w.heap.size + 1) < w2.heap.size := by omega
  have g2x0 : w2.cell? ⟨w.heap.size, 0, none⟩ = some (.int .i64 y) := (hc2 _ _ (by first | omega | (simp; done) | (simp; omega))).trans (by first | assumption | simp [go_sem] | simp [go_sem, *])
  have g2x1 : w2.cell? ⟨w.heap.size, 1, none⟩ = some (.int .i64 n) := (hc2 _ _ (by first | omega | (simp; done) | (simp; omega))).trans (by first | assumption | simp [go_sem] | simp [go_sem, *])
  have g2x2 : w2.cell? ⟨w.heap.size, 2, none⟩ = some (.bool l) := (hc2 _ _ (by first | omega | (simp; done) | (simp; omega))).trans (by first | assumption | simp [go_sem] | simp [go_sem, *])
  have g2x3 : w2.cell? ⟨w.heap.size, 3, none⟩ = some (.int .i64 d) := (hc2 _ _ (by first | omega | (simp; done) | (simp; omega))).trans (by first | assumption | simp [go_sem] | simp [go_sem, *])
  have g2x4 : w2.cell? ⟨(w.heap.size + 1), 0, none⟩ = some (.int .i64 z) := (hc2 _ _ (by first | omega | (simp; done) | (simp; omega))).trans (by first | assumption | simp [go_sem] | simp [go_sem, *])
  have g2x5 : w2.cell? ⟨(w.heap.size + 1), 1, none⟩ = some (.int .i64 k) := (hc2 _ _ (by first | omega | (simp; done) | (simp; omega))).trans (by first | assumption | simp [go_sem] | simp [go_sem, *])
  have g2x6 : w2.cell? ⟨(w.heap.size + 1), 2, none⟩ = some (.bool h) := (hc2 _ _ (by first | omega | (simp; done) | (simp; omega))).trans (by first | assumption | simp [go_sem] | simp [go_sem, *])
  have g2x7 : w2.cell? ⟨(w.heap.size + 1), 3, none⟩ = some (.int .i64 f) := (hc2 _ _ (by first | omega | (simp; done) | (simp; omega))).trans (by first | assumption | simp [go_sem] | simp [go_sem, *])
  go_wp2_with fail
  refine (HF.out _).mono ?_
  rintro e w3 ⟨rfl, hb3⟩
  obtain ⟨hc3, hf3⟩ := bcell hb3
  have hz3 := hb3.size
  try simp at hz3
  have hs3x0 : w.heap.size < w3.heap.size := by omega
  have hs3x1 : (w.heap.size + 1) < w3.heap.size := by omega
  have g3x0 : w3.cell? ⟨w.heap.size, 0, none⟩ = some (.int .i64 y) := (hc3 _ _ (by first | omega | (simp; done) | (simp; omega))).trans (by first | assumption | simp [go_sem] | simp [go_sem, *])
  have g3x1 : w3.cell? ⟨w.heap.size, 1, none⟩ = some (.int .i64 n) := (hc3 _ _ (by first | omega | (simp; done) | (simp; omega))).trans (by first | assumption | simp [go_sem] | simp [go_sem, *])
  have g3x2 : w3.cell? ⟨w.heap.size, 2, none⟩ = some (.bool l) := (hc3 _ _ (by first | omega | (simp; done) | (simp; omega))).trans (by first | assumption | simp [go_sem] | simp [go_sem, *])
  have g3x3 : w3.cell? ⟨w.heap.size, 3, none⟩ = some (.int .i64 d) := (hc3 _ _ (by first | omega | (simp; done) | (simp; omega))).trans (by first | assumption | simp [go_sem] | simp [go_sem, *])
  have g3x4 : w3.cell? ⟨(w.heap.size + 1), 0, none⟩ = some (.int .i64 z) := (hc3 _ _ (by first | omega | (simp; done) | (simp; omega))).trans (by first | assumption | simp [go_sem] | simp [go_sem, *])
  have g3x5 : w3.cell? ⟨(w.heap.size + 1), 1, none⟩ = some (.int .i64 k) := (hc3 _ _ (by first | omega | (simp; done) | (simp; omega))).trans (by first | assumption | simp [go_sem] | simp [go_sem, *])
  have g3x6 : w3.cell? ⟨(w.heap.size + 1), 2, none⟩ = some (.bool h) := (hc3 _ _ (by first | omega | (simp; done) | (simp; omega))).trans (by first | assumption | simp [go_sem] | simp [go_sem, *])
  have g3x7 : w3.cell? ⟨(w.heap.size + 1), 3, none⟩ = some (.int .i64 f) := (hc3 _ _ (by first | omega | (simp; done) | (simp; omega))).trans (by first | assumption | simp [go_sem] | simp [go_sem, *])
  go_wp2_with fail
  refine (awake10 _ (Tab.below hT (by repeat (first | (with_reducible exact Below.refl _ _) | assumption | (with_reducible refine bdrew ?_) | (with_reducible refine baa ?_ _) | (with_reducible refine bs ?_ (by first | exact Nat.le_refl _ | omega | (simp; omega)) _) | (with_reducible refine bt ?_ (by assumption))))) (Tab.below hL (by repeat (first | (with_reducible exact Below.refl _ _) | assumption | (with_reducible refine bdrew ?_) | (with_reducible refine baa ?_ _) | (with_reducible refine bs ?_ (by first | exact Nat.le_refl _ | omega | (simp; omega)) _) | (with_reducible refine bt ?_ (by assumption)))))).mono ?_
  rintro e w4 ⟨rfl, hb4⟩
  obtain ⟨hc4, hf4⟩ := bcell hb4
  have hz4 := hb4.size
  try simp at hz4
  have hl4w3 : w3.heap.size < w4.heap.size := by omega
  have hm4w3 : w3.heap.size ≤ w4.heap.size := by omega
  have hs4x0 : w.heap.size < w4.heap.size := by omega
  have hs4x1 : (w.heap.size + 1) < w4.heap.size := by omega
  have g4x0 : w4.cell? ⟨w.heap.size, 0, none⟩ = some (.int .i64 y) := (hc4 _ _ (by first | omega | (simp; done) | (simp; omega))).trans (by first | assumption | simp [go_sem] | simp [go_sem, *])
  have g4x1 : w4.cell? ⟨w.heap.size, 1, none⟩ = some (.int .i64 n) := (hc4 _ _ (by first | omega | (simp; done) | (simp; omega))).trans (by first | assumption | simp [go_sem] | simp [go_sem, *])
  have g4x2 : w4.cell? ⟨w.heap.size, 2, none⟩ = some (.bool l) := (hc4 _ _ (by first | omega | (simp; done) | (simp; omega))).trans (by first | assumption | simp [go_sem] | simp [go_sem, *])
  have g4x3 : w4.cell? ⟨w.heap.size, 3, none⟩ = some (.int .i64 d) := (hc4 _ _ (by first | omega | (simp; done) | (simp; omega))).trans (by first | assumption | simp [go_sem] | simp [go_sem, *])
  have g4x4 : w4.cell? ⟨(w.heap.size + 1), 0, none⟩ = some (.int .i64 z) := (hc4 _ _ (by first | omega | (simp; done) | (simp; omega))).trans (by first | assumption | simp [go_sem] | simp [go_sem, *])
  have g4x5 : w4.cell? ⟨(w.heap.size + 1), 1, none⟩ = some (.int .i64 k) := (hc4 _ _ (by first | omega | (simp; done) | (simp; omega))).trans (by first | assumption | simp [go_sem] | simp [go_sem, *])
  have g4x6 : w4.cell? ⟨(w.heap.size + 1), 2, none⟩ = some (.bool h) := (hc4 _ _ (by first | omega | (simp; done) | (simp; omega))).trans (by first | assumption | simp [go_sem] | simp [go_sem, *])
  have g4x7 : w4.cell? ⟨(w.heap.size + 1), 3, none⟩ = some (.int .i64 f) := (hc4 _ _ (by first | omega | (simp; done) | (simp; omega))).trans (by first | assumption | simp [go_sem] | simp [go_sem, *])
  have g4x8 : w4.cell? ⟨w3.heap.size, 0, none⟩ = some (.int .i64 0) := (hc4 _ _ (by first | omega | (simp; done) | (simp; omega))).trans (by first | assumption | simp [go_sem] | simp [go_sem, *])
  have g4x9 : w4.cell? ⟨w3.heap.size, 1, none⟩ = some (.int .i64 0) := (hc4 _ _ (by first | omega | (simp; done) | (simp; omega))).trans (by first | assumption | simp [go_sem] | simp [go_sem, *])
  have g4x10 : w4.cell? ⟨w3.heap.size, 2, none⟩ = some (.bool false) := (hc4 _ _ (by first | omega | (simp; done) | (simp; omega))).trans (by first | assumption | simp [go_sem] | simp [go_sem, *])
  have g4x11 : w4.cell? ⟨w3.heap.size, 3, none⟩ = some (.int .i64 0) := (hc4 _ _ (by first | omega | (simp; done) | (simp; omega))).trans (by first | assumption | simp [go_sem] | simp [go_sem, *])
  go_wp2_with fail
  refine (HL.out _).mono ?_
  rintro e w5 ⟨rfl, hb5⟩
  obtain ⟨hc5, hf5⟩ := bcell hb5
  have hz5 := hb5.size
  try simp at hz5
  have hl5w3 : w3.heap.size < w5.heap.size := by omega
  have hm5w3 : w3.heap.size ≤ w5.heap.size := by omega
  have hs5x0 : w.heap.size < w5.heap.size := by omega
  have hs5x1 : (w.heap.size + 1) < w5.heap.size := by omega
  have g5x0 : w5.cell? ⟨w.heap.size, 0, none⟩ = some (.int .i64 y) := (hc5 _ _ (by first | omega | (simp; done) | (simp; omega))).trans (by first | assumption | simp [go_sem] | simp [go_sem, *])
  have g5x1 : w5.cell? ⟨w.heap.size, 1, none⟩ = some (.int .i64 n) := (hc5 _ _ (by first | omega | (simp; done) | (simp; omega))).trans (by first | assumption | simp [go_sem] | simp [go_sem, *])
  have g5x2 : w5.cell? ⟨w.heap.size, 2, none⟩ = some (.bool l) := (hc5 _ _ (by first | omega | (simp; done) | (simp; omega))).trans (by first | assumption | simp [go_sem] | simp [go_sem, *])
  have g5x3 : w5.cell? ⟨w.heap.size, 3, none⟩ = some (.int .i64 d) := (hc5 _ _ (by first | omega | (simp; done) | (simp; omega))).trans (by first | assumption | simp [go_sem] | simp [go_sem, *])
  have g5x4 : w5.cell? ⟨(w.heap.size + 1), 0, none⟩ = some (.int .i64 z) := (hc5 _ _ (by first | omega | (simp; done) | (simp; omega))).trans (by first | assumption | simp [go_sem] | simp [go_sem, *])
  have g5x5 : w5.cell? ⟨(w.heap.size + 1), 1, none⟩ = some (.int .i64 k) := (hc5 _ _ (by first | omega | (simp; done) | (simp; omega))).trans (by first | assumption | simp [go_sem] | simp [go_sem, *])
  have g5x6 : w5.cell? ⟨(w.heap.size + 1), 2, none⟩ = some (.bool h) := (hc5 _ _ (by first | omega | (simp; done) | (simp; omega))).trans (by first | assumption | simp [go_sem] | simp [go_sem, *])
  have g5x7 : w5.cell? ⟨(w.heap.size + 1), 3, none⟩ = some (.int .i64 f) := (hc5 _ _ (by first | omega | (simp; done) | (simp; omega))).trans (by first | assumption | simp [go_sem] | simp [go_sem, *])
  have g5x8 : w5.cell? ⟨w3.heap.size, 0, none⟩ = some (.int .i64 0) := (hc5 _ _ (by first | omega | (simp; done) | (simp; omega))).trans (by first | assumption | simp [go_sem] | simp [go_sem, *])
  have g5x9 : w5.cell? ⟨w3.heap.size, 1, none⟩ = some (.int .i64 0) := (hc5 _ _ (by first | omega | (simp; done) | (simp; omega))).trans (by first | assumption | simp [go_sem] | simp [go_sem, *])
  have g5x10 : w5.cell? ⟨w3.heap.size, 2, none⟩ = some (.bool false) := (hc5 _ _ (by first | omega | (simp; done) | (simp; omega))).trans (by first | assumption | simp [go_sem] | simp [go_sem, *])
  have g5x11 : w5.cell? ⟨w3.heap.size, 3, none⟩ = some (.int .i64 0) := (hc5 _ _ (by first | omega | (simp; done) | (simp; omega))).trans (by first | assumption | simp [go_sem] | simp [go_sem, *])
  go_wp2_with fail
  go_ret
  refine ⟨?_, ?_⟩
  · simp [*]
  repeat (first | (with_reducible exact Below.refl _ _) | assumption | (with_reducible refine bdrew ?_) | (with_reducible refine baa ?_ _) | (with_reducible refine bs ?_ (by first | exact Nat.le_refl _ | omega | (simp; omega)) _) | (with_reducible refine bt ?_ (by assumption)))
set_option maxHeartbeats 2000000 in
theorem HebNext_no_n (y n : Int) (l : Bool) (d z k : Int) (h : Bool) (f : Int) (hy : I64 y) (hz : I64 z) (w : World) (hT : Tab w 2 kevCells) (hL : Tab w 1 lenCells) (h1 : D10.dateE y n l d = 0) (h2 : D10.dateE z k h f = 0) (hne : ¬ n = k) (hD : 2278650 < D10.dayV y n l d + 1) :
    Calls Tryd.prog 5 #[.agg #[.int .i64 y, .int .i64 n, .bool l, .int .i64 d], .agg #[.int .i64 z, .int .i64 k, .bool h, .int .i64 f]] w fun e w' => e = .returned (.bool true) ∧ Below w.heap.size w w' := by
  obtain ⟨_, b1, b2⟩ := D10.dayV_ok y n l d h1
  have HT1 := Lib.hid (fun w hT hL => heb_ToDay y n l d w hy hT hL)
  have HT2 := Lib.hid (fun w hT hL => heb_ToDay z k h f w hz hT hL)
  have HL := Lib.hid (fun w => heb_Less y n l d z k h f w)
  have hv13 : ¬ D10.dayV y n l d = D10.dayV z k h f := fun e => hne (by have := D10.same_day h1 h2 e; simp [this])
  rw [D10.less_day h1 h2] at HL
  have HF := Lib.hid (fun w => heb_FromDay_no (D10.dayV y n l d + 1) w (.inr hD))
  clear hD
  rw [h1] at HT1
  rw [h2] at HT2
  clear h2
  clear h1
  generalize D10.dayV y n l d = v1 at *
  generalize D10.dayV z k h f = v3 at *
  go_enter Tryd.func5, Tryd.ntmps5
  go_wp2_with fail
  refine (HT1.out _ (Tab.below hT (by repeat (first | (with_reducible exact Below.refl _ _) | assumption | (with_reducible refine bdrew ?_) | (with_reducible refine baa ?_ _) | (with_reducible refine bs ?_ (by first | exact Nat.le_refl _ | omega | (simp; omega)) _) | (with_reducible refine bt ?_ (by assumption))))) (Tab.below hL (by repeat (first | (with_reducible exact Below.refl _ _) | assumption | (with_reducible refine bdrew ?_) | (with_reducible refine baa ?_ _) | (with_reducible refine bs ?_ (by first | exact Nat.le_refl _ | omega | (simp; omega)) _) | (with_reducible refine bt ?_ (by assumption)))))).mono ?_
  rintro e w1 ⟨rfl, hb1⟩
  obtain ⟨hc1, hf1⟩ := bcell hb1
  have hz1 := hb1.size
  try simp at hz1
  have hs1x0 : w.heap.size < w1.heap.size := by omega
  have hs1x1 : (w.heap.size + 1) < w1.heap.size := by omega
  have g1x0 : w1.cell? ⟨w.heap.size, 0, none⟩ = some (.int .i64 y) := (hc1 _ _ (by first | omega | (simp; done) | (simp; omega))).trans (by first | assumption | simp [go_sem] | simp [go_sem, *])
  have g1x1 : w1.cell? ⟨w.heap.size, 1, none⟩ = some (.int .i64 n) := (hc1 _ _ (by first | omega | (simp; done) | (simp; omega))).trans (by first | assumption | simp [go_sem] | simp [go_sem, *])
  have g1x2 : w1.cell? ⟨w.heap.size, 2, none⟩ = some (.bool l) := (hc1 _ _ (by first | omega | (simp; done) | (simp; omega))).trans (by first | assumption | simp [go_sem] | simp [go_sem, *])
  have g1x3 : w1.cell? ⟨w.heap.size, 3, none⟩ = some (.int .i64 d) := (hc1 _ _ (by first | omega | (simp; done) | (simp; omega))).trans (by first | assumption | simp [go_sem] | simp [go_sem, *])
  have g1x4 : w1.cell? ⟨(w.heap.size + 1), 0, none⟩ = some (.int .i64 z) := (hc1 _ _ (by first | omega | (simp; done) | (simp; omega))).trans (by first | assumption | simp [go_sem] | simp [go_sem, *])
  have g1x5 : w1.cell? ⟨(w.heap.size + 1), 1, none⟩ = some (.int .i64 k) := (hc1 _ _ (by first | omega | (simp; done) | (simp; omega))).trans (by first | assumption | simp [go_sem] | simp [go_sem, *])
  have g1x6 : w1.cell? ⟨(w.heap.size + 1), 2, none⟩ = some (.bool h) := (hc1 _ _ (by first | omega | (simp; done) | (simp; omega))).trans (by first | assumption | simp [go_sem] | simp [go_sem, *])
  have g1x7 : w1.cell? ⟨(w.heap.size + 1), 3, none⟩ = some (.int .i64 f) := (hc1 _ _ (by first | omega | (simp; done) | (simp; omega))).trans (by first | assumption | simp [go_sem] | simp [go_sem, *])
  go_wp2_with fail
  refine (HT2.out _ (Tab.below hT (by repeat (first | (with_reducible exact Below.refl _ _) | assumption | (with_reducible refine bdrew ?_) | (with_reducible refine baa ?_ _) | (with_reducible refine bs ?_ (by first | exact Nat.le_refl _ | omega | (simp; omega)) _) | (with_reducible refine bt ?_ (by assumption))))) (Tab.below hL (by repeat (first | (with_reducible exact Below.refl _ _) | assumption | (with_reducible refine bdrew ?_) | (with_reducible refine baa ?_ _) | (with_reducible refine bs ?_ (by first | exact Nat.le_refl _ | omega | (simp; omega)) _) | (with_reducible refine bt ?_ (by assumption)))))).mono ?_
  rintro e w2 ⟨rfl, hb2⟩
  obtain ⟨hc2, hf2⟩ := bcell hb2
  have hz2 := hb2.size
  try simp at hz2
  have hs2x0 : w.heap.size < w2.heap.size := by omega
  have hs2x1 : (w.heap.size + 1) < w2.heap.size := by omega
  have g2x0 : w2.cell? ⟨w.heap.size, 0, none⟩ = some (.int .i64 y) := (hc2 _ _ (by first | omega | (simp; done) | (simp; omega))).trans (by first | assumption | simp [go_sem] | simp [go_sem, *])
  have g2x1 : w2.cell? ⟨w.heap.size, 1, none⟩ = some (.int .i64 n) := (hc2 _ _ (by first | omega | (simp; done) | (simp; omega))).trans (by first | assumption | simp [go_sem] | simp [go_sem, *])
  have g2x2 : w2.cell? ⟨w.heap.size, 2, none⟩ = some (.bool l) := (hc2 _ _ (by first | omega | (simp; done) | (simp; omega))).trans (by first | assumption | simp [go_sem] | simp [go_sem, *])
  have g2x3 : w2.cell? ⟨w.heap.size, 3, none⟩ = some (.int .i64 d) := (hc2 _ _ (by first | omega | (simp; done) | (simp; omega))).trans (by first | assumption | simp [go_sem] | simp [go_sem, *])
  have g2x4 : w2.cell? ⟨(w.heap.size + 1), 0, none⟩ = some (.int .i64 z) := (hc2 _ _ (by first | omega | (simp; done) | (simp; omega))).trans (by first | assumption | simp [go_sem] | simp [go_sem, *])
  have g2x5 : w2.cell? ⟨(w.heap.size + 1), 1, none⟩ = some (.int .i64 k) := (hc2 _ _ (by first | omega | (simp; done) | (simp; omega))).trans (by first | assumption | simp [go_sem] | simp [go_sem, *])
  have g2x6 : w2.cell? ⟨(w.heap.size + 1), 2, none⟩ = some (.bool h) := (hc2 _ _ (by first | omega | (simp; done) | (simp; omega))).trans (by first | assumption | simp [go_sem] | simp [go_sem, *])
  have g2x7 : w2.cell? ⟨(w.heap.size + 1), 3, none⟩ = some (.int .i64 f) := (hc2 _ _ (by first | omega | (simp; done) | (simp; omega))).trans (by first | assumption | simp [go_sem] | simp [go_sem, *])
  go_wp2_with fail
  refine (HF.out _).mono ?_
  rintro e w3 ⟨rfl, hb3⟩
  obtain ⟨hc3, hf3⟩ := bcell hb3
  have hz3 := hb3.size
  try simp at hz3
  have hs3x0 : w.heap.size < w3.heap.size := by omega
  have hs3x1 : (w.heap.size + 1) < w3.heap.size := by omega
  have g3x0 : w3.cell? ⟨w.heap.size, 0, none⟩ = some (.int .i64 y) := (hc3 _ _ (by first | omega | (simp; done) | (simp; omega))).trans (by first | assumption | simp [go_sem] | simp [go_sem, *])
  have g3x1 : w3.cell? ⟨w.heap.size, 1, none⟩ = some (.int .i64 n) := (hc3 _ _ (by first | omega | (simp; done) | (simp; omega))).trans (by first | assumption | simp [go_sem] | simp [go_sem, *])
  have g3x2 : w3.cell? ⟨w.heap.size, 2, none⟩ = some (.bool l) := (hc3 _ _ (by first | omega | (simp; done) | (simp; omega))).trans (by first | assumption | simp [go_sem] | simp [go_sem, *])
  have g3x3 : w3.cell? ⟨w.heap.size, 3, none⟩ = some (.int .i64 d) := (hc3 _ _ (by first | omega | (simp; done) | (simp; omega))).trans (by first | assumption | simp [go_sem] | simp [go_sem, *])
  have g3x4 : w3.cell? ⟨(w.heap.size + 1), 0, none⟩ = some (.int .i64 z) := (hc3 _ _ (by first | omega | (simp; done) | (simp; omega))).trans (by first | assumption | simp [go_sem] | simp [go_sem, *])
  have g3x5 : w3.cell? ⟨(w.heap.size + 1), 1, none⟩ = some (.int .i64 k) := (hc3 _ _ (by first | omega | (simp; done) | (simp; omega))).trans (by first | assumption | simp [go_sem] | simp [go_sem, *])
  have g3x6 : w3.cell? ⟨(w.heap.size + 1), 2, none⟩ = some (.bool h) := (hc3 _ _ (by first | omega | (simp; done) | (simp; omega))).trans (by first | assumption | simp [go_sem] | simp [go_sem, *])
  have g3x7 : w3.cell? ⟨(w.heap.size + 1), 3, none⟩ = some (.int .i64 f) := (hc3 _ _ (by first | omega | (simp; done) | (simp; omega))).trans (by first | assumption | simp [go_sem] | simp [go_sem, *])
  go_wp2_with fail
  refine (awake10 _ (Tab.below hT (by repeat (first | (with_reducible exact Below.refl _ _) | assumption | (with_reducible refine bdrew ?_) | (with_reducible refine baa ?_ _) | (with_reducible refine bs ?_ (by first | exact Nat.le_refl _ | omega | (simp; omega)) _) | (with_reducible refine bt ?_ (by assumption))))) (Tab.below hL (by repeat (first | (with_reducible exact Below.refl _ _) | assumption | (with_reducible refine bdrew ?_) | (with_reducible refine baa ?_ _) | (with_reducible refine bs ?_ (by first | exact Nat.le_refl _ | omega | (simp; omega)) _) | (with_reducible refine bt ?_ (by assumption)))))).mono ?_
  rintro e w4 ⟨rfl, hb4⟩
  obtain ⟨hc4, hf4⟩ := bcell hb4
  have hz4 := hb4.size
  try simp at hz4
  have hl4w3 : w3.heap.size < w4.heap.size := by omega
  have hm4w3 : w3.heap.size ≤ w4.heap.size := by omega
  have hs4x0 : w.heap.size < w4.heap.size := by omega
  have hs4x1 : (w.heap.size + 1) < w4.heap.size := by omega
  have g4x0 : w4.cell? ⟨w.heap.size, 0, none⟩ = some (.int .i64 y) := (hc4 _ _ (by first | omega | (simp; done) | (simp; omega))).trans (by first | assumption | simp [go_sem] | simp [go_sem, *])
  have g4x1 : w4.cell? ⟨w.heap.size, 1, none⟩ = some (.int .i64 n) := (hc4 _ _ (by first | omega | (simp; done) | (simp; omega))).trans (by first | assumption | simp [go_sem] | simp [go_sem, *])
  have g4x2 : w4.cell? ⟨w.heap.size, 2, none⟩ = some (.bool l) := (hc4 _ _ (by first | omega | (simp; done) | (simp; omega))).trans (by first | assumption | simp [go_sem] | simp [go_sem, *])
  have g4x3 : w4.cell? ⟨w.heap.size, 3, none⟩ = some (.int .i64 d) := (hc4 _ _ (by first | omega | (simp; done) | (simp; omega))).trans (by first | assumption | simp [go_sem] | simp [go_sem, *])
  have g4x4 : w4.cell? ⟨(w.heap.size + 1), 0, none⟩ = some (.int .i64 z) := (hc4 _ _ (by first | omega | (simp; done) | (simp; omega))).trans (by first | assumption | simp [go_sem] | simp [go_sem, *])
  have g4x5 : w4.cell? ⟨(w.heap.size + 1), 1, none⟩ = some (.int .i64 k) := (hc4 _ _ (by first | omega | (simp; done) | (simp; omega))).trans (by first | assumption | simp [go_sem] | simp [go_sem, *])
  have g4x6 : w4.cell? ⟨(w.heap.size + 1), 2, none⟩ = some (.bool h) := (hc4 _ _ (by first | omega | (simp; done) | (simp; omega))).trans (by first | assumption | simp [go_sem] | simp [go_sem, *])
  have g4x7 : w4.cell? ⟨(w.heap.size + 1), 3, none⟩ = some (.int .i64 f) := (hc4 _ _ (by first | omega | (simp; done) | (simp; omega))).trans (by first | assumption | simp [go_sem] | simp [go_sem, *])
  have g4x8 : w4.cell? ⟨w3.heap.size, 0, none⟩ = some (.int .i64 0) := (hc4 _ _ (by first | omega | (simp; done) | (simp; omega))).trans (by first | assumption | simp [go_sem] | simp [go_sem, *])
  have g4x9 : w4.cell? ⟨w3.heap.size, 1, none⟩ = some (.int .i64 0) := (hc4 _ _ (by first | omega | (simp; done) | (simp; omega))).trans (by first | assumption | simp [go_sem] | simp [go_sem, *])
  have g4x10 : w4.cell? ⟨w3.heap.size, 2, none⟩ = some (.bool false) := (hc4 _ _ (by first | omega | (simp; done) | (simp; omega))).trans (by first | assumption | simp [go_sem] | simp [go_sem, *])
  have g4x11 : w4.cell? ⟨w3.heap.size, 3, none⟩ = some (.int .i64 0) := (hc4 _ _ (by first | omega | (simp; done) | (simp; omega))).trans (by first | assumption | simp [go_sem] | simp [go_sem, *])
  go_wp2_with fail
  refine (HL.out _).mono ?_
  rintro e w5 ⟨rfl, hb5⟩
  obtain ⟨hc5, hf5⟩ := bcell hb5
  have hz5 := hb5.size
  try simp at hz5
  have hl5w3 : w3.heap.size < w5.heap.size := by omega
  have hm5w3 : w3.heap.size ≤ w5.heap.size := by omega
  have hs5x0 : w.heap.size < w5.heap.size := by omega
  have hs5x1 : (w.heap.size + 1) < w5.heap.size := by omega
  have g5x0 : w5.cell? ⟨w.heap.size, 0, none⟩ = some (.int .i64 y) := (hc5 _ _ (by first | omega | (simp; done) | (simp; omega))).trans (by first | assumption | simp [go_sem] | simp [go_sem, *])
  have g5x1 : w5.cell? ⟨w.heap.size, 1, none⟩ = some (.int .i64 n) := (hc5 _ _ (by first | omega | (simp; done) | (simp; omega))).trans (by first | assumption | simp [go_sem] | simp [go_sem, *])
  have g5x2 : w5.cell? ⟨w.heap.size, 2, none⟩ = some (.bool l) := (hc5 _ _ (by first | omega | (simp; done) | (simp; omega))).trans (by first | assumption | simp [go_sem] | simp [go_sem, *])
  have g5x3 : w5.cell? ⟨w.heap.size, 3, none⟩ = some (.int .i64 d) := (hc5 _ _ (by first | omega | (simp; done) | (simp; omega))).trans (by first | assumption | simp [go_sem] | simp [go_sem, *])
  have g5x4 : w5.cell? ⟨(w.heap.size + 1), 0, none⟩ = some (.int .i64 z) := (hc5 _ _ (by first | omega | (simp; done) | (simp; omega))).trans (by first | assumption | simp [go_sem] | simp [go_sem, *])
  have g5x5 : w5.cell? ⟨(w.heap.size + 1), 1, none⟩ = some (.int .i64 k) := (hc5 _ _ (by first | omega | (simp; done) | (simp; omega))).trans (by first | assumption | simp [go_sem] | simp [go_sem, *])
  have g5x6 : w5.cell? ⟨(w.heap.size + 1), 2, none⟩ = some (.bool h) := (hc5 _ _ (by first | omega | (simp; done) | (simp; omega))).trans (by first | assumption | simp [go_sem] | simp [go_sem, *])
  have g5x7 : w5.cell? ⟨(w.heap.size + 1), 3, none⟩ = some (.int .i64 f) := (hc5 _ _ (by first | omega | (simp; done) | (simp; omega))).trans (by first | assumption | simp [go_sem] | simp [go_sem, *])
  have g5x8 : w5.cell? ⟨w3.heap.size, 0, none⟩ = some (.int .i64 0) := (hc5 _ _ (by first | omega | (simp; done) | (simp; omega))).trans (by first | assumption | simp [go_sem] | simp [go_sem, *])
  have g5x9 : w5.cell? ⟨w3.heap.size, 1, none⟩ = some (.int .i64 0) := (hc5 _ _ (by first | omega | (simp; done) | (simp; omega))).trans (by first | assumption | simp [go_sem] | simp [go_sem, *])
  have g5x10 : w5.cell? ⟨w3.heap.size, 2, none⟩ = some (.bool false) := (hc5 _ _ (by first | omega | (simp; done) | (simp; omega))).trans (by first | assumption | simp [go_sem] | simp [go_sem, *])
  have g5x11 : w5.cell? ⟨w3.heap.size, 3, none⟩ = some (.int .i64 0) := (hc5 _ _ (by first | omega | (simp; done) | (simp; omega))).trans (by first | assumption | simp [go_sem] | simp [go_sem, *])
  go_wp2_with fail
  go_ret
  refine ⟨?_, ?_⟩
  · simp [*]
  repeat (first | (with_reducible exact Below.refl _ _) | assumption | (with_reducible refine bdrew ?_) | (with_reducible refine baa ?_ _) | (with_reducible refine bs ?_ (by first | exact Nat.le_refl _ | omega | (simp; omega)) _) | (with_reducible refine bt ?_ (by assumption)))
set_option maxHeartbeats 2000000 in
theorem HebNext_no_l (y n : Int) (l : Bool) (d z k : Int) (h : Bool) (f : Int) (hy : I64 y) (hz : I64 z) (w : World) (hT : Tab w 2 kevCells) (hL : Tab w 1 lenCells) (h1 : D10.dateE y n l d = 0) (h2 : D10.dateE z k h f = 0) (hne : ¬ l = h) (hD : 2278650 < D10.dayV y n l d + 1) :
    Calls Tryd.prog 5 #[.agg #[.int .i64 y, .int .i64 n, .bool l, .int .i64 d], .agg #[.int .i64 z, .int .i64 k, .bool h, .int .i64 f]] w fun e w' => e = .returned (.bool true) ∧ Below w.heap.size w w' := by
  obtain ⟨_, b1, b2⟩ := D10.dayV_ok y n l d h1
  have HT1 := Lib.hid (fun w hT hL => heb_ToDay y n l d w hy hT hL)
  have HT2 := Lib.hid (fun w hT hL => heb_ToDay z k h f w hz hT hL)
  have HL := Lib.hid (fun w => heb_Less y n l d z k h f w)
  have hv13 : ¬ D10.dayV y n l d = D10.dayV z k h f := fun e => hne (by have := D10.same_day h1 h2 e; simp [this])
  rw [D10.less_day h1 h2] at HL
  have HF := Lib.hid (fun w => heb_FromDay_no (D10.dayV y n l d + 1) w (.inr hD))
  clear hD
  rw [h1] at HT1
  rw [h2] at HT2
  clear h2
  clear h1
  generalize D10.dayV y n l d = v1 at *
  generalize D10.dayV z k h f = v3 at *
  obtain rfl : h = !l := by cases l <;> cases h <;> simp_all
  clear hne
  go_enter Tryd.func5, Tryd.ntmps5
  go_wp2_with fail
  refine (HT1.out _ (Tab.below hT (by repeat (first | (with_reducible exact Below.refl _ _) | assumption | (with_reducible refine bdrew ?_) | (with_reducible refine baa ?_ _) | (with_reducible refine bs ?_ (by first | exact Nat.le_refl _ | omega | (simp; omega)) _) | (with_reducible refine bt ?_ (by assumption))))) (Tab.below hL (by repeat (first | (with_reducible exact Below.refl _ _) | assumption | (with_reducible refine bdrew ?_) | (with_reducible refine baa ?_ _) | (with_reducible refine bs ?_ (by first | exact Nat.le_refl _ | omega | (simp; omega)) _) | (with_reducible refine bt ?_ (by assumption)))))).mono ?_
  rintro e w1 ⟨rfl, hb1⟩
  obtain ⟨hc1, hf1⟩ := bcell hb1
  have hz1 := hb1.size
  try simp at hz1
  have hs1x0 : w.heap.size < w1.heap.size := by omega
  have hs1x1 : (w.heap.size + 1) < w1.heap.size := by omega
  have g1x0 : w1.cell? ⟨w.heap.size, 0, none⟩ = some (.int .i64 y) := (hc1 _ _ (by first | omega | (simp; done) | (simp; omega))).trans (by first | assumption | simp [go_sem] | simp [go_sem, *])
  have g1x1 : w1.cell? ⟨w.heap.size, 1, none⟩ = some (.int .i64 n) := (hc1 _ _ (by first | omega | (simp; done) | (simp; omega))).trans (by first | assumption | simp [go_sem] | simp [go_sem, *])
  have g1x2 : w1.cell? ⟨w.heap.size, 2, none⟩ = some (.bool l) := (hc1 _ _ (by first | omega | (simp; done) | (simp; omega))).trans (by first | assumption | simp [go_sem] | simp [go_sem, *])
  have g1x3 : w1.cell? ⟨w.heap.size, 3, none⟩ = some (.int .i64 d) := (hc1 _ _ (by first | omega | (simp; done) | (simp; omega))).trans (by first | assumption | simp [go_sem] | simp [go_sem, *])
  have g1x4 : w1.cell? ⟨(w.heap.size + 1), 0, none⟩ = some (.int .i64 z) := (hc1 _ _ (by first | omega | (simp; done) | (simp; omega))).trans (by first | assumption | simp [go_sem] | simp [go_sem, *])
  have g1x5 : w1.cell? ⟨(w.heap.size + 1), 1, none⟩ = some (.int .i64 k) := (hc1 _ _ (by first | omega | (simp; done) | (simp; omega))).trans (by first | assumption | simp [go_sem] | simp [go_sem, *])
  have g1x6 : w1.cell? ⟨(w.heap.size + 1), 2, none⟩ = some (.bool (!l)) := (hc1 _ _ (by first | omega | (simp; done) | (simp; omega))).trans (by first | assumption | simp [go_sem] | simp [go_sem, *])
  have g1x7 : w1.cell? ⟨(w.heap.size + 1), 3, none⟩ = some (.int .i64 f) := (hc1 _ _ (by first | omega | (simp; done) | (simp; omega))).trans (by first | assumption | simp [go_sem] | simp [go_sem, *])
  go_wp2_with fail
  refine (HT2.out _ (Tab.below hT (by repeat (first | (with_reducible exact Below.refl _ _) | assumption | (with_reducible refine bdrew ?_) | (with_reducible refine baa ?_ _) | (with_reducible refine bs ?_ (by first | exact Nat.le_refl _ | omega | (simp; omega)) _) | (with_reducible refine bt ?_ (by assumption))))) (Tab.below hL (by repeat (first | (with_reducible exact Below.refl _ _) | assumption | (with_reducible refine bdrew ?_) | (with_reducible refine baa ?_ _) | (with_reducible refine bs ?_ (by first | exact Nat.le_refl _ | omega | (simp; omega)) _) | (with_reducible refine bt ?_ (by assumption)))))).mono ?_
  rintro e w2 ⟨rfl, hb2⟩
  obtain ⟨hc2, hf2⟩ := bcell hb2
  have hz2 := hb2.size
  try simp at hz2
  have hs2x0 : w.heap.size < w2.heap.size := by omega
  have hs2x1 : (w.heap.size + 1) < w2.heap.size := by omega
  have g2x0 : w2.cell? ⟨w.heap.size, 0, none⟩ = some (.int .i64 y) := (hc2 _ _ (by first | omega | (simp; done) | (simp; omega))).trans (by first | assumption | simp [go_sem] | simp [go_sem, *])
  have g2x1 : w2.cell? ⟨w.heap.size, 1, none⟩ = some (.int .i64 n) := (hc2 _ _ (by first | omega | (simp; done) | (simp; omega))).trans (by first | assumption | simp [go_sem] | simp [go_sem, *])
  have g2x2 : w2.cell? ⟨w.heap.size, 2, none⟩ = some (.bool l) := (hc2 _ _ (by first | omega | (simp; done) | (simp; omega))).trans (by first | assumption | simp [go_sem] | simp [go_sem, *])
  have g2x3 : w2.cell? ⟨w.heap.size, 3, none⟩ = some (.int .i64 d) := (hc2 _ _ (by first | omega | (simp; done) | (simp; omega))).trans (by first | assumption | simp [go_sem] | simp [go_sem, *])
  have g2x4 : w2.cell? ⟨(w.heap.size + 1), 0, none⟩ = some (.int .i64 z) := (hc2 _ _ (by first | omega | (simp; done) | (simp; omega))).trans (by first | assumption | simp [go_sem] | simp [go_sem, *])
  have g2x5 : w2.cell? ⟨(w.heap.size + 1), 1, none⟩ = some (.int .i64 k) := (hc2 _ _ (by first | omega | (simp; done) | (simp; omega))).trans (by first | assumption | simp [go_sem] | simp [go_sem, *])
  have g2x6 : w2.cell? ⟨(w.heap.size + 1), 2, none⟩ = some (.bool (!l)) := (hc2 _ _ (by first | omega | (simp; done) | (simp; omega))).trans (by first | assumption | simp [go_sem] | simp [go_sem, *])
  have g2x7 : w2.cell? ⟨(w.heap.size + 1), 3, none⟩ = some (.int .i64 f) := (hc2 _ _ (by first | omega | (simp; done) | (simp; omega))).trans (by first | assumption | simp [go_sem] | simp [go_sem, *])
  go_wp2_with fail
  refine (HF.out _).mono ?_
  rintro e w3 ⟨rfl, hb3⟩
  obtain ⟨hc3, hf3⟩ := bcell hb3
  have hz3 := hb3.size
  try simp at hz3
  have hs3x0 : w.heap.size < w3.heap.size := by omega
  have hs3x1 : (w.heap.size + 1) < w3.heap.size := by omega
  have g3x0 : w3.cell? ⟨w.heap.size, 0, none⟩ = some (.int .i64 y) := (hc3 _ _ (by first | omega | (simp; done) | (simp; omega))).trans (by first | assumption | simp [go_sem] | simp [go_sem, *])
  have g3x1 : w3.cell? ⟨w.heap.size, 1, none⟩ = some (.int .i64 n) := (hc3 _ _ (by first | omega | (simp; done) | (simp; omega))).trans (by first | assumption | simp [go_sem] | simp [go_sem, *])
  have g3x2 : w3.cell? ⟨w.heap.size, 2, none⟩ = some (.bool l) := (hc3 _ _ (by first | omega | (simp; done) | (simp; omega))).trans (by first | assumption | simp [go_sem] | simp [go_sem, *])
  have g3x3 : w3.cell? ⟨w.heap.size, 3, none⟩ = some (.int .i64 d) := (hc3 _ _ (by first | omega | (simp; done) | (simp; omega))).trans (by first | assumption | simp [go_sem] | simp [go_sem, *])
  have g3x4 : w3.cell? ⟨(w.heap.size + 1), 0, none⟩ = some (.int .i64 z) := (hc3 _ _ (by first | omega | (simp; done) | (simp; omega))).trans (by first | assumption | simp [go_sem] | simp [go_sem, *])
  have g3x5 : w3.cell? ⟨(w.heap.size + 1), 1, none⟩ = some (.int .i64 k) := (hc3 _ _ (by first | omega | (simp; done) | (simp; omega))).trans (by first | assumption | simp [go_sem] | simp [go_sem, *])
  have g3x6 : w3.cell? ⟨(w.heap.size + 1), 2, none⟩ = some (.bool (!l)) := (hc3 _ _ (by first | omega | (simp; done) | (simp; omega))).trans (by first | assumption | simp [go_sem] | simp [go_sem, *])
  have g3x7 : w3.cell? ⟨(w.heap.size + 1), 3, none⟩ = some (.int .i64 f) := (hc3 _ _ (by first | omega | (simp; done) | (simp; omega))).trans (by first | assumption | simp [go_sem] | simp [go_sem, *])
  go_wp2_with fail
  refine (awake10 _ (Tab.below hT (by repeat (first | (with_reducible exact Below.refl _ _) | assumption | (with_reducible refine bdrew ?_) | (with_reducible refine baa ?_ _) | (with_reducible refine bs ?_ (by first | exact Nat.le_refl _ | omega | (simp; omega)) _) | (with_reducible refine bt ?_ (by assumption))))) (Tab.below hL (by repeat (first | (with_reducible exact Below.refl _ _) | assumption | (with_reducible refine bdrew ?_) | (with_reducible refine baa ?_ _) | (with_reducible refine bs ?_ (by first | exact Nat.le_refl _ | omega | (simp; omega)) _) | (with_reducible refine bt ?_ (by assumption)))))).mono ?_
  rintro e w4 ⟨rfl, hb4⟩
  obtain ⟨hc4, hf4⟩ := bcell hb4
  have hz4 := hb4.size
  try simp at hz4
  have hl4w3 : w3.heap.size < w4.heap.size := by omega
  have hm4w3 : w3.heap.size ≤ w4.heap.size := by omega
  have hs4x0 : w.heap.size < w4.heap.size := by omega
  have hs4x1 : (w.heap.size + 1) < w4.heap.size := by omega
  have g4x0 : w4.cell? ⟨w.heap.size, 0, none⟩ = some (.int .i64 y) := (hc4 _ _ (by first | omega | (simp; done) | (simp; omega))).trans (by first | assumption | simp [go_sem] | simp [go_sem, *])
  have g4x1 : w4.cell? ⟨w.heap.size, 1, none⟩ = some (.int .i64 n) := (hc4 _ _ (by first | omega | (simp; done) | (simp; omega))).trans (by first | assumption | simp [go_sem] | simp [go_sem, *])
  have g4x2 : w4.cell? ⟨w.heap.size, 2, none⟩ = some (.bool l) := (hc4 _ _ (by first | omega | (simp; done) | (simp; omega))).trans (by first | assumption | simp [go_sem] | simp [go_sem, *])
  have g4x3 : w4.cell? ⟨w.heap.size, 3, none⟩ = some (.int .i64 d) := (hc4 _ _ (by first | omega | (simp; done) | (simp; omega))).trans (by first | assumption | simp [go_sem] | simp [go_sem, *])
  have g4x4 : w4.cell? ⟨(w.heap.size + 1), 0, none⟩ = some (.int .i64 z) := (hc4 _ _ (by first | omega | (simp; done) | (simp; omega))).trans (by first | assumption | simp [go_sem] | simp [go_sem, *])
  have g4x5 : w4.cell? ⟨(w.heap.size + 1), 1, none⟩ = some (.int .i64 k) := (hc4 _ _ (by first | omega | (simp; done) | (simp; omega))).trans (by first | assumption | simp [go_sem] | simp [go_sem, *])
  have g4x6 : w4.cell? ⟨(w.heap.size + 1), 2, none⟩ = some (.bool (!l)) := (hc4 _ _ (by first | omega | (simp; done) | (simp; omega))).trans (by first | assumption | simp [go_sem] | simp [go_sem, *])
  have g4x7 : w4.cell? ⟨(w.heap.size + 1), 3, none⟩ = some (.int .i64 f) := (hc4 _ _ (by first | omega | (simp; done) | (simp; omega))).trans (by first | assumption | simp [go_sem] | simp [go_sem, *])
  have g4x8 : w4.cell? ⟨w3.heap.size, 0, none⟩ = some (.int .i64 0) := (hc4 _ _ (by first | omega | (simp; done) | (simp; omega))).trans (by first | assumption | simp [go_sem] | simp [go_sem, *])
  have g4x9 : w4.cell? ⟨w3.heap.size, 1, none⟩ = some (.int .i64 0) := (hc4 _ _ (by first | omega | (simp; done) | (simp; omega))).trans (by first | assumption | simp [go_sem] | simp [go_sem, *])
  have g4x10 : w4.cell? ⟨w3.heap.size, 2, none⟩ = some (.bool false) := (hc4 _ _ (by first | omega | (simp; done) | (simp; omega))).trans (by first | assumption | simp [go_sem] | simp [go_sem, *])
  have g4x11 : w4.cell? ⟨w3.heap.size, 3, none⟩ = some (.int .i64 0) := (hc4 _ _ (by first | omega | (simp; done) | (simp; omega))).trans (by first | assumption | simp [go_sem] | simp [go_sem, *])
  go_wp2_with fail
  refine (HL.out _).mono ?_
  rintro e w5 ⟨rfl, hb5⟩
  obtain ⟨hc5, hf5⟩ := bcell hb5
  have hz5 := hb5.size
  try simp at hz5
  have hl5w3 : w3.heap.size < w5.heap.size := by omega
  have hm5w3 : w3.heap.size ≤ w5.heap.size := by omega
  have hs5x0 : w.heap.size < w5.heap.size := by omega
  have hs5x1 : (w.heap.size + 1) < w5.heap.size := by omega
  have g5x0 : w5.cell? ⟨w.heap.size, 0, none⟩ = some (.int .i64 y) := (hc5 _ _ (by first | omega | (simp; done) | (simp; omega))).trans (by first | assumption | simp [go_sem] | simp [go_sem, *])
  have g5x1 : w5.cell? ⟨w.heap.size, 1, none⟩ = some (.int .i64 n) := (hc5 _ _ (by first | omega | (simp; done) | (simp; omega))).trans (by first | assumption | simp [go_sem] | simp [go_sem, *])
  have g5x2 : w5.cell? ⟨w.heap.size, 2, none⟩ = some (.bool l) := (hc5 _ _ (by first | omega | (simp; done) | (simp; omega))).trans (by first | assumption | simp [go_sem] | simp [go_sem, *])
  have g5x3 : w5.cell? ⟨w.heap.size, 3, none⟩ = some (.int .i64 d) := (hc5 _ _ (by first | omega | (simp; done) | (simp; omega))).trans (by first | assumption | simp [go_sem] | simp [go_sem, *])
  have g5x4 : w5.cell? ⟨(w.heap.size + 1), 0, none⟩ = some (.int .i64 z) := (hc5 _ _ (by first | omega | (simp; done) | (simp; omega))).trans (by first | assumption | simp [go_sem] | simp [go_sem, *])
  have g5x5 : w5.cell? ⟨(w.heap.size + 1), 1, none⟩ = some (.int .i64 k) := (hc5 _ _ (by first | omega | (simp; done) | (simp; omega))).trans (by first | assumption | simp [go_sem] | simp [go_sem, *])
  have g5x6 : w5.cell? ⟨(w.heap.size + 1), 2, none⟩ = some (.bool (!l)) := (hc5 _ _ (by first | omega | (simp; done) | (simp; omega))).trans (by first | assumption | simp [go_sem] | simp [go_sem, *])
  have g5x7 : w5.cell? ⟨(w.heap.size + 1), 3, none⟩ = some (.int .i64 f) := (hc5 _ _ (by first | omega | (simp; done) | (simp; omega))).trans (by first | assumption | simp [go_sem] | simp [go_sem, *])
  have g5x8 : w5.cell? ⟨w3.heap.size, 0, none⟩ = some (.int .i64 0) := (hc5 _ _ (by first | omega | (simp; done) | (simp; omega))).trans (by first | assumption | simp [go_sem] | simp [go_sem, *])
  have g5x9 : w5.cell? ⟨w3.heap.size, 1, none⟩ = some (.int .i64 0) := (hc5 _ _ (by first | omega | (simp; done) | (simp; omega))).trans (by first | assumption | simp [go_sem] | simp [go_sem, *])
  have g5x10 : w5.cell? ⟨w3.heap.size, 2, none⟩ = some (.bool false) := (hc5 _ _ (by first | omega | (simp; done) | (simp; omega))).trans (by first | assumption | simp [go_sem] | simp [go_sem, *])
  have g5x11 : w5.cell? ⟨w3.heap.size, 3, none⟩ = some (.int .i64 0) := (hc5 _ _ (by first | omega | (simp; done) | (simp; omega))).trans (by first | assumption | simp [go_sem] | simp [go_sem, *])
  go_wp2_with fail
  go_ret
  refine ⟨?_, ?_⟩
  · simp [*]
  repeat (first | (with_reducible exact Below.refl _ _) | assumption | (with_reducible refine bdrew ?_) | (with_reducible refine baa ?_ _) | (with_reducible refine bs ?_ (by first | exact Nat.le_refl _ | omega | (simp; omega)) _) | (with_reducible refine bt ?_ (by assumption)))
set_option maxHeartbeats 2000000 in
theorem HebNext_no_d (y n : Int) (l : Bool) (d z k : Int) (h : Bool) (f : Int) (hy : I64 y) (hz : I64 z) (w : World) (hT : Tab w 2 kevCells) (hL : Tab w 1 lenCells) (h1 : D10.dateE y n l d = 0) (h2 : D10.dateE z k h f = 0) (hne : ¬ d = f) (hD : 2278650 < D10.dayV y n l d + 1) :
    Calls Tryd.prog 5 #[.agg #[.int .i64 y, .int .i64 n, .bool l, .int .i64 d], .agg #[.int .i64 z, .int .i64 k, .bool h, .int .i64 f]] w fun e w' => e = .returned (.bool true) ∧ Below w.heap.size w w' := by
  obtain ⟨_, b1, b2⟩ := D10.dayV_ok y n l d h1
  have HT1 := Lib.hid (fun w hT hL => heb_ToDay y n l d w hy hT hL)
  have HT2 := Lib.hid (fun w hT hL => heb_ToDay z k h f w hz hT hL)
  have HL := Lib.hid (fun w => heb_Less y n l d z k h f w)
  have hv13 : ¬ D10.dayV y n l d = D10.dayV z k h f := fun e => hne (by have := D10.same_day h1 h2 e; simp [this])
  rw [D10.less_day h1 h2] at HL
  have HF := Lib.hid (fun w => heb_FromDay_no (D10.dayV y n l d + 1) w (.inr hD))
  clear hD
  rw [h1] at HT1
  rw [h2] at HT2
  clear h2
  clear h1
  generalize D10.dayV y n l d = v1 at *
  generalize D10.dayV z k h f = v3 at *
  go_enter Tryd.func5, Tryd.ntmps5
  go_wp2_with fail
  refine (HT1.out _ (Tab.below hT (by repeat (first | (with_reducible exact Below.refl _ _) | assumption | (with_reducible refine bdrew ?_) | (with_reducible refine baa ?_ _) | (with_reducible refine bs ?_ (by first | exact Nat.le_refl _ | omega | (simp; omega)) _) | (with_reducible refine bt ?_ (by assumption))))) (Tab.below hL (by repeat (first | (with_reducible exact Below.refl _ _) | assumption | (with_reducible refine bdrew ?_) | (with_reducible refine baa ?_ _) | (with_reducible refine bs ?_ (by first | exact Nat.le_refl _ | omega | (simp; omega)) _) | (with_reducible refine bt ?_ (by assumption)))))).mono ?_
  rintro e w1 ⟨rfl, hb1⟩
  obtain ⟨hc1, hf1⟩ := bcell hb1
  have hz1 := hb1.size
  try simp at hz1
  have hs1x0 : w.heap.size < w1.heap.size := by omega
  have hs1x1 : (w.heap.size + 1) < w1.heap.size := by omega
  have g1x0 : w1.cell? ⟨w.heap.size, 0, none⟩ = some (.int .i64 y) := (hc1 _ _ (by first | omega | (simp; done) | (simp; omega))).trans (by first | assumption | simp [go_sem] | simp [go_sem, *])
  have g1x1 : w1.cell? ⟨w.heap.size, 1, none⟩ = some (.int .i64 n) := (hc1 _ _ (by first | omega | (simp; done) | (simp; omega))).trans (by first | assumption | simp [go_sem] | simp [go_sem, *])
  have g1x2 : w1.cell? ⟨w.heap.size, 2, none⟩ = some (.bool l) := (hc1 _ _ (by first | omega | (simp; done) | (simp; omega))).trans (by first | assumption | simp [go_sem] | simp [go_sem, *])
  have g1x3 : w1.cell? ⟨w.heap.size, 3, none⟩ = some (.int .i64 d) := (hc1 _ _ (by first | omega | (simp; done) | (simp; omega))).trans (by first | assumption | simp [go_sem] | simp [go_sem, *])
  have g1x4 : w1.cell? ⟨(w.heap.size + 1), 0, none⟩ = some (.int .i64 z) := (hc1 _ _ (by first | omega | (simp; done) | (simp; omega))).trans (by first | assumption | simp [go_sem] | simp [go_sem, *])
  have g1x5 : w1.cell? ⟨(w.heap.size + 1), 1, none⟩ = some (.int .i64 k) := (hc1 _ _ (by first | omega | (simp; done) | (simp; omega))).trans (by first | assumption | simp [go_sem] | simp [go_sem, *])
  have g1x6 : w1.cell? ⟨(w.heap.size + 1), 2, none⟩ = some (.bool h) := (hc1 _ _ (by first | omega | (simp; done) | (simp; omega))).trans (by first | assumption | simp [go_sem] | simp [go_sem, *])
  have g1x7 : w1.cell? ⟨(w.heap.size + 1), 3, none⟩ = some (.int .i64 f) := (hc1 _ _ (by first | omega | (simp; done) | (simp; omega))).trans (by first | assumption | simp [go_sem] | simp [go_sem, *])
  go_wp2_with fail
  refine (HT2.out _ (Tab.below hT (by repeat (first | (with_reducible exact Below.refl _ _) | assumption | (with_reducible refine bdrew ?_) | (with_reducible refine baa ?_ _) | (with_reducible refine bs ?_ (by first | exact Nat.le_refl _ | omega | (simp; omega)) _) | (with_reducible refine bt ?_ (by assumption))))) (Tab.below hL (by repeat (first | (with_reducible exact Below.refl _ _) | assumption | (with_reducible refine bdrew ?_) | (with_reducible refine baa ?_ _) | (with_reducible refine bs ?_ (by first | exact Nat.le_refl _ | omega | (simp; omega)) _) | (with_reducible refine bt ?_ (by assumption)))))).mono ?_
  rintro e w2 ⟨rfl, hb2⟩
  obtain ⟨hc2, hf2⟩ := bcell hb2
  have hz2 := hb2.size
  try simp at hz2
  have hs2x0 : w.heap.size < w2.heap.size := by omega
  have hs2x1 : (w.heap.size + 1) < w2.heap.size := by omega
  have g2x0 : w2.cell? ⟨w.heap.size, 0, none⟩ = some (.int .i64 y) := (hc2 _ _ (by first | omega | (simp; done) | (simp; omega))).trans (by first | assumption | simp [go_sem] | simp [go_sem, *])
  have g2x1 : w2.cell? ⟨w.heap.size, 1, none⟩ = some (.int .i64 n) := (hc2 _ _ (by first | omega | (simp; done) | (simp; omega))).trans (by first | assumption | simp [go_sem] | simp [go_sem, *])
  have g2x2 : w2.cell? ⟨w.heap.size, 2, none⟩ = some (.bool l) := (hc2 _ _ (by first | omega | (simp; done) | (simp; omega))).trans (by first | assumption | simp [go_sem] | simp [go_sem, *])
  have g2x3 : w2.cell? ⟨w.heap.size, 3, none⟩ = some (.int .i64 d) := (hc2 _ _ (by first | omega | (simp; done) | (simp; omega))).trans (by first | assumption | simp [go_sem] | simp [go_sem, *])
  have g2x4 : w2.cell? ⟨(w.heap.size + 1), 0, none⟩ = some (.int .i64 z) := (hc2 _ _ (by first | omega | (simp; done) | (simp; omega))).trans (by first | assumption | simp [go_sem] | simp [go_sem, *])
  have g2x5 : w2.cell? ⟨(w.heap.size + 1), 1, none⟩ = some (.int .i64 k) := (hc2 _ _ (by first | omega | (simp; done) | (simp; omega))).trans (by first | assumption | simp [go_sem] | simp [go_sem, *])
  have g2x6 : w2.cell? ⟨(w.heap.size + 1), 2, none⟩ = some (.bool h) := (hc2 _ _ (by first | omega | (simp; done) | (simp; omega))).trans (by first | assumption | simp [go_sem] | simp [go_sem, *])
  have g2x7 : w2.cell? ⟨(w.heap.size + 1), 3, none⟩ = some (.int .i64 f) := (hc2 _ _ (by first | omega | (simp; done) | (simp; omega))).trans (by first | assumption | simp [go_sem] | simp [go_sem, *])
  go_wp2_with fail
  refine (HF.out _).mono ?_
  rintro e w3 ⟨rfl, hb3⟩
  obtain ⟨hc3, hf3⟩ := bcell hb3
  have hz3 := hb3.size
  try simp at hz3
  have hs3x0 : w.heap.size < w3.heap.size := by omega
  have hs3x1 : (w.heap.size + 1) < w3.heap.size := by omega
  have g3x0 : w3.cell? ⟨w.heap.size, 0, none⟩ = some (.int .i64 y) := (hc3 _ _ (by first | omega | (simp; done) | (simp; omega))).trans (by first | assumption | simp [go_sem] | simp [go_sem, *])
  have g3x1 : w3.cell? ⟨w.heap.size, 1, none⟩ = some (.int .i64 n) := (hc3 _ _ (by first | omega | (simp; done) | (simp; omega))).trans (by first | assumption | simp [go_sem] | simp [go_sem, *])
  have g3x2 : w3.cell? ⟨w.heap.size, 2, none⟩ = some (.bool l) := (hc3 _ _ (by first | omega | (simp; done) | (simp; omega))).trans (by first | assumption | simp [go_sem] | simp [go_sem, *])
  have g3x3 : w3.cell? ⟨w.heap.size, 3, none⟩ = some (.int .i64 d) := (hc3 _ _ (by first | omega | (simp; done) | (simp; omega))).trans (by first | assumption | simp [go_sem] | simp [go_sem, *])
  have g3x4 : w3.cell? ⟨(w.heap.size + 1), 0, none⟩ = some (.int .i64 z) := (hc3 _ _ (by first | omega | (simp; done) | (simp; omega))).trans (by first | assumption | simp [go_sem] | simp [go_sem, *])
  have g3x5 : w3.cell? ⟨(w.heap.size + 1), 1, none⟩ = some (.int .i64 k) := (hc3 _ _ (by first | omega | (simp; done) | (simp; omega))).trans (by first | assumption | simp [go_sem] | simp [go_sem, *])
  have g3x6 : w3.cell? ⟨(w.heap.size + 1), 2, none⟩ = some (.bool h) := (hc3 _ _ (by first | omega | (simp; done) | (simp; omega))).trans (by first | assumption | simp [go_sem] | simp [go_sem, *])
  have g3x7 : w3.cell? ⟨(w.heap.size + 1), 3, none⟩ = some (.int .i64 f) := (hc3 _ _ (by first | omega | (simp; done) | (simp; omega))).trans (by first | assumption | simp [go_sem] | simp [go_sem, *])
  go_wp2_with fail
  refine (awake10 _ (Tab.below hT (by repeat (first | (with_reducible exact Below.refl _ _) | assumption | (with_reducible refine bdrew ?_) | (with_reducible refine baa ?_ _) | (with_reducible refine bs ?_ (by first | exact Nat.le_refl _ | omega | (simp; omega)) _) | (with_reducible refine bt ?_ (by assumption))))) (Tab.below hL (by repeat (first | (with_reducible exact Below.refl _ _) | assumption | (with_reducible refine bdrew ?_) | (with_reducible refine baa ?_ _) | (with_reducible refine bs ?_ (by first | exact Nat.le_refl _ | omega | (simp; omega)) _) | (with_reducible refine bt ?_ (by assumption)))))).mono ?_
  rintro e w4 ⟨rfl, hb4⟩
  obtain ⟨hc4, hf4⟩ := bcell hb4
  have hz4 := hb4.size
  try simp at hz4
  have hl4w3 : w3.heap.size < w4.heap.size := by omega
  have hm4w3 : w3.heap.size ≤ w4.heap.size := by omega
  have hs4x0 : w.heap.size < w4.heap.size := by omega
  have hs4x1 : (w.heap.size + 1) < w4.heap.size := by omega
  have g4x0 : w4.cell? ⟨w.heap.size, 0, none⟩ = some (.int .i64 y) := (hc4 _ _ (by first | omega | (simp; done) | (simp; omega))).trans (by first | assumption | simp [go_sem] | simp [go_sem, *])
  have g4x1 : w4.cell? ⟨w.heap.size, 1, none⟩ = some (.int .i64 n) := (hc4 _ _ (by first | omega | (simp; done) | (simp; omega))).trans (by first | assumption | simp [go_sem] | simp [go_sem, *])
  have g4x2 : w4.cell? ⟨w.heap.size, 2, none⟩ = some (.bool l) := (hc4 _ _ (by first | omega | (simp; done) | (simp; omega))).trans (by first | assumption | simp [go_sem] | simp [go_sem, *])
  have g4x3 : w4.cell? ⟨w.heap.size, 3, none⟩ = some (.int .i64 d) := (hc4 _ _ (by first | omega | (simp; done) | (simp; omega))).trans (by first | assumption | simp [go_sem] | simp [go_sem, *])
  have g4x4 : w4.cell? ⟨(w.heap.size + 1), 0, none⟩ = some (.int .i64 z) := (hc4 _ _ (by first | omega | (simp; done) | (simp; omega))).trans (by first | assumption | simp [go_sem] | simp [go_sem, *])
  have g4x5 : w4.cell? ⟨(w.heap.size + 1), 1, none⟩ = some (.int .i64 k) := (hc4 _ _ (by first | omega | (simp; done) | (simp; omega))).trans (by first | assumption | simp [go_sem] | simp [go_sem, *])
  have g4x6 : w4.cell? ⟨(w.heap.size + 1), 2, none⟩ = some (.bool h) := (hc4 _ _ (by first | omega | (simp; done) | (simp; omega))).trans (by first | assumption | simp [go_sem] | simp [go_sem, *])
  have g4x7 : w4.cell? ⟨(w.heap.size + 1), 3, none⟩ = some (.int .i64 f) := (hc4 _ _ (by first | omega | (simp; done) | (simp; omega))).trans (by first | assumption | simp [go_sem] | simp [go_sem, *])
  have g4x8 : w4.cell? ⟨w3.heap.size, 0, none⟩ = some (.int .i64 0) := (hc4 _ _ (by first | omega | (simp; done) | (simp; omega))).trans (by first | assumption | simp [go_sem] | simp [go_sem, *])
  have g4x9 : w4.cell? ⟨w3.heap.size, 1, none⟩ = some (.int .i64 0) := (hc4 _ _ (by first | omega | (simp; done) | (simp; omega))).trans (by first | assumption | simp [go_sem] | simp [go_sem, *])
  have g4x10 : w4.cell? ⟨w3.heap.size, 2, none⟩ = some (.bool false) := (hc4 _ _ (by first | omega | (simp; done) | (simp; omega))).trans (by first | assumption | simp [go_sem] | simp [go_sem, *])
  have g4x11 : w4.cell? ⟨w3.heap.size, 3, none⟩ = some (.int .i64 0) := (hc4 _ _ (by first | omega | (simp; done) | (simp; omega))).trans (by first | assumption | simp [go_sem] | simp [go_sem, *])
  go_wp2_with fail
  refine (HL.out _).mono ?_
  rintro e w5 ⟨rfl, hb5⟩
  obtain ⟨hc5, hf5⟩ := bcell hb5
  have hz5 := hb5.size
  try simp at hz5
  have hl5w3 : w3.heap.size < w5.heap.size := by omega
  have hm5w3 : w3.heap.size ≤ w5.heap.size := by omega
  have hs5x0 : w.heap.size < w5.heap.size := by omega
  have hs5x1 : (w.heap.size + 1) < w5.heap.size := by omega
  have g5x0 : w5.cell? ⟨w.heap.size, 0, none⟩ = some (.int .i64 y) := (hc5 _ _ (by first | omega | (simp; done) | (simp; omega))).trans (by first | assumption | simp [go_sem] | simp [go_sem, *])
  have g5x1 : w5.cell? ⟨w.heap.size, 1, none⟩ = some (.int .i64 n) := (hc5 _ _ (by first | omega | (simp; done) | (simp; omega))).trans (by first | assumption | simp [go_sem] | simp [go_sem, *])
  have g5x2 : w5.cell? ⟨w.heap.size, 2, none⟩ = some (.bool l) := (hc5 _ _ (by first | omega | (simp; done) | (simp; omega))).trans (by first | assumption | simp [go_sem] | simp [go_sem, *])
  have g5x3 : w5.cell? ⟨w.heap.size, 3, none⟩ = some (.int .i64 d) := (hc5 _ _ (by first | omega | (simp; done) | (simp; omega))).trans (by first | assumption | simp [go_sem] | simp [go_sem, *])
  have g5x4 : w5.cell? ⟨(w.heap.size + 1), 0, none⟩ = some (.int .i64 z) := (hc5 _ _ (by first | omega | (simp; done) | (simp; omega))).trans (by first | assumption | simp [go_sem] | simp [go_sem, *])
  have g5x5 : w5.cell? ⟨(w.heap.size + 1), 1, none⟩ = some (.int .i64 k) := (hc5 _ _ (by first | omega | (simp; done) | (simp; omega))).trans (by first | assumption | simp [go_sem] | simp [go_sem, *])
  have g5x6 : w5.cell? ⟨(w.heap.size + 1), 2, none⟩ = some (.bool h) := (hc5 _ _ (by first | omega | (simp; done) | (simp; omega))).trans (by first | assumption | simp [go_sem] | simp [go_sem, *])
  have g5x7 : w5.cell? ⟨(w.heap.size + 1), 3, none⟩ = some (.int .i64 f) := (hc5 _ _ (by first | omega | (simp; done) | (simp; omega))).trans (by first | assumption | simp [go_sem] | simp [go_sem, *])
  have g5x8 : w5.cell? ⟨w3.heap.size, 0, none⟩ = some (.int .i64 0) := (hc5 _ _ (by first | omega | (simp; done) | (simp; omega))).trans (by first | assumption | simp [go_sem] | simp [go_sem, *])
  have g5x9 : w5.cell? ⟨w3.heap.size, 1, none⟩ = some (.int .i64 0) := (hc5 _ _ (by first | omega | (simp; done) | (simp; omega))).trans (by first | assumption | simp [go_sem] | simp [go_sem, *])
  have g5x10 : w5.cell? ⟨w3.heap.size, 2, none⟩ = some (.bool false) := (hc5 _ _ (by first | omega | (simp; done) | (simp; omega))).trans (by first | assumption | simp [go_sem] | simp [go_sem, *])
  have g5x11 : w5.cell? ⟨w3.heap.size, 3, none⟩ = some (.int .i64 0) := (hc5 _ _ (by first | omega | (simp; done) | (simp; omega))).trans (by first | assumption | simp [go_sem] | simp [go_sem, *])
  go_wp2_with fail
  go_ret
  refine ⟨?_, ?_⟩
  · simp [*]
  repeat (first | (with_reducible exact Below.refl _ _) | assumption | (with_reducible refine bdrew ?_) | (with_reducible refine baa ?_ _) | (with_reducible refine bs ?_ (by first | exact Nat.le_refl _ | omega | (simp; omega)) _) | (with_reducible refine bt ?_ (by assumption)))
end Go.Proofs.YtinpdamfdaefmaaDoor
