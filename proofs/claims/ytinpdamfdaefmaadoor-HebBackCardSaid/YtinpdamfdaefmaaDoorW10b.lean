/- Layer 10: its laws' walks. -/
import Derived.Test.YtinpdamfdaefmaaDoorW10
namespace Go.Proofs.YtinpdamfdaefmaaDoor
open Go.ChangeShapes Go.WideShapes Go.ChangeAt Go.RowKit
set_option linter.unusedVariables false
set_option maxRecDepth 100000
set_option maxHeartbeats 2000000 in
theorem HebBack_in_at (y n : Int) (l : Bool) (d : Int) (D : Int) (hy : I64 y) (w : World) (hT : Tab w 2 kevCells) (hL : Tab w 1 lenCells) (he : D10.dateE y n l d = 0) (ry rm rd : Int) (hv : D10.Valid ry rm rd) (hD : D = D10.dayOf ry rm rd) :
    Calls Tryd.prog 4 #[.agg #[.int .i64 y, .int .i64 n, .bool l, .int .i64 d], .int .i64 D] w fun e w' => e = .returned (.bool true) ∧ Below w.heap.size w w' := by
  have HT1 := Lib.hid (fun w hT hL => heb_ToDay y n l d w hy hT hL)
  have HC1 := Lib.hid (fun w hT hL => heb_Check y n l d w hy hT hL)
  obtain ⟨u1, u2, u3, u4⟩ := D10.date_back he
  have hF : ∀ w, Tab w 2 kevCells → Tab w 1 lenCells → Calls Tryd.prog 13 #[.int .i64 (D10.dayV y n l d)] w fun e w' => e = .returned (.tuple #[.agg #[.int .i64 y, .int .i64 n, .bool l, .int .i64 d], .int .i64 0]) ∧ Below w.heap.size w w' := fun w hT hL => by
    have := heb_FromDay_at y _ d w hT hL u1
    rwa [← u2, u3, u4] at this
  have HFA := Lib.hid hF
  clear hF u1 u2 u3 u4
  rw [he] at HT1 HC1
  clear he
  generalize D10.dayV y n l d = v1 at *
  obtain ⟨x1, x2⟩ := D10.valid_date hv
  have HT2 := Lib.hid (fun w hT hL => heb_ToDay ry (Cal.ofN (Cal.leap ry) rm) (Cal.ofL (Cal.leap ry) rm) rd w (by have := hv.1; have := hv.2.1; constructor <;> omega) hT hL)
  have HC2 := Lib.hid (fun w hT hL => heb_Check ry (Cal.ofN (Cal.leap ry) rm) (Cal.ofL (Cal.leap ry) rm) rd w (by have := hv.1; have := hv.2.1; constructor <;> omega) hT hL)
  rw [x1] at HC2
  rw [x1, x2] at HT2
  clear x1 x2
  subst hD
  have HF1 := Lib.hid (fun w hT hL => heb_FromDay_at ry rm rd w hT hL hv)
  generalize D10.dayOf ry rm rd = D at *
  generalize Cal.ofN (Cal.leap ry) rm = rn at *
  generalize Cal.ofL (Cal.leap ry) rm = rl at *
  clear hv
  go_enter Tryd.func4, Tryd.ntmps4
  go_wp2_with fail
  refine (HT1.out _ (Tab.below hT (by repeat (first | (with_reducible exact Below.refl _ _) | assumption | (with_reducible refine bdrew ?_) | (with_reducible refine baa ?_ _) | (with_reducible refine bs ?_ (by first | exact Nat.le_refl _ | omega | (simp; omega)) _) | (with_reducible refine bt ?_ (by assumption))))) (Tab.below hL (by repeat (first | (with_reducible exact Below.refl _ _) | assumption | (with_reducible refine bdrew ?_) | (with_reducible refine baa ?_ _) | (with_reducible refine bs ?_ (by first | exact Nat.le_refl _ | omega | (simp; omega)) _) | (with_reducible refine bt ?_ (by assumption)))))).mono ?_
  rintro e w1 ⟨rfl, hb1⟩
  obtain ⟨hc1, hf1⟩ := bcell hb1
  have hz1 := hb1.size
  try simp at hz1
  have hs1x0 : w.heap.size < w1.heap.size := by omega
  have g1x0 : w1.cell? ⟨w.heap.size, 0, none⟩ = some (.int .i64 y) := (hc1 _ _ (by first | omega | (simp; done) | (simp; omega))).trans (by first | assumption | simp [go_sem] | simp [go_sem, *])
  have g1x1 : w1.cell? ⟨w.heap.size, 1, none⟩ = some (.int .i64 n) := (hc1 _ _ (by first | omega | (simp; done) | (simp; omega))).trans (by first | assumption | simp [go_sem] | simp [go_sem, *])
  have g1x2 : w1.cell? ⟨w.heap.size, 2, none⟩ = some (.bool l) := (hc1 _ _ (by first | omega | (simp; done) | (simp; omega))).trans (by first | assumption | simp [go_sem] | simp [go_sem, *])
  have g1x3 : w1.cell? ⟨w.heap.size, 3, none⟩ = some (.int .i64 d) := (hc1 _ _ (by first | omega | (simp; done) | (simp; omega))).trans (by first | assumption | simp [go_sem] | simp [go_sem, *])
  go_wp2_with fail
  refine (HC1.out _ (Tab.below hT (by repeat (first | (with_reducible exact Below.refl _ _) | assumption | (with_reducible refine bdrew ?_) | (with_reducible refine baa ?_ _) | (with_reducible refine bs ?_ (by first | exact Nat.le_refl _ | omega | (simp; omega)) _) | (with_reducible refine bt ?_ (by assumption))))) (Tab.below hL (by repeat (first | (with_reducible exact Below.refl _ _) | assumption | (with_reducible refine bdrew ?_) | (with_reducible refine baa ?_ _) | (with_reducible refine bs ?_ (by first | exact Nat.le_refl _ | omega | (simp; omega)) _) | (with_reducible refine bt ?_ (by assumption)))))).mono ?_
  rintro e w2 ⟨rfl, hb2⟩
  obtain ⟨hc2, hf2⟩ := bcell hb2
  have hz2 := hb2.size
  try simp at hz2
  have hs2x0 : w.heap.size < w2.heap.size := by omega
  have g2x0 : w2.cell? ⟨w.heap.size, 0, none⟩ = some (.int .i64 y) := (hc2 _ _ (by first | omega | (simp; done) | (simp; omega))).trans (by first | assumption | simp [go_sem] | simp [go_sem, *])
  have g2x1 : w2.cell? ⟨w.heap.size, 1, none⟩ = some (.int .i64 n) := (hc2 _ _ (by first | omega | (simp; done) | (simp; omega))).trans (by first | assumption | simp [go_sem] | simp [go_sem, *])
  have g2x2 : w2.cell? ⟨w.heap.size, 2, none⟩ = some (.bool l) := (hc2 _ _ (by first | omega | (simp; done) | (simp; omega))).trans (by first | assumption | simp [go_sem] | simp [go_sem, *])
  have g2x3 : w2.cell? ⟨w.heap.size, 3, none⟩ = some (.int .i64 d) := (hc2 _ _ (by first | omega | (simp; done) | (simp; omega))).trans (by first | assumption | simp [go_sem] | simp [go_sem, *])
  go_wp2_with fail
  refine (HFA.out _ (Tab.below hT (by repeat (first | (with_reducible exact Below.refl _ _) | assumption | (with_reducible refine bdrew ?_) | (with_reducible refine baa ?_ _) | (with_reducible refine bs ?_ (by first | exact Nat.le_refl _ | omega | (simp; omega)) _) | (with_reducible refine bt ?_ (by assumption))))) (Tab.below hL (by repeat (first | (with_reducible exact Below.refl _ _) | assumption | (with_reducible refine bdrew ?_) | (with_reducible refine baa ?_ _) | (with_reducible refine bs ?_ (by first | exact Nat.le_refl _ | omega | (simp; omega)) _) | (with_reducible refine bt ?_ (by assumption)))))).mono ?_
  rintro e w3 ⟨rfl, hb3⟩
  obtain ⟨hc3, hf3⟩ := bcell hb3
  have hz3 := hb3.size
  try simp at hz3
  have hs3x0 : w.heap.size < w3.heap.size := by omega
  have g3x0 : w3.cell? ⟨w.heap.size, 0, none⟩ = some (.int .i64 y) := (hc3 _ _ (by first | omega | (simp; done) | (simp; omega))).trans (by first | assumption | simp [go_sem] | simp [go_sem, *])
  have g3x1 : w3.cell? ⟨w.heap.size, 1, none⟩ = some (.int .i64 n) := (hc3 _ _ (by first | omega | (simp; done) | (simp; omega))).trans (by first | assumption | simp [go_sem] | simp [go_sem, *])
  have g3x2 : w3.cell? ⟨w.heap.size, 2, none⟩ = some (.bool l) := (hc3 _ _ (by first | omega | (simp; done) | (simp; omega))).trans (by first | assumption | simp [go_sem] | simp [go_sem, *])
  have g3x3 : w3.cell? ⟨w.heap.size, 3, none⟩ = some (.int .i64 d) := (hc3 _ _ (by first | omega | (simp; done) | (simp; omega))).trans (by first | assumption | simp [go_sem] | simp [go_sem, *])
  go_wp2_with fail
  refine (HF1.out _ (Tab.below hT (by repeat (first | (with_reducible exact Below.refl _ _) | assumption | (with_reducible refine bdrew ?_) | (with_reducible refine baa ?_ _) | (with_reducible refine bs ?_ (by first | exact Nat.le_refl _ | omega | (simp; omega)) _) | (with_reducible refine bt ?_ (by assumption))))) (Tab.below hL (by repeat (first | (with_reducible exact Below.refl _ _) | assumption | (with_reducible refine bdrew ?_) | (with_reducible refine baa ?_ _) | (with_reducible refine bs ?_ (by first | exact Nat.le_refl _ | omega | (simp; omega)) _) | (with_reducible refine bt ?_ (by assumption)))))).mono ?_
  rintro e w4 ⟨rfl, hb4⟩
  obtain ⟨hc4, hf4⟩ := bcell hb4
  have hz4 := hb4.size
  try simp at hz4
  have hl4w3 : w3.heap.size < w4.heap.size := by omega
  have hm4w3 : w3.heap.size ≤ w4.heap.size := by omega
  have hs4x0 : w.heap.size < w4.heap.size := by omega
  have g4x0 : w4.cell? ⟨w.heap.size, 0, none⟩ = some (.int .i64 y) := (hc4 _ _ (by first | omega | (simp; done) | (simp; omega))).trans (by first | assumption | simp [go_sem] | simp [go_sem, *])
  have g4x1 : w4.cell? ⟨w.heap.size, 1, none⟩ = some (.int .i64 n) := (hc4 _ _ (by first | omega | (simp; done) | (simp; omega))).trans (by first | assumption | simp [go_sem] | simp [go_sem, *])
  have g4x2 : w4.cell? ⟨w.heap.size, 2, none⟩ = some (.bool l) := (hc4 _ _ (by first | omega | (simp; done) | (simp; omega))).trans (by first | assumption | simp [go_sem] | simp [go_sem, *])
  have g4x3 : w4.cell? ⟨w.heap.size, 3, none⟩ = some (.int .i64 d) := (hc4 _ _ (by first | omega | (simp; done) | (simp; omega))).trans (by first | assumption | simp [go_sem] | simp [go_sem, *])
  have g4x4 : w4.cell? ⟨w3.heap.size, 0, none⟩ = some (.int .i64 y) := (hc4 _ _ (by first | omega | (simp; done) | (simp; omega))).trans (by first | assumption | simp [go_sem] | simp [go_sem, *])
  have g4x5 : w4.cell? ⟨w3.heap.size, 1, none⟩ = some (.int .i64 n) := (hc4 _ _ (by first | omega | (simp; done) | (simp; omega))).trans (by first | assumption | simp [go_sem] | simp [go_sem, *])
  have g4x6 : w4.cell? ⟨w3.heap.size, 2, none⟩ = some (.bool l) := (hc4 _ _ (by first | omega | (simp; done) | (simp; omega))).trans (by first | assumption | simp [go_sem] | simp [go_sem, *])
  have g4x7 : w4.cell? ⟨w3.heap.size, 3, none⟩ = some (.int .i64 d) := (hc4 _ _ (by first | omega | (simp; done) | (simp; omega))).trans (by first | assumption | simp [go_sem] | simp [go_sem, *])
  go_wp2_with fail
  refine (HT2.out _ (Tab.below hT (by repeat (first | (with_reducible exact Below.refl _ _) | assumption | (with_reducible refine bdrew ?_) | (with_reducible refine baa ?_ _) | (with_reducible refine bs ?_ (by first | exact Nat.le_refl _ | omega | (simp; omega)) _) | (with_reducible refine bt ?_ (by assumption))))) (Tab.below hL (by repeat (first | (with_reducible exact Below.refl _ _) | assumption | (with_reducible refine bdrew ?_) | (with_reducible refine baa ?_ _) | (with_reducible refine bs ?_ (by first | exact Nat.le_refl _ | omega | (simp; omega)) _) | (with_reducible refine bt ?_ (by assumption)))))).mono ?_
  rintro e w5 ⟨rfl, hb5⟩
  obtain ⟨hc5, hf5⟩ := bcell hb5
  have hz5 := hb5.size
  try simp at hz5
  have hl5w4 : w4.heap.size < w5.heap.size := by omega
  have hm5w4 : w4.heap.size ≤ w5.heap.size := by omega
  have g5x0 : w5.cell? ⟨w4.heap.size, 0, none⟩ = some (.int .i64 ry) := (hc5 _ _ (by first | omega | (simp; done) | (simp; omega))).trans (by first | assumption | simp [go_sem] | simp [go_sem, *])
  have g5x1 : w5.cell? ⟨w4.heap.size, 1, none⟩ = some (.int .i64 rn) := (hc5 _ _ (by first | omega | (simp; done) | (simp; omega))).trans (by first | assumption | simp [go_sem] | simp [go_sem, *])
  have g5x2 : w5.cell? ⟨w4.heap.size, 2, none⟩ = some (.bool rl) := (hc5 _ _ (by first | omega | (simp; done) | (simp; omega))).trans (by first | assumption | simp [go_sem] | simp [go_sem, *])
  have g5x3 : w5.cell? ⟨w4.heap.size, 3, none⟩ = some (.int .i64 rd) := (hc5 _ _ (by first | omega | (simp; done) | (simp; omega))).trans (by first | assumption | simp [go_sem] | simp [go_sem, *])
  go_wp2_with fail
  refine (awake10 _ (Tab.below hT (by repeat (first | (with_reducible exact Below.refl _ _) | assumption | (with_reducible refine bdrew ?_) | (with_reducible refine baa ?_ _) | (with_reducible refine bs ?_ (by first | exact Nat.le_refl _ | omega | (simp; omega)) _) | (with_reducible refine bt ?_ (by assumption))))) (Tab.below hL (by repeat (first | (with_reducible exact Below.refl _ _) | assumption | (with_reducible refine bdrew ?_) | (with_reducible refine baa ?_ _) | (with_reducible refine bs ?_ (by first | exact Nat.le_refl _ | omega | (simp; omega)) _) | (with_reducible refine bt ?_ (by assumption)))))).mono ?_
  rintro e w6 ⟨rfl, hb6⟩
  obtain ⟨hc6, hf6⟩ := bcell hb6
  have hz6 := hb6.size
  try simp at hz6
  have hl6w4 : w4.heap.size < w6.heap.size := by omega
  have hm6w4 : w4.heap.size ≤ w6.heap.size := by omega
  have g6x0 : w6.cell? ⟨w4.heap.size, 0, none⟩ = some (.int .i64 ry) := (hc6 _ _ (by first | omega | (simp; done) | (simp; omega))).trans (by first | assumption | simp [go_sem] | simp [go_sem, *])
  have g6x1 : w6.cell? ⟨w4.heap.size, 1, none⟩ = some (.int .i64 rn) := (hc6 _ _ (by first | omega | (simp; done) | (simp; omega))).trans (by first | assumption | simp [go_sem] | simp [go_sem, *])
  have g6x2 : w6.cell? ⟨w4.heap.size, 2, none⟩ = some (.bool rl) := (hc6 _ _ (by first | omega | (simp; done) | (simp; omega))).trans (by first | assumption | simp [go_sem] | simp [go_sem, *])
  have g6x3 : w6.cell? ⟨w4.heap.size, 3, none⟩ = some (.int .i64 rd) := (hc6 _ _ (by first | omega | (simp; done) | (simp; omega))).trans (by first | assumption | simp [go_sem] | simp [go_sem, *])
  go_wp2_with fail
  refine (HC2.out _ (Tab.below hT (by repeat (first | (with_reducible exact Below.refl _ _) | assumption | (with_reducible refine bdrew ?_) | (with_reducible refine baa ?_ _) | (with_reducible refine bs ?_ (by first | exact Nat.le_refl _ | omega | (simp; omega)) _) | (with_reducible refine bt ?_ (by assumption))))) (Tab.below hL (by repeat (first | (with_reducible exact Below.refl _ _) | assumption | (with_reducible refine bdrew ?_) | (with_reducible refine baa ?_ _) | (with_reducible refine bs ?_ (by first | exact Nat.le_refl _ | omega | (simp; omega)) _) | (with_reducible refine bt ?_ (by assumption)))))).mono ?_
  rintro e w7 ⟨rfl, hb7⟩
  obtain ⟨hc7, hf7⟩ := bcell hb7
  have hz7 := hb7.size
  try simp at hz7
  have hl7w4 : w4.heap.size < w7.heap.size := by omega
  have hm7w4 : w4.heap.size ≤ w7.heap.size := by omega
  have g7x0 : w7.cell? ⟨w4.heap.size, 0, none⟩ = some (.int .i64 ry) := (hc7 _ _ (by first | omega | (simp; done) | (simp; omega))).trans (by first | assumption | simp [go_sem] | simp [go_sem, *])
  have g7x1 : w7.cell? ⟨w4.heap.size, 1, none⟩ = some (.int .i64 rn) := (hc7 _ _ (by first | omega | (simp; done) | (simp; omega))).trans (by first | assumption | simp [go_sem] | simp [go_sem, *])
  have g7x2 : w7.cell? ⟨w4.heap.size, 2, none⟩ = some (.bool rl) := (hc7 _ _ (by first | omega | (simp; done) | (simp; omega))).trans (by first | assumption | simp [go_sem] | simp [go_sem, *])
  have g7x3 : w7.cell? ⟨w4.heap.size, 3, none⟩ = some (.int .i64 rd) := (hc7 _ _ (by first | omega | (simp; done) | (simp; omega))).trans (by first | assumption | simp [go_sem] | simp [go_sem, *])
  go_wp2_with fail
  go_ret
  refine ⟨rfl, ?_⟩
  repeat (first | (with_reducible exact Below.refl _ _) | assumption | (with_reducible refine bdrew ?_) | (with_reducible refine baa ?_ _) | (with_reducible refine bs ?_ (by first | exact Nat.le_refl _ | omega | (simp; omega)) _) | (with_reducible refine bt ?_ (by assumption)))
set_option maxHeartbeats 2000000 in
theorem HebBack_in_no (y n : Int) (l : Bool) (d : Int) (D : Int) (hy : I64 y) (w : World) (hT : Tab w 2 kevCells) (hL : Tab w 1 lenCells) (he : D10.dateE y n l d = 0) (hD : D < -1373427 ∨ 2278650 < D) :
    Calls Tryd.prog 4 #[.agg #[.int .i64 y, .int .i64 n, .bool l, .int .i64 d], .int .i64 D] w fun e w' => e = .returned (.bool true) ∧ Below w.heap.size w w' := by
  have HT1 := Lib.hid (fun w hT hL => heb_ToDay y n l d w hy hT hL)
  have HC1 := Lib.hid (fun w hT hL => heb_Check y n l d w hy hT hL)
  obtain ⟨u1, u2, u3, u4⟩ := D10.date_back he
  have hF : ∀ w, Tab w 2 kevCells → Tab w 1 lenCells → Calls Tryd.prog 13 #[.int .i64 (D10.dayV y n l d)] w fun e w' => e = .returned (.tuple #[.agg #[.int .i64 y, .int .i64 n, .bool l, .int .i64 d], .int .i64 0]) ∧ Below w.heap.size w w' := fun w hT hL => by
    have := heb_FromDay_at y _ d w hT hL u1
    rwa [← u2, u3, u4] at this
  have HFA := Lib.hid hF
  clear hF u1 u2 u3 u4
  rw [he] at HT1 HC1
  clear he
  generalize D10.dayV y n l d = v1 at *
  have HF1 := Lib.hid (fun w => heb_FromDay_no D w hD)
  clear hD
  go_enter Tryd.func4, Tryd.ntmps4
  go_wp2_with fail
  refine (HT1.out _ (Tab.below hT (by repeat (first | (with_reducible exact Below.refl _ _) | assumption | (with_reducible refine bdrew ?_) | (with_reducible refine baa ?_ _) | (with_reducible refine bs ?_ (by first | exact Nat.le_refl _ | omega | (simp; omega)) _) | (with_reducible refine bt ?_ (by assumption))))) (Tab.below hL (by repeat (first | (with_reducible exact Below.refl _ _) | assumption | (with_reducible refine bdrew ?_) | (with_reducible refine baa ?_ _) | (with_reducible refine bs ?_ (by first | exact Nat.le_refl _ | omega | (simp; omega)) _) | (with_reducible refine bt ?_ (by assumption)))))).mono ?_
  rintro e w1 ⟨rfl, hb1⟩
  obtain ⟨hc1, hf1⟩ := bcell hb1
  have hz1 := hb1.size
  try simp at hz1
  have hs1x0 : w.heap.size < w1.heap.size := by omega
  have g1x0 : w1.cell? ⟨w.heap.size, 0, none⟩ = some (.int .i64 y) := (hc1 _ _ (by first | omega | (simp; done) | (simp; omega))).trans (by first | assumption | simp [go_sem] | simp [go_sem, *])
  have g1x1 : w1.cell? ⟨w.heap.size, 1, none⟩ = some (.int .i64 n) := (hc1 _ _ (by first | omega | (simp; done) | (simp; omega))).trans (by first | assumption | simp [go_sem] | simp [go_sem, *])
  have g1x2 : w1.cell? ⟨w.heap.size, 2, none⟩ = some (.bool l) := (hc1 _ _ (by first | omega | (simp; done) | (simp; omega))).trans (by first | assumption | simp [go_sem] | simp [go_sem, *])
  have g1x3 : w1.cell? ⟨w.heap.size, 3, none⟩ = some (.int .i64 d) := (hc1 _ _ (by first | omega | (simp; done) | (simp; omega))).trans (by first | assumption | simp [go_sem] | simp [go_sem, *])
  go_wp2_with fail
  refine (HC1.out _ (Tab.below hT (by repeat (first | (with_reducible exact Below.refl _ _) | assumption | (with_reducible refine bdrew ?_) | (with_reducible refine baa ?_ _) | (with_reducible refine bs ?_ (by first | exact Nat.le_refl _ | omega | (simp; omega)) _) | (with_reducible refine bt ?_ (by assumption))))) (Tab.below hL (by repeat (first | (with_reducible exact Below.refl _ _) | assumption | (with_reducible refine bdrew ?_) | (with_reducible refine baa ?_ _) | (with_reducible refine bs ?_ (by first | exact Nat.le_refl _ | omega | (simp; omega)) _) | (with_reducible refine bt ?_ (by assumption)))))).mono ?_
  rintro e w2 ⟨rfl, hb2⟩
  obtain ⟨hc2, hf2⟩ := bcell hb2
  have hz2 := hb2.size
  try simp at hz2
  have hs2x0 : w.heap.size < w2.heap.size := by omega
  have g2x0 : w2.cell? ⟨w.heap.size, 0, none⟩ = some (.int .i64 y) := (hc2 _ _ (by first | omega | (simp; done) | (simp; omega))).trans (by first | assumption | simp [go_sem] | simp [go_sem, *])
  have g2x1 : w2.cell? ⟨w.heap.size, 1, none⟩ = some (.int .i64 n) := (hc2 _ _ (by first | omega | (simp; done) | (simp; omega))).trans (by first | assumption | simp [go_sem] | simp [go_sem, *])
  have g2x2 : w2.cell? ⟨w.heap.size, 2, none⟩ = some (.bool l) := (hc2 _ _ (by first | omega | (simp; done) | (simp; omega))).trans (by first | assumption | simp [go_sem] | simp [go_sem, *])
  have g2x3 : w2.cell? ⟨w.heap.size, 3, none⟩ = some (.int .i64 d) := (hc2 _ _ (by first | omega | (simp; done) | (simp; omega))).trans (by first | assumption | simp [go_sem] | simp [go_sem, *])
  go_wp2_with fail
  refine (HFA.out _ (Tab.below hT (by repeat (first | (with_reducible exact Below.refl _ _) | assumption | (with_reducible refine bdrew ?_) | (with_reducible refine baa ?_ _) | (with_reducible refine bs ?_ (by first | exact Nat.le_refl _ | omega | (simp; omega)) _) | (with_reducible refine bt ?_ (by assumption))))) (Tab.below hL (by repeat (first | (with_reducible exact Below.refl _ _) | assumption | (with_reducible refine bdrew ?_) | (with_reducible refine baa ?_ _) | (with_reducible refine bs ?_ (by first | exact Nat.le_refl _ | omega | (simp; omega)) _) | (with_reducible refine bt ?_ (by assumption)))))).mono ?_
  rintro e w3 ⟨rfl, hb3⟩
  obtain ⟨hc3, hf3⟩ := bcell hb3
  have hz3 := hb3.size
  try simp at hz3
  have hs3x0 : w.heap.size < w3.heap.size := by omega
  have g3x0 : w3.cell? ⟨w.heap.size, 0, none⟩ = some (.int .i64 y) := (hc3 _ _ (by first | omega | (simp; done) | (simp; omega))).trans (by first | assumption | simp [go_sem] | simp [go_sem, *])
  have g3x1 : w3.cell? ⟨w.heap.size, 1, none⟩ = some (.int .i64 n) := (hc3 _ _ (by first | omega | (simp; done) | (simp; omega))).trans (by first | assumption | simp [go_sem] | simp [go_sem, *])
  have g3x2 : w3.cell? ⟨w.heap.size, 2, none⟩ = some (.bool l) := (hc3 _ _ (by first | omega | (simp; done) | (simp; omega))).trans (by first | assumption | simp [go_sem] | simp [go_sem, *])
  have g3x3 : w3.cell? ⟨w.heap.size, 3, none⟩ = some (.int .i64 d) := (hc3 _ _ (by first | omega | (simp; done) | (simp; omega))).trans (by first | assumption | simp [go_sem] | simp [go_sem, *])
  go_wp2_with fail
  refine (HF1.out _).mono ?_
  rintro e w4 ⟨rfl, hb4⟩
  obtain ⟨hc4, hf4⟩ := bcell hb4
  have hz4 := hb4.size
  try simp at hz4
  have hl4w3 : w3.heap.size < w4.heap.size := by omega
  have hm4w3 : w3.heap.size ≤ w4.heap.size := by omega
  have hs4x0 : w.heap.size < w4.heap.size := by omega
  have g4x0 : w4.cell? ⟨w.heap.size, 0, none⟩ = some (.int .i64 y) := (hc4 _ _ (by first | omega | (simp; done) | (simp; omega))).trans (by first | assumption | simp [go_sem] | simp [go_sem, *])
  have g4x1 : w4.cell? ⟨w.heap.size, 1, none⟩ = some (.int .i64 n) := (hc4 _ _ (by first | omega | (simp; done) | (simp; omega))).trans (by first | assumption | simp [go_sem] | simp [go_sem, *])
  have g4x2 : w4.cell? ⟨w.heap.size, 2, none⟩ = some (.bool l) := (hc4 _ _ (by first | omega | (simp; done) | (simp; omega))).trans (by first | assumption | simp [go_sem] | simp [go_sem, *])
  have g4x3 : w4.cell? ⟨w.heap.size, 3, none⟩ = some (.int .i64 d) := (hc4 _ _ (by first | omega | (simp; done) | (simp; omega))).trans (by first | assumption | simp [go_sem] | simp [go_sem, *])
  have g4x4 : w4.cell? ⟨w3.heap.size, 0, none⟩ = some (.int .i64 y) := (hc4 _ _ (by first | omega | (simp; done) | (simp; omega))).trans (by first | assumption | simp [go_sem] | simp [go_sem, *])
  have g4x5 : w4.cell? ⟨w3.heap.size, 1, none⟩ = some (.int .i64 n) := (hc4 _ _ (by first | omega | (simp; done) | (simp; omega))).trans (by first | assumption | simp [go_sem] | simp [go_sem, *])
  have g4x6 : w4.cell? ⟨w3.heap.size, 2, none⟩ = some (.bool l) := (hc4 _ _ (by first | omega | (simp; done) | (simp; omega))).trans (by first | assumption | simp [go_sem] | simp [go_sem, *])
  have g4x7 : w4.cell? ⟨w3.heap.size, 3, none⟩ = some (.int .i64 d) := (hc4 _ _ (by first | omega | (simp; done) | (simp; omega))).trans (by first | assumption | simp [go_sem] | simp [go_sem, *])
  go_wp2_with fail
  refine (awake10 _ (Tab.below hT (by repeat (first | (with_reducible exact Below.refl _ _) | assumption | (with_reducible refine bdrew ?_) | (with_reducible refine baa ?_ _) | (with_reducible refine bs ?_ (by first | exact Nat.le_refl _ | omega | (simp; omega)) _) | (with_reducible refine bt ?_ (by assumption))))) (Tab.below hL (by repeat (first | (with_reducible exact Below.refl _ _) | assumption | (with_reducible refine bdrew ?_) | (with_reducible refine baa ?_ _) | (with_reducible refine bs ?_ (by first | exact Nat.le_refl _ | omega | (simp; omega)) _) | (with_reducible refine bt ?_ (by assumption)))))).mono ?_
  rintro e w5 ⟨rfl, hb5⟩
  obtain ⟨hc5, hf5⟩ := bcell hb5
  have hz5 := hb5.size
  try simp at hz5
  have hl5w4 : w4.heap.size < w5.heap.size := by omega
  have hm5w4 : w4.heap.size ≤ w5.heap.size := by omega
  have g5x0 : w5.cell? ⟨w4.heap.size, 0, none⟩ = some (.int .i64 0) := (hc5 _ _ (by first | omega | (simp; done) | (simp; omega))).trans (by first | assumption | simp [go_sem] | simp [go_sem, *])
  have g5x1 : w5.cell? ⟨w4.heap.size, 1, none⟩ = some (.int .i64 0) := (hc5 _ _ (by first | omega | (simp; done) | (simp; omega))).trans (by first | assumption | simp [go_sem] | simp [go_sem, *])
  have g5x2 : w5.cell? ⟨w4.heap.size, 2, none⟩ = some (.bool false) := (hc5 _ _ (by first | omega | (simp; done) | (simp; omega))).trans (by first | assumption | simp [go_sem] | simp [go_sem, *])
  have g5x3 : w5.cell? ⟨w4.heap.size, 3, none⟩ = some (.int .i64 0) := (hc5 _ _ (by first | omega | (simp; done) | (simp; omega))).trans (by first | assumption | simp [go_sem] | simp [go_sem, *])
  go_wp2_with fail
  go_ret
  refine ⟨rfl, ?_⟩
  repeat (first | (with_reducible exact Below.refl _ _) | assumption | (with_reducible refine bdrew ?_) | (with_reducible refine baa ?_ _) | (with_reducible refine bs ?_ (by first | exact Nat.le_refl _ | omega | (simp; omega)) _) | (with_reducible refine bt ?_ (by assumption)))
set_option maxHeartbeats 2000000 in
theorem HebBack_out_at (y n : Int) (l : Bool) (d : Int) (D : Int) (hy : I64 y) (w : World) (hT : Tab w 2 kevCells) (hL : Tab w 1 lenCells) (he : ¬ D10.dateE y n l d = 0) (ry rm rd : Int) (hv : D10.Valid ry rm rd) (hD : D = D10.dayOf ry rm rd) :
    Calls Tryd.prog 4 #[.agg #[.int .i64 y, .int .i64 n, .bool l, .int .i64 d], .int .i64 D] w fun e w' => e = .returned (.bool true) ∧ Below w.heap.size w w' := by
  have HT1 := Lib.hid (fun w hT hL => heb_ToDay y n l d w hy hT hL)
  have HC1 := Lib.hid (fun w hT hL => heb_Check y n l d w hy hT hL)
  generalize D10.dateE y n l d = v2 at *
  have he2 : (v2 == 0) = false := by simpa using he
  generalize D10.dayV y n l d = v1 at *
  obtain ⟨x1, x2⟩ := D10.valid_date hv
  have HT2 := Lib.hid (fun w hT hL => heb_ToDay ry (Cal.ofN (Cal.leap ry) rm) (Cal.ofL (Cal.leap ry) rm) rd w (by have := hv.1; have := hv.2.1; constructor <;> omega) hT hL)
  have HC2 := Lib.hid (fun w hT hL => heb_Check ry (Cal.ofN (Cal.leap ry) rm) (Cal.ofL (Cal.leap ry) rm) rd w (by have := hv.1; have := hv.2.1; constructor <;> omega) hT hL)
  rw [x1] at HC2
  rw [x1, x2] at HT2
  clear x1 x2
  subst hD
  have HF1 := Lib.hid (fun w hT hL => heb_FromDay_at ry rm rd w hT hL hv)
  generalize D10.dayOf ry rm rd = D at *
  generalize Cal.ofN (Cal.leap ry) rm = rn at *
  generalize Cal.ofL (Cal.leap ry) rm = rl at *
  clear hv
  go_enter Tryd.func4, Tryd.ntmps4
  go_wp2_with fail
  refine (HT1.out _ (Tab.below hT (by repeat (first | (with_reducible exact Below.refl _ _) | assumption | (with_reducible refine bdrew ?_) | (with_reducible refine baa ?_ _) | (with_reducible refine bs ?_ (by first | exact Nat.le_refl _ | omega | (simp; omega)) _) | (with_reducible refine bt ?_ (by assumption))))) (Tab.below hL (by repeat (first | (with_reducible exact Below.refl _ _) | assumption | (with_reducible refine bdrew ?_) | (with_reducible refine baa ?_ _) | (with_reducible refine bs ?_ (by first | exact Nat.le_refl _ | omega | (simp; omega)) _) | (with_reducible refine bt ?_ (by assumption)))))).mono ?_
  rintro e w1 ⟨rfl, hb1⟩
  obtain ⟨hc1, hf1⟩ := bcell hb1
  have hz1 := hb1.size
  try simp at hz1
  have hs1x0 : w.heap.size < w1.heap.size := by omega
  have g1x0 : w1.cell? ⟨w.heap.size, 0, none⟩ = some (.int .i64 y) := (hc1 _ _ (by first | omega | (simp; done) | (simp; omega))).trans (by first | assumption | simp [go_sem] | simp [go_sem, *])
  have g1x1 : w1.cell? ⟨w.heap.size, 1, none⟩ = some (.int .i64 n) := (hc1 _ _ (by first | omega | (simp; done) | (simp; omega))).trans (by first | assumption | simp [go_sem] | simp [go_sem, *])
  have g1x2 : w1.cell? ⟨w.heap.size, 2, none⟩ = some (.bool l) := (hc1 _ _ (by first | omega | (simp; done) | (simp; omega))).trans (by first | assumption | simp [go_sem] | simp [go_sem, *])
  have g1x3 : w1.cell? ⟨w.heap.size, 3, none⟩ = some (.int .i64 d) := (hc1 _ _ (by first | omega | (simp; done) | (simp; omega))).trans (by first | assumption | simp [go_sem] | simp [go_sem, *])
  go_wp2_with fail
  refine (HC1.out _ (Tab.below hT (by repeat (first | (with_reducible exact Below.refl _ _) | assumption | (with_reducible refine bdrew ?_) | (with_reducible refine baa ?_ _) | (with_reducible refine bs ?_ (by first | exact Nat.le_refl _ | omega | (simp; omega)) _) | (with_reducible refine bt ?_ (by assumption))))) (Tab.below hL (by repeat (first | (with_reducible exact Below.refl _ _) | assumption | (with_reducible refine bdrew ?_) | (with_reducible refine baa ?_ _) | (with_reducible refine bs ?_ (by first | exact Nat.le_refl _ | omega | (simp; omega)) _) | (with_reducible refine bt ?_ (by assumption)))))).mono ?_
  rintro e w2 ⟨rfl, hb2⟩
  obtain ⟨hc2, hf2⟩ := bcell hb2
  have hz2 := hb2.size
  try simp at hz2
  have hs2x0 : w.heap.size < w2.heap.size := by omega
  have g2x0 : w2.cell? ⟨w.heap.size, 0, none⟩ = some (.int .i64 y) := (hc2 _ _ (by first | omega | (simp; done) | (simp; omega))).trans (by first | assumption | simp [go_sem] | simp [go_sem, *])
  have g2x1 : w2.cell? ⟨w.heap.size, 1, none⟩ = some (.int .i64 n) := (hc2 _ _ (by first | omega | (simp; done) | (simp; omega))).trans (by first | assumption | simp [go_sem] | simp [go_sem, *])
  have g2x2 : w2.cell? ⟨w.heap.size, 2, none⟩ = some (.bool l) := (hc2 _ _ (by first | omega | (simp; done) | (simp; omega))).trans (by first | assumption | simp [go_sem] | simp [go_sem, *])
  have g2x3 : w2.cell? ⟨w.heap.size, 3, none⟩ = some (.int .i64 d) := (hc2 _ _ (by first | omega | (simp; done) | (simp; omega))).trans (by first | assumption | simp [go_sem] | simp [go_sem, *])
  go_wp2_with fail
  refine (HF1.out _ (Tab.below hT (by repeat (first | (with_reducible exact Below.refl _ _) | assumption | (with_reducible refine bdrew ?_) | (with_reducible refine baa ?_ _) | (with_reducible refine bs ?_ (by first | exact Nat.le_refl _ | omega | (simp; omega)) _) | (with_reducible refine bt ?_ (by assumption))))) (Tab.below hL (by repeat (first | (with_reducible exact Below.refl _ _) | assumption | (with_reducible refine bdrew ?_) | (with_reducible refine baa ?_ _) | (with_reducible refine bs ?_ (by first | exact Nat.le_refl _ | omega | (simp; omega)) _) | (with_reducible refine bt ?_ (by assumption)))))).mono ?_
  rintro e w3 ⟨rfl, hb3⟩
  obtain ⟨hc3, hf3⟩ := bcell hb3
  have hz3 := hb3.size
  try simp at hz3
  have hs3x0 : w.heap.size < w3.heap.size := by omega
  have g3x0 : w3.cell? ⟨w.heap.size, 0, none⟩ = some (.int .i64 y) := (hc3 _ _ (by first | omega | (simp; done) | (simp; omega))).trans (by first | assumption | simp [go_sem] | simp [go_sem, *])
  have g3x1 : w3.cell? ⟨w.heap.size, 1, none⟩ = some (.int .i64 n) := (hc3 _ _ (by first | omega | (simp; done) | (simp; omega))).trans (by first | assumption | simp [go_sem] | simp [go_sem, *])
  have g3x2 : w3.cell? ⟨w.heap.size, 2, none⟩ = some (.bool l) := (hc3 _ _ (by first | omega | (simp; done) | (simp; omega))).trans (by first | assumption | simp [go_sem] | simp [go_sem, *])
  have g3x3 : w3.cell? ⟨w.heap.size, 3, none⟩ = some (.int .i64 d) := (hc3 _ _ (by first | omega | (simp; done) | (simp; omega))).trans (by first | assumption | simp [go_sem] | simp [go_sem, *])
  go_wp2_with fail
  refine (HT2.out _ (Tab.below hT (by repeat (first | (with_reducible exact Below.refl _ _) | assumption | (with_reducible refine bdrew ?_) | (with_reducible refine baa ?_ _) | (with_reducible refine bs ?_ (by first | exact Nat.le_refl _ | omega | (simp; omega)) _) | (with_reducible refine bt ?_ (by assumption))))) (Tab.below hL (by repeat (first | (with_reducible exact Below.refl _ _) | assumption | (with_reducible refine bdrew ?_) | (with_reducible refine baa ?_ _) | (with_reducible refine bs ?_ (by first | exact Nat.le_refl _ | omega | (simp; omega)) _) | (with_reducible refine bt ?_ (by assumption)))))).mono ?_
  rintro e w4 ⟨rfl, hb4⟩
  obtain ⟨hc4, hf4⟩ := bcell hb4
  have hz4 := hb4.size
  try simp at hz4
  have hl4w3 : w3.heap.size < w4.heap.size := by omega
  have hm4w3 : w3.heap.size ≤ w4.heap.size := by omega
  have g4x0 : w4.cell? ⟨w3.heap.size, 0, none⟩ = some (.int .i64 ry) := (hc4 _ _ (by first | omega | (simp; done) | (simp; omega))).trans (by first | assumption | simp [go_sem] | simp [go_sem, *])
  have g4x1 : w4.cell? ⟨w3.heap.size, 1, none⟩ = some (.int .i64 rn) := (hc4 _ _ (by first | omega | (simp; done) | (simp; omega))).trans (by first | assumption | simp [go_sem] | simp [go_sem, *])
  have g4x2 : w4.cell? ⟨w3.heap.size, 2, none⟩ = some (.bool rl) := (hc4 _ _ (by first | omega | (simp; done) | (simp; omega))).trans (by first | assumption | simp [go_sem] | simp [go_sem, *])
  have g4x3 : w4.cell? ⟨w3.heap.size, 3, none⟩ = some (.int .i64 rd) := (hc4 _ _ (by first | omega | (simp; done) | (simp; omega))).trans (by first | assumption | simp [go_sem] | simp [go_sem, *])
  go_wp2_with fail
  refine (awake10 _ (Tab.below hT (by repeat (first | (with_reducible exact Below.refl _ _) | assumption | (with_reducible refine bdrew ?_) | (with_reducible refine baa ?_ _) | (with_reducible refine bs ?_ (by first | exact Nat.le_refl _ | omega | (simp; omega)) _) | (with_reducible refine bt ?_ (by assumption))))) (Tab.below hL (by repeat (first | (with_reducible exact Below.refl _ _) | assumption | (with_reducible refine bdrew ?_) | (with_reducible refine baa ?_ _) | (with_reducible refine bs ?_ (by first | exact Nat.le_refl _ | omega | (simp; omega)) _) | (with_reducible refine bt ?_ (by assumption)))))).mono ?_
  rintro e w5 ⟨rfl, hb5⟩
  obtain ⟨hc5, hf5⟩ := bcell hb5
  have hz5 := hb5.size
  try simp at hz5
  have hl5w3 : w3.heap.size < w5.heap.size := by omega
  have hm5w3 : w3.heap.size ≤ w5.heap.size := by omega
  have g5x0 : w5.cell? ⟨w3.heap.size, 0, none⟩ = some (.int .i64 ry) := (hc5 _ _ (by first | omega | (simp; done) | (simp; omega))).trans (by first | assumption | simp [go_sem] | simp [go_sem, *])
  have g5x1 : w5.cell? ⟨w3.heap.size, 1, none⟩ = some (.int .i64 rn) := (hc5 _ _ (by first | omega | (simp; done) | (simp; omega))).trans (by first | assumption | simp [go_sem] | simp [go_sem, *])
  have g5x2 : w5.cell? ⟨w3.heap.size, 2, none⟩ = some (.bool rl) := (hc5 _ _ (by first | omega | (simp; done) | (simp; omega))).trans (by first | assumption | simp [go_sem] | simp [go_sem, *])
  have g5x3 : w5.cell? ⟨w3.heap.size, 3, none⟩ = some (.int .i64 rd) := (hc5 _ _ (by first | omega | (simp; done) | (simp; omega))).trans (by first | assumption | simp [go_sem] | simp [go_sem, *])
  go_wp2_with fail
  refine (HC2.out _ (Tab.below hT (by repeat (first | (with_reducible exact Below.refl _ _) | assumption | (with_reducible refine bdrew ?_) | (with_reducible refine baa ?_ _) | (with_reducible refine bs ?_ (by first | exact Nat.le_refl _ | omega | (simp; omega)) _) | (with_reducible refine bt ?_ (by assumption))))) (Tab.below hL (by repeat (first | (with_reducible exact Below.refl _ _) | assumption | (with_reducible refine bdrew ?_) | (with_reducible refine baa ?_ _) | (with_reducible refine bs ?_ (by first | exact Nat.le_refl _ | omega | (simp; omega)) _) | (with_reducible refine bt ?_ (by assumption)))))).mono ?_
  rintro e w6 ⟨rfl, hb6⟩
  obtain ⟨hc6, hf6⟩ := bcell hb6
  have hz6 := hb6.size
  try simp at hz6
  have hl6w3 : w3.heap.size < w6.heap.size := by omega
  have hm6w3 : w3.heap.size ≤ w6.heap.size := by omega
  have g6x0 : w6.cell? ⟨w3.heap.size, 0, none⟩ = some (.int .i64 ry) := (hc6 _ _ (by first | omega | (simp; done) | (simp; omega))).trans (by first | assumption | simp [go_sem] | simp [go_sem, *])
  have g6x1 : w6.cell? ⟨w3.heap.size, 1, none⟩ = some (.int .i64 rn) := (hc6 _ _ (by first | omega | (simp; done) | (simp; omega))).trans (by first | assumption | simp [go_sem] | simp [go_sem, *])
  have g6x2 : w6.cell? ⟨w3.heap.size, 2, none⟩ = some (.bool rl) := (hc6 _ _ (by first | omega | (simp; done) | (simp; omega))).trans (by first | assumption | simp [go_sem] | simp [go_sem, *])
  have g6x3 : w6.cell? ⟨w3.heap.size, 3, none⟩ = some (.int .i64 rd) := (hc6 _ _ (by first | omega | (simp; done) | (simp; omega))).trans (by first | assumption | simp [go_sem] | simp [go_sem, *])
  go_wp2_with fail
  go_ret
  refine ⟨rfl, ?_⟩
  repeat (first | (with_reducible exact Below.refl _ _) | assumption | (with_reducible refine bdrew ?_) | (with_reducible refine baa ?_ _) | (with_reducible refine bs ?_ (by first | exact Nat.le_refl _ | omega | (simp; omega)) _) | (with_reducible refine bt ?_ (by assumption)))
set_option maxHeartbeats 2000000 in
theorem HebBack_out_no (y n : Int) (l : Bool) (d : Int) (D : Int) (hy : I64 y) (w : World) (hT : Tab w 2 kevCells) (hL : Tab w 1 lenCells) (he : ¬ D10.dateE y n l d = 0) (hD : D < -1373427 ∨ 2278650 < D) :
    Calls Tryd.prog 4 #[.agg #[.int .i64 y, .int .i64 n, .bool l, .int .i64 d], .int .i64 D] w fun e w' => e = .returned (.bool true) ∧ Below w.heap.size w w' := by
  have HT1 := Lib.hid (fun w hT hL => heb_ToDay y n l d w hy hT hL)
  have HC1 := Lib.hid (fun w hT hL => heb_Check y n l d w hy hT hL)
  generalize D10.dateE y n l d = v2 at *
  have he2 : (v2 == 0) = false := by simpa using he
  generalize D10.dayV y n l d = v1 at *
  have HF1 := Lib.hid (fun w => heb_FromDay_no D w hD)
  clear hD
  go_enter Tryd.func4, Tryd.ntmps4
  go_wp2_with fail
  refine (HT1.out _ (Tab.below hT (by repeat (first | (with_reducible exact Below.refl _ _) | assumption | (with_reducible refine bdrew ?_) | (with_reducible refine baa ?_ _) | (with_reducible refine bs ?_ (by first | exact Nat.le_refl _ | omega | (simp; omega)) _) | (with_reducible refine bt ?_ (by assumption))))) (Tab.below hL (by repeat (first | (with_reducible exact Below.refl _ _) | assumption | (with_reducible refine bdrew ?_) | (with_reducible refine baa ?_ _) | (with_reducible refine bs ?_ (by first | exact Nat.le_refl _ | omega | (simp; omega)) _) | (with_reducible refine bt ?_ (by assumption)))))).mono ?_
  rintro e w1 ⟨rfl, hb1⟩
  obtain ⟨hc1, hf1⟩ := bcell hb1
  have hz1 := hb1.size
  try simp at hz1
  have hs1x0 : w.heap.size < w1.heap.size := by omega
  have g1x0 : w1.cell? ⟨w.heap.size, 0, none⟩ = some (.int .i64 y) := (hc1 _ _ (by first | omega | (simp; done) | (simp; omega))).trans (by first | assumption | simp [go_sem] | simp [go_sem, *])
  have g1x1 : w1.cell? ⟨w.heap.size, 1, none⟩ = some (.int .i64 n) := (hc1 _ _ (by first | omega | (simp; done) | (simp; omega))).trans (by first | assumption | simp [go_sem] | simp [go_sem, *])
  have g1x2 : w1.cell? ⟨w.heap.size, 2, none⟩ = some (.bool l) := (hc1 _ _ (by first | omega | (simp; done) | (simp; omega))).trans (by first | assumption | simp [go_sem] | simp [go_sem, *])
  have g1x3 : w1.cell? ⟨w.heap.size, 3, none⟩ = some (.int .i64 d) := (hc1 _ _ (by first | omega | (simp; done) | (simp; omega))).trans (by first | assumption | simp [go_sem] | simp [go_sem, *])
  go_wp2_with fail
  refine (HC1.out _ (Tab.below hT (by repeat (first | (with_reducible exact Below.refl _ _) | assumption | (with_reducible refine bdrew ?_) | (with_reducible refine baa ?_ _) | (with_reducible refine bs ?_ (by first | exact Nat.le_refl _ | omega | (simp; omega)) _) | (with_reducible refine bt ?_ (by assumption))))) (Tab.below hL (by repeat (first | (with_reducible exact Below.refl _ _) | assumption | (with_reducible refine bdrew ?_) | (with_reducible refine baa ?_ _) | (with_reducible refine bs ?_ (by first | exact Nat.le_refl _ | omega | (simp; omega)) _) | (with_reducible refine bt ?_ (by assumption)))))).mono ?_
  rintro e w2 ⟨rfl, hb2⟩
  obtain ⟨hc2, hf2⟩ := bcell hb2
  have hz2 := hb2.size
  try simp at hz2
  have hs2x0 : w.heap.size < w2.heap.size := by omega
  have g2x0 : w2.cell? ⟨w.heap.size, 0, none⟩ = some (.int .i64 y) := (hc2 _ _ (by first | omega | (simp; done) | (simp; omega))).trans (by first | assumption | simp [go_sem] | simp [go_sem, *])
  have g2x1 : w2.cell? ⟨w.heap.size, 1, none⟩ = some (.int .i64 n) := (hc2 _ _ (by first | omega | (simp; done) | (simp; omega))).trans (by first | assumption | simp [go_sem] | simp [go_sem, *])
  have g2x2 : w2.cell? ⟨w.heap.size, 2, none⟩ = some (.bool l) := (hc2 _ _ (by first | omega | (simp; done) | (simp; omega))).trans (by first | assumption | simp [go_sem] | simp [go_sem, *])
  have g2x3 : w2.cell? ⟨w.heap.size, 3, none⟩ = some (.int .i64 d) := (hc2 _ _ (by first | omega | (simp; done) | (simp; omega))).trans (by first | assumption | simp [go_sem] | simp [go_sem, *])
  go_wp2_with fail
  refine (HF1.out _).mono ?_
  rintro e w3 ⟨rfl, hb3⟩
  obtain ⟨hc3, hf3⟩ := bcell hb3
  have hz3 := hb3.size
  try simp at hz3
  have hs3x0 : w.heap.size < w3.heap.size := by omega
  have g3x0 : w3.cell? ⟨w.heap.size, 0, none⟩ = some (.int .i64 y) := (hc3 _ _ (by first | omega | (simp; done) | (simp; omega))).trans (by first | assumption | simp [go_sem] | simp [go_sem, *])
  have g3x1 : w3.cell? ⟨w.heap.size, 1, none⟩ = some (.int .i64 n) := (hc3 _ _ (by first | omega | (simp; done) | (simp; omega))).trans (by first | assumption | simp [go_sem] | simp [go_sem, *])
  have g3x2 : w3.cell? ⟨w.heap.size, 2, none⟩ = some (.bool l) := (hc3 _ _ (by first | omega | (simp; done) | (simp; omega))).trans (by first | assumption | simp [go_sem] | simp [go_sem, *])
  have g3x3 : w3.cell? ⟨w.heap.size, 3, none⟩ = some (.int .i64 d) := (hc3 _ _ (by first | omega | (simp; done) | (simp; omega))).trans (by first | assumption | simp [go_sem] | simp [go_sem, *])
  go_wp2_with fail
  refine (awake10 _ (Tab.below hT (by repeat (first | (with_reducible exact Below.refl _ _) | assumption | (with_reducible refine bdrew ?_) | (with_reducible refine baa ?_ _) | (with_reducible refine bs ?_ (by first | exact Nat.le_refl _ | omega | (simp; omega)) _) | (with_reducible refine bt ?_ (by assumption))))) (Tab.below hL (by repeat (first | (with_reducible exact Below.refl _ _) | assumption | (with_reducible refine bdrew ?_) | (with_reducible refine baa ?_ _) | (with_reducible refine bs ?_ (by first | exact Nat.le_refl _ | omega | (simp; omega)) _) | (with_reducible refine bt ?_ (by assumption)))))).mono ?_
  rintro e w4 ⟨rfl, hb4⟩
  obtain ⟨hc4, hf4⟩ := bcell hb4
  have hz4 := hb4.size
  try simp at hz4
  have hl4w3 : w3.heap.size < w4.heap.size := by omega
  have hm4w3 : w3.heap.size ≤ w4.heap.size := by omega
  have g4x0 : w4.cell? ⟨w3.heap.size, 0, none⟩ = some (.int .i64 0) := (hc4 _ _ (by first | omega | (simp; done) | (simp; omega))).trans (by first | assumption | simp [go_sem] | simp [go_sem, *])
  have g4x1 : w4.cell? ⟨w3.heap.size, 1, none⟩ = some (.int .i64 0) := (hc4 _ _ (by first | omega | (simp; done) | (simp; omega))).trans (by first | assumption | simp [go_sem] | simp [go_sem, *])
  have g4x2 : w4.cell? ⟨w3.heap.size, 2, none⟩ = some (.bool false) := (hc4 _ _ (by first | omega | (simp; done) | (simp; omega))).trans (by first | assumption | simp [go_sem] | simp [go_sem, *])
  have g4x3 : w4.cell? ⟨w3.heap.size, 3, none⟩ = some (.int .i64 0) := (hc4 _ _ (by first | omega | (simp; done) | (simp; omega))).trans (by first | assumption | simp [go_sem] | simp [go_sem, *])
  go_wp2_with fail
  go_ret
  refine ⟨rfl, ?_⟩
  repeat (first | (with_reducible exact Below.refl _ _) | assumption | (with_reducible refine bdrew ?_) | (with_reducible refine baa ?_ _) | (with_reducible refine bs ?_ (by first | exact Nat.le_refl _ | omega | (simp; omega)) _) | (with_reducible refine bt ?_ (by assumption)))
theorem HebBack_walk (y n : Int) (l : Bool) (d : Int) (D : Int) (hy : I64 y) (hn : I64 n) (hd : I64 d) (hD : I64 D) (w : World) (hT : Tab w 2 kevCells) (hL : Tab w 1 lenCells) :
    Calls Tryd.prog 4 #[.agg #[.int .i64 y, .int .i64 n, .bool l, .int .i64 d], .int .i64 D] w fun e w' => e = .returned (.bool true) ∧ Below w.heap.size w w' := by
  by_cases he : D10.dateE y n l d = 0 <;> by_cases c : D < -1373427 ∨ 2278650 < D
  · exact HebBack_in_no y n l d D hy w hT hL he c
  · obtain ⟨a, b, c', hv, e⟩ := D10.day_there D (by omega) (by omega)
    exact HebBack_in_at y n l d D hy w hT hL he a b c' hv e
  · exact HebBack_out_no y n l d D hy w hT hL he c
  · obtain ⟨a, b, c', hv, e⟩ := D10.day_there D (by omega) (by omega)
    exact HebBack_out_at y n l d D hy w hT hL he a b c' hv e
end Go.Proofs.YtinpdamfdaefmaaDoor
