/- Layer 10: its laws' walks. -/
import Derived.Test.YtinpdamfdaefmaaDoorW10
namespace Go.Proofs.YtinpdamfdaefmaaDoor
open Go.ChangeShapes Go.WideShapes Go.ChangeAt Go.RowKit
set_option linter.unusedVariables false
set_option maxRecDepth 100000
set_option maxHeartbeats 2000000 in
theorem HebMonths_no (y n : Int) (l : Bool) (hy : I64 y) (w : World) (hT : Tab w 2 kevCells) (hL : Tab w 1 lenCells) (he : ¬ D10.lastE y n l = 0) :
    Calls Tryd.prog 6 #[.int .i64 y, .agg #[.int .i64 n, .bool l]] w fun e w' => e = .returned (.bool true) ∧ Below w.heap.size w w' := by
  have HL := Lib.hid (fun w hT hL => heb_Last y n l w hy hT hL)
  rw [D10.last_no he] at HL
  generalize D10.lastE y n l = le at *
  have he2 : (le != 0) = true := by simpa using he
  go_enter Tryd.func6, Tryd.ntmps6
  go_wp2_with fail
  refine (HL.out _ (Tab.below hT (by repeat (first | (with_reducible exact Below.refl _ _) | assumption | (with_reducible refine bdrew ?_) | (with_reducible refine baa ?_ _) | (with_reducible refine bs ?_ (by first | exact Nat.le_refl _ | omega | (simp; omega)) _) | (with_reducible refine bt ?_ (by assumption))))) (Tab.below hL (by repeat (first | (with_reducible exact Below.refl _ _) | assumption | (with_reducible refine bdrew ?_) | (with_reducible refine baa ?_ _) | (with_reducible refine bs ?_ (by first | exact Nat.le_refl _ | omega | (simp; omega)) _) | (with_reducible refine bt ?_ (by assumption)))))).mono ?_
  rintro e w1 ⟨rfl, hb1⟩
  obtain ⟨hc1, hf1⟩ := bcell hb1
  have hz1 := hb1.size
  try simp at hz1
  have hs1x0 : w.heap.size < w1.heap.size := by omega
  have g1x0 : w1.cell? ⟨w.heap.size, 0, none⟩ = some (.int .i64 n) := (hc1 _ _ (by first | omega | (simp; done) | (simp; omega))).trans (by first | assumption | simp [go_sem] | simp [go_sem, *])
  have g1x1 : w1.cell? ⟨w.heap.size, 1, none⟩ = some (.bool l) := (hc1 _ _ (by first | omega | (simp; done) | (simp; omega))).trans (by first | assumption | simp [go_sem] | simp [go_sem, *])
  go_wp2_with fail
  refine (awake10 _ (Tab.below hT (by repeat (first | (with_reducible exact Below.refl _ _) | assumption | (with_reducible refine bdrew ?_) | (with_reducible refine baa ?_ _) | (with_reducible refine bs ?_ (by first | exact Nat.le_refl _ | omega | (simp; omega)) _) | (with_reducible refine bt ?_ (by assumption))))) (Tab.below hL (by repeat (first | (with_reducible exact Below.refl _ _) | assumption | (with_reducible refine bdrew ?_) | (with_reducible refine baa ?_ _) | (with_reducible refine bs ?_ (by first | exact Nat.le_refl _ | omega | (simp; omega)) _) | (with_reducible refine bt ?_ (by assumption)))))).mono ?_
  rintro e w2 ⟨rfl, hb2⟩
  obtain ⟨hc2, hf2⟩ := bcell hb2
  have hz2 := hb2.size
  try simp at hz2
  go_wp2_with fail
  go_ret
  refine ⟨rfl, ?_⟩
  repeat (first | (with_reducible exact Below.refl _ _) | assumption | (with_reducible refine bdrew ?_) | (with_reducible refine baa ?_ _) | (with_reducible refine bs ?_ (by first | exact Nat.le_refl _ | omega | (simp; omega)) _) | (with_reducible refine bt ?_ (by assumption)))
set_option maxHeartbeats 2000000 in
theorem HebMonths_n (y n : Int) (l : Bool) (hy : I64 y) (w : World) (hT : Tab w 2 kevCells) (hL : Tab w 1 lenCells) (he : D10.lastE y n l = 0) (ry rm : Int) (hw : D10.Valid ry rm 1) (hD : D10.dayV y n l (D10.lastV y n l) + 1 = D10.dayOf ry rm 1) (hne : ¬ Cal.ofN (Cal.leap ry) rm = n) :
    Calls Tryd.prog 6 #[.int .i64 y, .agg #[.int .i64 n, .bool l]] w fun e w' => e = .returned (.bool true) ∧ Below w.heap.size w w' := by
  obtain ⟨h1, h2, hp, e1, hv, e2, e3⟩ := D10.last_date he
  obtain ⟨_, b1, b2⟩ := D10.dayV_ok y n l _ e2
  have hlb := D10.len_bd y _ h1 h2 hv.2.2.1 hv.2.2.2.1
  rw [← e1] at hlb
  have HL := Lib.hid (fun w hT hL => heb_Last y n l w hy hT hL)
  have HT1 := Lib.hid (fun w hT hL => heb_ToDay y n l (D10.lastV y n l) w hy hT hL)
  have HT2 := Lib.hid (fun w hT hL => heb_ToDay y n l (D10.lastV y n l + 1) w hy hT hL)
  rw [D10.dayV_no y n l _ (by omega), e3] at HT2
  rw [e2] at HT1
  rw [he] at HL
  have HF := Lib.hid (fun w hT hL => heb_FromDay_at ry rm 1 w hT hL hw)
  rw [← hD] at HF
  clear hD hw
  generalize Cal.ofN (Cal.leap ry) rm = rn at *
  generalize Cal.ofL (Cal.leap ry) rm = rl at *
  clear e1 e2 e3 he hp hv
  generalize D10.dayV y n l (D10.lastV y n l) = v1 at *
  generalize D10.lastV y n l = lv at *
  go_enter Tryd.func6, Tryd.ntmps6
  go_wp2_with fail
  refine (HL.out _ (Tab.below hT (by repeat (first | (with_reducible exact Below.refl _ _) | assumption | (with_reducible refine bdrew ?_) | (with_reducible refine baa ?_ _) | (with_reducible refine bs ?_ (by first | exact Nat.le_refl _ | omega | (simp; omega)) _) | (with_reducible refine bt ?_ (by assumption))))) (Tab.below hL (by repeat (first | (with_reducible exact Below.refl _ _) | assumption | (with_reducible refine bdrew ?_) | (with_reducible refine baa ?_ _) | (with_reducible refine bs ?_ (by first | exact Nat.le_refl _ | omega | (simp; omega)) _) | (with_reducible refine bt ?_ (by assumption)))))).mono ?_
  rintro e w1 ⟨rfl, hb1⟩
  obtain ⟨hc1, hf1⟩ := bcell hb1
  have hz1 := hb1.size
  try simp at hz1
  have hs1x0 : w.heap.size < w1.heap.size := by omega
  have g1x0 : w1.cell? ⟨w.heap.size, 0, none⟩ = some (.int .i64 n) := (hc1 _ _ (by first | omega | (simp; done) | (simp; omega))).trans (by first | assumption | simp [go_sem] | simp [go_sem, *])
  have g1x1 : w1.cell? ⟨w.heap.size, 1, none⟩ = some (.bool l) := (hc1 _ _ (by first | omega | (simp; done) | (simp; omega))).trans (by first | assumption | simp [go_sem] | simp [go_sem, *])
  go_wp2_with fail
  refine (HT1.out _ (Tab.below hT (by repeat (first | (with_reducible exact Below.refl _ _) | assumption | (with_reducible refine bdrew ?_) | (with_reducible refine baa ?_ _) | (with_reducible refine bs ?_ (by first | exact Nat.le_refl _ | omega | (simp; omega)) _) | (with_reducible refine bt ?_ (by assumption))))) (Tab.below hL (by repeat (first | (with_reducible exact Below.refl _ _) | assumption | (with_reducible refine bdrew ?_) | (with_reducible refine baa ?_ _) | (with_reducible refine bs ?_ (by first | exact Nat.le_refl _ | omega | (simp; omega)) _) | (with_reducible refine bt ?_ (by assumption)))))).mono ?_
  rintro e w2 ⟨rfl, hb2⟩
  obtain ⟨hc2, hf2⟩ := bcell hb2
  have hz2 := hb2.size
  try simp at hz2
  have hs2x0 : w.heap.size < w2.heap.size := by omega
  have g2x0 : w2.cell? ⟨w.heap.size, 0, none⟩ = some (.int .i64 n) := (hc2 _ _ (by first | omega | (simp; done) | (simp; omega))).trans (by first | assumption | simp [go_sem] | simp [go_sem, *])
  have g2x1 : w2.cell? ⟨w.heap.size, 1, none⟩ = some (.bool l) := (hc2 _ _ (by first | omega | (simp; done) | (simp; omega))).trans (by first | assumption | simp [go_sem] | simp [go_sem, *])
  go_wp2_with fail
  refine (HT2.out _ (Tab.below hT (by repeat (first | (with_reducible exact Below.refl _ _) | assumption | (with_reducible refine bdrew ?_) | (with_reducible refine baa ?_ _) | (with_reducible refine bs ?_ (by first | exact Nat.le_refl _ | omega | (simp; omega)) _) | (with_reducible refine bt ?_ (by assumption))))) (Tab.below hL (by repeat (first | (with_reducible exact Below.refl _ _) | assumption | (with_reducible refine bdrew ?_) | (with_reducible refine baa ?_ _) | (with_reducible refine bs ?_ (by first | exact Nat.le_refl _ | omega | (simp; omega)) _) | (with_reducible refine bt ?_ (by assumption)))))).mono ?_
  rintro e w3 ⟨rfl, hb3⟩
  obtain ⟨hc3, hf3⟩ := bcell hb3
  have hz3 := hb3.size
  try simp at hz3
  have hs3x0 : w.heap.size < w3.heap.size := by omega
  have g3x0 : w3.cell? ⟨w.heap.size, 0, none⟩ = some (.int .i64 n) := (hc3 _ _ (by first | omega | (simp; done) | (simp; omega))).trans (by first | assumption | simp [go_sem] | simp [go_sem, *])
  have g3x1 : w3.cell? ⟨w.heap.size, 1, none⟩ = some (.bool l) := (hc3 _ _ (by first | omega | (simp; done) | (simp; omega))).trans (by first | assumption | simp [go_sem] | simp [go_sem, *])
  go_wp2_with fail
  refine (HF.out _ (Tab.below hT (by repeat (first | (with_reducible exact Below.refl _ _) | assumption | (with_reducible refine bdrew ?_) | (with_reducible refine baa ?_ _) | (with_reducible refine bs ?_ (by first | exact Nat.le_refl _ | omega | (simp; omega)) _) | (with_reducible refine bt ?_ (by assumption))))) (Tab.below hL (by repeat (first | (with_reducible exact Below.refl _ _) | assumption | (with_reducible refine bdrew ?_) | (with_reducible refine baa ?_ _) | (with_reducible refine bs ?_ (by first | exact Nat.le_refl _ | omega | (simp; omega)) _) | (with_reducible refine bt ?_ (by assumption)))))).mono ?_
  rintro e w4 ⟨rfl, hb4⟩
  obtain ⟨hc4, hf4⟩ := bcell hb4
  have hz4 := hb4.size
  try simp at hz4
  have hs4x0 : w.heap.size < w4.heap.size := by omega
  have g4x0 : w4.cell? ⟨w.heap.size, 0, none⟩ = some (.int .i64 n) := (hc4 _ _ (by first | omega | (simp; done) | (simp; omega))).trans (by first | assumption | simp [go_sem] | simp [go_sem, *])
  have g4x1 : w4.cell? ⟨w.heap.size, 1, none⟩ = some (.bool l) := (hc4 _ _ (by first | omega | (simp; done) | (simp; omega))).trans (by first | assumption | simp [go_sem] | simp [go_sem, *])
  go_wp2_with fail
  refine (awake10 _ (Tab.below hT (by repeat (first | (with_reducible exact Below.refl _ _) | assumption | (with_reducible refine bdrew ?_) | (with_reducible refine baa ?_ _) | (with_reducible refine bs ?_ (by first | exact Nat.le_refl _ | omega | (simp; omega)) _) | (with_reducible refine bt ?_ (by assumption))))) (Tab.below hL (by repeat (first | (with_reducible exact Below.refl _ _) | assumption | (with_reducible refine bdrew ?_) | (with_reducible refine baa ?_ _) | (with_reducible refine bs ?_ (by first | exact Nat.le_refl _ | omega | (simp; omega)) _) | (with_reducible refine bt ?_ (by assumption)))))).mono ?_
  rintro e w5 ⟨rfl, hb5⟩
  obtain ⟨hc5, hf5⟩ := bcell hb5
  have hz5 := hb5.size
  try simp at hz5
  have hl5w4 : w4.heap.size < w5.heap.size := by omega
  have hm5w4 : w4.heap.size ≤ w5.heap.size := by omega
  have hs5x0 : w.heap.size < w5.heap.size := by omega
  have g5x0 : w5.cell? ⟨w.heap.size, 0, none⟩ = some (.int .i64 n) := (hc5 _ _ (by first | omega | (simp; done) | (simp; omega))).trans (by first | assumption | simp [go_sem] | simp [go_sem, *])
  have g5x1 : w5.cell? ⟨w.heap.size, 1, none⟩ = some (.bool l) := (hc5 _ _ (by first | omega | (simp; done) | (simp; omega))).trans (by first | assumption | simp [go_sem] | simp [go_sem, *])
  have g5x2 : w5.cell? ⟨w4.heap.size, 0, none⟩ = some (.int .i64 ry) := (hc5 _ _ (by first | omega | (simp; done) | (simp; omega))).trans (by first | assumption | simp [go_sem] | simp [go_sem, *])
  have g5x3 : w5.cell? ⟨w4.heap.size, 1, none⟩ = some (.int .i64 rn) := (hc5 _ _ (by first | omega | (simp; done) | (simp; omega))).trans (by first | assumption | simp [go_sem] | simp [go_sem, *])
  have g5x4 : w5.cell? ⟨w4.heap.size, 2, none⟩ = some (.bool rl) := (hc5 _ _ (by first | omega | (simp; done) | (simp; omega))).trans (by first | assumption | simp [go_sem] | simp [go_sem, *])
  have g5x5 : w5.cell? ⟨w4.heap.size, 3, none⟩ = some (.int .i64 1) := (hc5 _ _ (by first | omega | (simp; done) | (simp; omega))).trans (by first | assumption | simp [go_sem] | simp [go_sem, *])
  go_wp2_with fail
  go_ret
  refine ⟨rfl, ?_⟩
  repeat (first | (with_reducible exact Below.refl _ _) | assumption | (with_reducible refine bdrew ?_) | (with_reducible refine baa ?_ _) | (with_reducible refine bs ?_ (by first | exact Nat.le_refl _ | omega | (simp; omega)) _) | (with_reducible refine bt ?_ (by assumption)))
set_option maxHeartbeats 2000000 in
theorem HebMonths_l (y n : Int) (l : Bool) (hy : I64 y) (w : World) (hT : Tab w 2 kevCells) (hL : Tab w 1 lenCells) (he : D10.lastE y n l = 0) (ry rm : Int) (hw : D10.Valid ry rm 1) (hD : D10.dayV y n l (D10.lastV y n l) + 1 = D10.dayOf ry rm 1) (hn : Cal.ofN (Cal.leap ry) rm = n) (hne : ¬ Cal.ofL (Cal.leap ry) rm = l) :
    Calls Tryd.prog 6 #[.int .i64 y, .agg #[.int .i64 n, .bool l]] w fun e w' => e = .returned (.bool true) ∧ Below w.heap.size w w' := by
  obtain ⟨h1, h2, hp, e1, hv, e2, e3⟩ := D10.last_date he
  obtain ⟨_, b1, b2⟩ := D10.dayV_ok y n l _ e2
  have hlb := D10.len_bd y _ h1 h2 hv.2.2.1 hv.2.2.2.1
  rw [← e1] at hlb
  have HL := Lib.hid (fun w hT hL => heb_Last y n l w hy hT hL)
  have HT1 := Lib.hid (fun w hT hL => heb_ToDay y n l (D10.lastV y n l) w hy hT hL)
  have HT2 := Lib.hid (fun w hT hL => heb_ToDay y n l (D10.lastV y n l + 1) w hy hT hL)
  rw [D10.dayV_no y n l _ (by omega), e3] at HT2
  rw [e2] at HT1
  rw [he] at HL
  have HF := Lib.hid (fun w hT hL => heb_FromDay_at ry rm 1 w hT hL hw)
  rw [← hD] at HF
  clear hD hw
  generalize Cal.ofN (Cal.leap ry) rm = rn at *
  generalize Cal.ofL (Cal.leap ry) rm = rl at *
  clear e1 e2 e3 he hp hv
  generalize D10.dayV y n l (D10.lastV y n l) = v1 at *
  generalize D10.lastV y n l = lv at *
  subst hn
  obtain rfl : rl = !l := by cases l <;> cases rl <;> simp_all
  clear hne
  go_enter Tryd.func6, Tryd.ntmps6
  go_wp2_with fail
  refine (HL.out _ (Tab.below hT (by repeat (first | (with_reducible exact Below.refl _ _) | assumption | (with_reducible refine bdrew ?_) | (with_reducible refine baa ?_ _) | (with_reducible refine bs ?_ (by first | exact Nat.le_refl _ | omega | (simp; omega)) _) | (with_reducible refine bt ?_ (by assumption))))) (Tab.below hL (by repeat (first | (with_reducible exact Below.refl _ _) | assumption | (with_reducible refine bdrew ?_) | (with_reducible refine baa ?_ _) | (with_reducible refine bs ?_ (by first | exact Nat.le_refl _ | omega | (simp; omega)) _) | (with_reducible refine bt ?_ (by assumption)))))).mono ?_
  rintro e w1 ⟨rfl, hb1⟩
  obtain ⟨hc1, hf1⟩ := bcell hb1
  have hz1 := hb1.size
  try simp at hz1
  have hs1x0 : w.heap.size < w1.heap.size := by omega
  have g1x0 : w1.cell? ⟨w.heap.size, 0, none⟩ = some (.int .i64 rn) := (hc1 _ _ (by first | omega | (simp; done) | (simp; omega))).trans (by first | assumption | simp [go_sem] | simp [go_sem, *])
  have g1x1 : w1.cell? ⟨w.heap.size, 1, none⟩ = some (.bool l) := (hc1 _ _ (by first | omega | (simp; done) | (simp; omega))).trans (by first | assumption | simp [go_sem] | simp [go_sem, *])
  go_wp2_with fail
  refine (HT1.out _ (Tab.below hT (by repeat (first | (with_reducible exact Below.refl _ _) | assumption | (with_reducible refine bdrew ?_) | (with_reducible refine baa ?_ _) | (with_reducible refine bs ?_ (by first | exact Nat.le_refl _ | omega | (simp; omega)) _) | (with_reducible refine bt ?_ (by assumption))))) (Tab.below hL (by repeat (first | (with_reducible exact Below.refl _ _) | assumption | (with_reducible refine bdrew ?_) | (with_reducible refine baa ?_ _) | (with_reducible refine bs ?_ (by first | exact Nat.le_refl _ | omega | (simp; omega)) _) | (with_reducible refine bt ?_ (by assumption)))))).mono ?_
  rintro e w2 ⟨rfl, hb2⟩
  obtain ⟨hc2, hf2⟩ := bcell hb2
  have hz2 := hb2.size
  try simp at hz2
  have hs2x0 : w.heap.size < w2.heap.size := by omega
  have g2x0 : w2.cell? ⟨w.heap.size, 0, none⟩ = some (.int .i64 rn) := (hc2 _ _ (by first | omega | (simp; done) | (simp; omega))).trans (by first | assumption | simp [go_sem] | simp [go_sem, *])
  have g2x1 : w2.cell? ⟨w.heap.size, 1, none⟩ = some (.bool l) := (hc2 _ _ (by first | omega | (simp; done) | (simp; omega))).trans (by first | assumption | simp [go_sem] | simp [go_sem, *])
  go_wp2_with fail
  refine (HT2.out _ (Tab.below hT (by repeat (first | (with_reducible exact Below.refl _ _) | assumption | (with_reducible refine bdrew ?_) | (with_reducible refine baa ?_ _) | (with_reducible refine bs ?_ (by first | exact Nat.le_refl _ | omega | (simp; omega)) _) | (with_reducible refine bt ?_ (by assumption))))) (Tab.below hL (by repeat (first | (with_reducible exact Below.refl _ _) | assumption | (with_reducible refine bdrew ?_) | (with_reducible refine baa ?_ _) | (with_reducible refine bs ?_ (by first | exact Nat.le_refl _ | omega | (simp; omega)) _) | (with_reducible refine bt ?_ (by assumption)))))).mono ?_
  rintro e w3 ⟨rfl, hb3⟩
  obtain ⟨hc3, hf3⟩ := bcell hb3
  have hz3 := hb3.size
  try simp at hz3
  have hs3x0 : w.heap.size < w3.heap.size := by omega
  have g3x0 : w3.cell? ⟨w.heap.size, 0, none⟩ = some (.int .i64 rn) := (hc3 _ _ (by first | omega | (simp; done) | (simp; omega))).trans (by first | assumption | simp [go_sem] | simp [go_sem, *])
  have g3x1 : w3.cell? ⟨w.heap.size, 1, none⟩ = some (.bool l) := (hc3 _ _ (by first | omega | (simp; done) | (simp; omega))).trans (by first | assumption | simp [go_sem] | simp [go_sem, *])
  go_wp2_with fail
  refine (HF.out _ (Tab.below hT (by repeat (first | (with_reducible exact Below.refl _ _) | assumption | (with_reducible refine bdrew ?_) | (with_reducible refine baa ?_ _) | (with_reducible refine bs ?_ (by first | exact Nat.le_refl _ | omega | (simp; omega)) _) | (with_reducible refine bt ?_ (by assumption))))) (Tab.below hL (by repeat (first | (with_reducible exact Below.refl _ _) | assumption | (with_reducible refine bdrew ?_) | (with_reducible refine baa ?_ _) | (with_reducible refine bs ?_ (by first | exact Nat.le_refl _ | omega | (simp; omega)) _) | (with_reducible refine bt ?_ (by assumption)))))).mono ?_
  rintro e w4 ⟨rfl, hb4⟩
  obtain ⟨hc4, hf4⟩ := bcell hb4
  have hz4 := hb4.size
  try simp at hz4
  have hs4x0 : w.heap.size < w4.heap.size := by omega
  have g4x0 : w4.cell? ⟨w.heap.size, 0, none⟩ = some (.int .i64 rn) := (hc4 _ _ (by first | omega | (simp; done) | (simp; omega))).trans (by first | assumption | simp [go_sem] | simp [go_sem, *])
  have g4x1 : w4.cell? ⟨w.heap.size, 1, none⟩ = some (.bool l) := (hc4 _ _ (by first | omega | (simp; done) | (simp; omega))).trans (by first | assumption | simp [go_sem] | simp [go_sem, *])
  go_wp2_with fail
  refine (awake10 _ (Tab.below hT (by repeat (first | (with_reducible exact Below.refl _ _) | assumption | (with_reducible refine bdrew ?_) | (with_reducible refine baa ?_ _) | (with_reducible refine bs ?_ (by first | exact Nat.le_refl _ | omega | (simp; omega)) _) | (with_reducible refine bt ?_ (by assumption))))) (Tab.below hL (by repeat (first | (with_reducible exact Below.refl _ _) | assumption | (with_reducible refine bdrew ?_) | (with_reducible refine baa ?_ _) | (with_reducible refine bs ?_ (by first | exact Nat.le_refl _ | omega | (simp; omega)) _) | (with_reducible refine bt ?_ (by assumption)))))).mono ?_
  rintro e w5 ⟨rfl, hb5⟩
  obtain ⟨hc5, hf5⟩ := bcell hb5
  have hz5 := hb5.size
  try simp at hz5
  have hl5w4 : w4.heap.size < w5.heap.size := by omega
  have hm5w4 : w4.heap.size ≤ w5.heap.size := by omega
  have hs5x0 : w.heap.size < w5.heap.size := by omega
  have g5x0 : w5.cell? ⟨w.heap.size, 0, none⟩ = some (.int .i64 rn) := (hc5 _ _ (by first | omega | (simp; done) | (simp; omega))).trans (by first | assumption | simp [go_sem] | simp [go_sem, *])
  have g5x1 : w5.cell? ⟨w.heap.size, 1, none⟩ = some (.bool l) := (hc5 _ _ (by first | omega | (simp; done) | (simp; omega))).trans (by first | assumption | simp [go_sem] | simp [go_sem, *])
  have g5x2 : w5.cell? ⟨w4.heap.size, 0, none⟩ = some (.int .i64 ry) := (hc5 _ _ (by first | omega | (simp; done) | (simp; omega))).trans (by first | assumption | simp [go_sem] | simp [go_sem, *])
  have g5x3 : w5.cell? ⟨w4.heap.size, 1, none⟩ = some (.int .i64 rn) := (hc5 _ _ (by first | omega | (simp; done) | (simp; omega))).trans (by first | assumption | simp [go_sem] | simp [go_sem, *])
  have g5x4 : w5.cell? ⟨w4.heap.size, 2, none⟩ = some (.bool (!l)) := (hc5 _ _ (by first | omega | (simp; done) | (simp; omega))).trans (by first | assumption | simp [go_sem] | simp [go_sem, *])
  have g5x5 : w5.cell? ⟨w4.heap.size, 3, none⟩ = some (.int .i64 1) := (hc5 _ _ (by first | omega | (simp; done) | (simp; omega))).trans (by first | assumption | simp [go_sem] | simp [go_sem, *])
  go_wp2_with fail
  go_ret
  refine ⟨rfl, ?_⟩
  repeat (first | (with_reducible exact Below.refl _ _) | assumption | (with_reducible refine bdrew ?_) | (with_reducible refine baa ?_ _) | (with_reducible refine bs ?_ (by first | exact Nat.le_refl _ | omega | (simp; omega)) _) | (with_reducible refine bt ?_ (by assumption)))
set_option maxHeartbeats 2000000 in
theorem HebMonths_end (y n : Int) (l : Bool) (hy : I64 y) (w : World) (hT : Tab w 2 kevCells) (hL : Tab w 1 lenCells) (he : D10.lastE y n l = 0) (hy9 : y = 9999) (hn : n = 12) (hD : 2278650 < D10.dayV y n l (D10.lastV y n l) + 1) :
    Calls Tryd.prog 6 #[.int .i64 y, .agg #[.int .i64 n, .bool l]] w fun e w' => e = .returned (.bool true) ∧ Below w.heap.size w w' := by
  obtain ⟨h1, h2, hp, e1, hv, e2, e3⟩ := D10.last_date he
  obtain ⟨_, b1, b2⟩ := D10.dayV_ok y n l _ e2
  have hlb := D10.len_bd y _ h1 h2 hv.2.2.1 hv.2.2.2.1
  rw [← e1] at hlb
  have HL := Lib.hid (fun w hT hL => heb_Last y n l w hy hT hL)
  have HT1 := Lib.hid (fun w hT hL => heb_ToDay y n l (D10.lastV y n l) w hy hT hL)
  have HT2 := Lib.hid (fun w hT hL => heb_ToDay y n l (D10.lastV y n l + 1) w hy hT hL)
  rw [D10.dayV_no y n l _ (by omega), e3] at HT2
  rw [e2] at HT1
  rw [he] at HL
  have HF := Lib.hid (fun w => heb_FromDay_no (D10.dayV y n l (D10.lastV y n l) + 1) w (.inr hD))
  clear hD
  clear e1 e2 e3 he hp hv
  generalize D10.dayV y n l (D10.lastV y n l) = v1 at *
  generalize D10.lastV y n l = lv at *
  subst hy9 hn
  go_enter Tryd.func6, Tryd.ntmps6
  go_wp2_with fail
  refine (HL.out _ (Tab.below hT (by repeat (first | (with_reducible exact Below.refl _ _) | assumption | (with_reducible refine bdrew ?_) | (with_reducible refine baa ?_ _) | (with_reducible refine bs ?_ (by first | exact Nat.le_refl _ | omega | (simp; omega)) _) | (with_reducible refine bt ?_ (by assumption))))) (Tab.below hL (by repeat (first | (with_reducible exact Below.refl _ _) | assumption | (with_reducible refine bdrew ?_) | (with_reducible refine baa ?_ _) | (with_reducible refine bs ?_ (by first | exact Nat.le_refl _ | omega | (simp; omega)) _) | (with_reducible refine bt ?_ (by assumption)))))).mono ?_
  rintro e w1 ⟨rfl, hb1⟩
  obtain ⟨hc1, hf1⟩ := bcell hb1
  have hz1 := hb1.size
  try simp at hz1
  have hs1x0 : w.heap.size < w1.heap.size := by omega
  have g1x0 : w1.cell? ⟨w.heap.size, 0, none⟩ = some (.int .i64 12) := (hc1 _ _ (by first | omega | (simp; done) | (simp; omega))).trans (by first | assumption | simp [go_sem] | simp [go_sem, *])
  have g1x1 : w1.cell? ⟨w.heap.size, 1, none⟩ = some (.bool l) := (hc1 _ _ (by first | omega | (simp; done) | (simp; omega))).trans (by first | assumption | simp [go_sem] | simp [go_sem, *])
  go_wp2_with fail
  refine (HT1.out _ (Tab.below hT (by repeat (first | (with_reducible exact Below.refl _ _) | assumption | (with_reducible refine bdrew ?_) | (with_reducible refine baa ?_ _) | (with_reducible refine bs ?_ (by first | exact Nat.le_refl _ | omega | (simp; omega)) _) | (with_reducible refine bt ?_ (by assumption))))) (Tab.below hL (by repeat (first | (with_reducible exact Below.refl _ _) | assumption | (with_reducible refine bdrew ?_) | (with_reducible refine baa ?_ _) | (with_reducible refine bs ?_ (by first | exact Nat.le_refl _ | omega | (simp; omega)) _) | (with_reducible refine bt ?_ (by assumption)))))).mono ?_
  rintro e w2 ⟨rfl, hb2⟩
  obtain ⟨hc2, hf2⟩ := bcell hb2
  have hz2 := hb2.size
  try simp at hz2
  have hs2x0 : w.heap.size < w2.heap.size := by omega
  have g2x0 : w2.cell? ⟨w.heap.size, 0, none⟩ = some (.int .i64 12) := (hc2 _ _ (by first | omega | (simp; done) | (simp; omega))).trans (by first | assumption | simp [go_sem] | simp [go_sem, *])
  have g2x1 : w2.cell? ⟨w.heap.size, 1, none⟩ = some (.bool l) := (hc2 _ _ (by first | omega | (simp; done) | (simp; omega))).trans (by first | assumption | simp [go_sem] | simp [go_sem, *])
  go_wp2_with fail
  refine (HT2.out _ (Tab.below hT (by repeat (first | (with_reducible exact Below.refl _ _) | assumption | (with_reducible refine bdrew ?_) | (with_reducible refine baa ?_ _) | (with_reducible refine bs ?_ (by first | exact Nat.le_refl _ | omega | (simp; omega)) _) | (with_reducible refine bt ?_ (by assumption))))) (Tab.below hL (by repeat (first | (with_reducible exact Below.refl _ _) | assumption | (with_reducible refine bdrew ?_) | (with_reducible refine baa ?_ _) | (with_reducible refine bs ?_ (by first | exact Nat.le_refl _ | omega | (simp; omega)) _) | (with_reducible refine bt ?_ (by assumption)))))).mono ?_
  rintro e w3 ⟨rfl, hb3⟩
  obtain ⟨hc3, hf3⟩ := bcell hb3
  have hz3 := hb3.size
  try simp at hz3
  have hs3x0 : w.heap.size < w3.heap.size := by omega
  have g3x0 : w3.cell? ⟨w.heap.size, 0, none⟩ = some (.int .i64 12) := (hc3 _ _ (by first | omega | (simp; done) | (simp; omega))).trans (by first | assumption | simp [go_sem] | simp [go_sem, *])
  have g3x1 : w3.cell? ⟨w.heap.size, 1, none⟩ = some (.bool l) := (hc3 _ _ (by first | omega | (simp; done) | (simp; omega))).trans (by first | assumption | simp [go_sem] | simp [go_sem, *])
  go_wp2_with fail
  refine (HF.out _).mono ?_
  rintro e w4 ⟨rfl, hb4⟩
  obtain ⟨hc4, hf4⟩ := bcell hb4
  have hz4 := hb4.size
  try simp at hz4
  have hs4x0 : w.heap.size < w4.heap.size := by omega
  have g4x0 : w4.cell? ⟨w.heap.size, 0, none⟩ = some (.int .i64 12) := (hc4 _ _ (by first | omega | (simp; done) | (simp; omega))).trans (by first | assumption | simp [go_sem] | simp [go_sem, *])
  have g4x1 : w4.cell? ⟨w.heap.size, 1, none⟩ = some (.bool l) := (hc4 _ _ (by first | omega | (simp; done) | (simp; omega))).trans (by first | assumption | simp [go_sem] | simp [go_sem, *])
  go_wp2_with fail
  refine (awake10 _ (Tab.below hT (by repeat (first | (with_reducible exact Below.refl _ _) | assumption | (with_reducible refine bdrew ?_) | (with_reducible refine baa ?_ _) | (with_reducible refine bs ?_ (by first | exact Nat.le_refl _ | omega | (simp; omega)) _) | (with_reducible refine bt ?_ (by assumption))))) (Tab.below hL (by repeat (first | (with_reducible exact Below.refl _ _) | assumption | (with_reducible refine bdrew ?_) | (with_reducible refine baa ?_ _) | (with_reducible refine bs ?_ (by first | exact Nat.le_refl _ | omega | (simp; omega)) _) | (with_reducible refine bt ?_ (by assumption)))))).mono ?_
  rintro e w5 ⟨rfl, hb5⟩
  obtain ⟨hc5, hf5⟩ := bcell hb5
  have hz5 := hb5.size
  try simp at hz5
  have hl5w4 : w4.heap.size < w5.heap.size := by omega
  have hm5w4 : w4.heap.size ≤ w5.heap.size := by omega
  have hs5x0 : w.heap.size < w5.heap.size := by omega
  have g5x0 : w5.cell? ⟨w.heap.size, 0, none⟩ = some (.int .i64 12) := (hc5 _ _ (by first | omega | (simp; done) | (simp; omega))).trans (by first | assumption | simp [go_sem] | simp [go_sem, *])
  have g5x1 : w5.cell? ⟨w.heap.size, 1, none⟩ = some (.bool l) := (hc5 _ _ (by first | omega | (simp; done) | (simp; omega))).trans (by first | assumption | simp [go_sem] | simp [go_sem, *])
  have g5x2 : w5.cell? ⟨w4.heap.size, 0, none⟩ = some (.int .i64 0) := (hc5 _ _ (by first | omega | (simp; done) | (simp; omega))).trans (by first | assumption | simp [go_sem] | simp [go_sem, *])
  have g5x3 : w5.cell? ⟨w4.heap.size, 1, none⟩ = some (.int .i64 0) := (hc5 _ _ (by first | omega | (simp; done) | (simp; omega))).trans (by first | assumption | simp [go_sem] | simp [go_sem, *])
  have g5x4 : w5.cell? ⟨w4.heap.size, 2, none⟩ = some (.bool false) := (hc5 _ _ (by first | omega | (simp; done) | (simp; omega))).trans (by first | assumption | simp [go_sem] | simp [go_sem, *])
  have g5x5 : w5.cell? ⟨w4.heap.size, 3, none⟩ = some (.int .i64 0) := (hc5 _ _ (by first | omega | (simp; done) | (simp; omega))).trans (by first | assumption | simp [go_sem] | simp [go_sem, *])
  go_wp2_with fail
  go_ret
  refine ⟨rfl, ?_⟩
  repeat (first | (with_reducible exact Below.refl _ _) | assumption | (with_reducible refine bdrew ?_) | (with_reducible refine baa ?_ _) | (with_reducible refine bs ?_ (by first | exact Nat.le_refl _ | omega | (simp; omega)) _) | (with_reducible refine bt ?_ (by assumption)))
theorem HebMonths_walk (y n : Int) (l : Bool) (hy : I64 y) (hn : I64 n) (w : World) (hT : Tab w 2 kevCells) (hL : Tab w 1 lenCells) :
    Calls Tryd.prog 6 #[.int .i64 y, .agg #[.int .i64 n, .bool l]] w fun e w' => e = .returned (.bool true) ∧ Below w.heap.size w w' := by
  by_cases he : D10.lastE y n l = 0
  · obtain ⟨h1, h2, hp, e1, hv, e2, e3⟩ := D10.last_date he
    obtain ⟨_, _, a3, a4⟩ := D10.place_in _ _ _ hp
    have ed := (D10.date_back e2).2.1
    rcases D10.next_cases h1 h2 hv.2.2.1 hv.2.2.2.1 with ⟨z, r, hw, e, hne⟩ | ⟨c1, c2, c3⟩
    · rw [← e1, ← ed] at e
      rw [a3, a4] at hne
      by_cases c : Cal.ofN (Cal.leap z) r = n
      · exact HebMonths_l y n l hy w hT hL he z r hw e c (fun x => hne ⟨c, x⟩)
      · exact HebMonths_n y n l hy w hT hL he z r hw e c
    · rw [← e1, ← ed] at c3
      rw [a3] at c2
      exact HebMonths_end y n l hy w hT hL he c1 c2 c3
  · exact HebMonths_no y n l hy w hT hL he
end Go.Proofs.YtinpdamfdaefmaaDoor
