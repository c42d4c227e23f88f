/- Merged: Text3, Text4, A13. -/
import Derived.Test.YtafenpgafmdenaaGreatDoorCodeT
import Derived.Test.YtafenpgafmdenaaGreatDoorHeb2
import Derived.Test.YtafenpgafmdenaaGreatDoorText2
import Derived.Test.YtafenpgafmdenaaGreatDoorFlat
import Derived.LoopTactic
import Derived.Outline
import Derived.Test.YtafenpgafmdenaaGreatDoorCodeT2
import Derived.Test.YtafenpgafmdenaaGreatDoorRep
import Derived.Test.YtafenpgafmdenaaGreatDoorMaxA
import Derived.Test.YtafenpgafmdenaaGreatDoorW10
/- Layer 13: a Hebrew date's text. -/
namespace Go.Proofs.YtafenpgafmdenaaGreatDoor
open Go.ChangeShapes Go.WideShapes Go.ChangeAt Go.RowKit
set_option linter.unusedVariables false
set_option maxRecDepth 100000
set_option maxHeartbeats 2000000 in
theorem text_Heb_err (y n : Int) (l : Bool) (d : Int) (w : World) (hy : I64 y) (hT : Tab w 8 kevCells) (hL : Tab w 6 lenCells) (hP : Tab w 1 powCells) (h0 : ¬ D10.dateE y n l d = 0) :
    Calls Tryz.prog 11 #[.agg #[.int .i64 (y), .int .i64 (n), .bool (l), .int .i64 (d)]] w fun e w' => e = .returned (.tuple #[.string ByteArray.empty, .int .i64 (D10.dateE y n l d)]) ∧ Below w.heap.size w w' := by
  have HC := Lib.hid (fun w hT hL => heb_Check y n l d w hy hT hL)
  have h1 : (D10.dateE y n l d != 0) = true := by simpa using h0
  clear h0
  generalize D10.dateE y n l d = de at *
  go_enter Tryz.func11, Tryz.ntmps11
  go_wp2_with fail
  refine (HC.out _ (Tab.below hT (by repeat (first | (with_reducible exact Below.refl _ _) | (with_reducible assumption) | (with_reducible refine bdrew ?_) | (with_reducible refine baa ?_ _) | (with_reducible refine bs ?_ (by first | exact Nat.le_refl _ | omega | (simp; done) | (simp; omega)) _) | (with_reducible refine bt ?_ (by with_reducible assumption))))) (Tab.below hL (by repeat (first | (with_reducible exact Below.refl _ _) | (with_reducible assumption) | (with_reducible refine bdrew ?_) | (with_reducible refine baa ?_ _) | (with_reducible refine bs ?_ (by first | exact Nat.le_refl _ | omega | (simp; done) | (simp; omega)) _) | (with_reducible refine bt ?_ (by with_reducible assumption)))))).mono ?_
  rintro e w1 ⟨rfl, hb1⟩
  obtain ⟨hc1, hf1⟩ := bcell hb1
  have hz1 := hb1.size
  try simp at hz1
  have hs1x0 : w.heap.size < w1.heap.size := by omega
  have g1x0 : w1.cell? ⟨w.heap.size, 0, none⟩ = some (.int .i64 y) := (hc1 _ _ (by first | omega | (simp; done) | (simp; omega))).trans (by first | (with_reducible assumption) | (simp [go_sem]; done) | (simp [go_sem, *]; done) | assumption)
  have g1x1 : w1.cell? ⟨w.heap.size, 1, none⟩ = some (.int .i64 n) := (hc1 _ _ (by first | omega | (simp; done) | (simp; omega))).trans (by first | (with_reducible assumption) | (simp [go_sem]; done) | (simp [go_sem, *]; done) | assumption)
  have g1x2 : w1.cell? ⟨w.heap.size, 2, none⟩ = some (.bool l) := (hc1 _ _ (by first | omega | (simp; done) | (simp; omega))).trans (by first | (with_reducible assumption) | (simp [go_sem]; done) | (simp [go_sem, *]; done) | assumption)
  have g1x3 : w1.cell? ⟨w.heap.size, 3, none⟩ = some (.int .i64 d) := (hc1 _ _ (by first | omega | (simp; done) | (simp; omega))).trans (by first | (with_reducible assumption) | (simp [go_sem]; done) | (simp [go_sem, *]; done) | assumption)
  go_wp2_with fail
  go_ret2
  refine ⟨rfl, ?_⟩
  repeat (first | (with_reducible exact Below.refl _ _) | (with_reducible assumption) | (with_reducible refine bdrew ?_) | (with_reducible refine baa ?_ _) | (with_reducible refine bs ?_ (by first | exact Nat.le_refl _ | omega | (simp; done) | (simp; omega)) _) | (with_reducible refine bt ?_ (by with_reducible assumption)))
def hebTxt (y n : Int) (l : Bool) (d : Int) : ByteArray := digs y [1000, 100, 10, 1] ++ ⟨#[45]⟩ ++ txtV n l ++ ⟨#[45]⟩ ++ digs d [10, 1]
set_option maxHeartbeats 4000000 in
theorem text_Heb_ok (y n : Int) (l : Bool) (d : Int) (w : World) (hy : I64 y) (hT : Tab w 8 kevCells) (hL : Tab w 6 lenCells) (hP : Tab w 1 powCells) (h0 : D10.dateE y n l d = 0) :
    Calls Tryz.prog 11 #[.agg #[.int .i64 (y), .int .i64 (n), .bool (l), .int .i64 (d)]] w fun e w' => e = .returned (.tuple #[.string (hebTxt y n l d), .int .i64 0]) ∧ Below w.heap.size w w' := by
  have HC := Lib.hid (fun w hT hL => heb_Check y n l d w hy hT hL)
  obtain ⟨hv, hp⟩ := D10.date_valid h0
  obtain ⟨y1, y2, m1, m2, d1, d2⟩ := hv
  have db := D10.len_bd y _ y1 y2 m1 m2
  have HM := Lib.hid (fun w => code_Text_any n l w)
  have HY := Lib.hid (fun w hP => text_digits_4 y (by omega) (by omega) w hP)
  have HD := Lib.hid (fun w hP => text_digits_2 d (by omega) (by omega) w hP)
  rw [h0] at HC
  have sz : (txtV n l).size ≤ 4 := by unfold txtV codeTxt; split; split; all_goals (first | decide | exact Nat.le_of_ble_eq_true rfl | simp [ByteArray.size])
  have s4 : (digs y [1000, 100, 10, 1]).size ≤ 4 := by simp [digs, ByteArray.size]
  have s2 : (digs d [10, 1]).size ≤ 2 := by simp [digs, ByteArray.size]
  clear m1 m2 d1 d2 db hp h0
  unfold hebTxt
  generalize txtV n l = tm at *
  generalize Cal.right n l = rr at *
  generalize digs y [1000, 100, 10, 1] = ty at *
  generalize digs d [10, 1] = td at *
  go_enter Tryz.func11, Tryz.ntmps11
  go_wp2_with fail
  refine (HC.out _ (Tab.below hT (by repeat (first | (with_reducible exact Below.refl _ _) | (with_reducible assumption) | (with_reducible refine bdrew ?_) | (with_reducible refine baa ?_ _) | (with_reducible refine bs ?_ (by first | exact Nat.le_refl _ | omega | (simp; done) | (simp; omega)) _) | (with_reducible refine bt ?_ (by with_reducible assumption))))) (Tab.below hL (by repeat (first | (with_reducible exact Below.refl _ _) | (with_reducible assumption) | (with_reducible refine bdrew ?_) | (with_reducible refine baa ?_ _) | (with_reducible refine bs ?_ (by first | exact Nat.le_refl _ | omega | (simp; done) | (simp; omega)) _) | (with_reducible refine bt ?_ (by with_reducible assumption)))))).mono ?_
  rintro e w1 ⟨rfl, hb1⟩
  obtain ⟨hc1, hf1⟩ := bcell hb1
  have hz1 := hb1.size
  try simp at hz1
  have hs1x0 : w.heap.size < w1.heap.size := by omega
  have g1x0 : w1.cell? ⟨w.heap.size, 0, none⟩ = some (.int .i64 y) := (hc1 _ _ (by first | omega | (simp; done) | (simp; omega))).trans (by first | (with_reducible assumption) | (simp [go_sem]; done) | (simp [go_sem, *]; done) | assumption)
  have g1x1 : w1.cell? ⟨w.heap.size, 1, none⟩ = some (.int .i64 n) := (hc1 _ _ (by first | omega | (simp; done) | (simp; omega))).trans (by first | (with_reducible assumption) | (simp [go_sem]; done) | (simp [go_sem, *]; done) | assumption)
  have g1x2 : w1.cell? ⟨w.heap.size, 2, none⟩ = some (.bool l) := (hc1 _ _ (by first | omega | (simp; done) | (simp; omega))).trans (by first | (with_reducible assumption) | (simp [go_sem]; done) | (simp [go_sem, *]; done) | assumption)
  have g1x3 : w1.cell? ⟨w.heap.size, 3, none⟩ = some (.int .i64 d) := (hc1 _ _ (by first | omega | (simp; done) | (simp; omega))).trans (by first | (with_reducible assumption) | (simp [go_sem]; done) | (simp [go_sem, *]; done) | assumption)
  go_wp2_with fail
  refine (HM.out _).mono ?_
  rintro e w2 ⟨rfl, hb2⟩
  obtain ⟨hc2, hf2⟩ := bcell hb2
  have hz2 := hb2.size
  try simp at hz2
  have hs2x0 : w.heap.size < w2.heap.size := by omega
  have g2x0 : w2.cell? ⟨w.heap.size, 0, none⟩ = some (.int .i64 y) := (hc2 _ _ (by first | omega | (simp; done) | (simp; omega))).trans (by first | (with_reducible assumption) | (simp [go_sem]; done) | (simp [go_sem, *]; done) | assumption)
  have g2x1 : w2.cell? ⟨w.heap.size, 1, none⟩ = some (.int .i64 n) := (hc2 _ _ (by first | omega | (simp; done) | (simp; omega))).trans (by first | (with_reducible assumption) | (simp [go_sem]; done) | (simp [go_sem, *]; done) | assumption)
  have g2x2 : w2.cell? ⟨w.heap.size, 2, none⟩ = some (.bool l) := (hc2 _ _ (by first | omega | (simp; done) | (simp; omega))).trans (by first | (with_reducible assumption) | (simp [go_sem]; done) | (simp [go_sem, *]; done) | assumption)
  have g2x3 : w2.cell? ⟨w.heap.size, 3, none⟩ = some (.int .i64 d) := (hc2 _ _ (by first | omega | (simp; done) | (simp; omega))).trans (by first | (with_reducible assumption) | (simp [go_sem]; done) | (simp [go_sem, *]; done) | assumption)
  go_wp2_with fail
  have hW2 : Below w.heap.size w w2 := by repeat (first | (with_reducible exact Below.refl _ _) | (with_reducible assumption) | (with_reducible refine bdrew ?_) | (with_reducible refine baa ?_ _) | (with_reducible refine bs ?_ (by first | exact Nat.le_refl _ | omega | (simp; done) | (simp; omega)) _) | (with_reducible refine bt ?_ (by with_reducible assumption)))
  refine wp_region_class (by kernel_rfl) (by kernel_rfl) (fun hall => ?_)
  repeat (first | go_big_quiet_skip | (go_big_quiet_want; first | (refine quiet_load1 _ _ _ rfl rfl ?_ ?_ ?_; (focus (intro _; simp; done)); (focus (first | assumption | omega | (simp; done) | (simp; omega))); apply Exists.intro; refine ⟨?_, ?_⟩; assumption; go_simp; go_big_quiet_on) | (refine quiet_load2 _ _ _ _ rfl rfl ?_ ?_ ?_ ?_; (focus (intro _; simp; done)); (focus (intro _; simp; done)); (focus (first | assumption | omega | (simp; done) | (simp; omega))); apply Exists.intro; apply Exists.intro; refine ⟨?_, ?_, ?_⟩; assumption; assumption; go_simp; go_big_quiet_on) | (refine quiet_load3 _ _ _ _ rfl rfl ?_ ?_ ?_ ?_; (focus (intro _; simp; done)); (focus (intro _; simp; done)); (focus (first | assumption | omega | (simp; done) | (simp; omega))); apply Exists.intro; apply Exists.intro; apply Exists.intro; refine ⟨?_, ?_, ?_, ?_⟩; assumption; assumption; assumption; go_simp; go_big_quiet_on) | (refine quiet_load4 _ _ _ _ rfl rfl ?_ ?_ ?_ ?_; (focus (intro _; simp; done)); (focus (intro _; simp; done)); (focus (first | assumption | omega | (simp; done) | (simp; omega))); apply Exists.intro; apply Exists.intro; apply Exists.intro; apply Exists.intro; refine ⟨?_, ?_, ?_, ?_, ?_⟩; assumption; assumption; assumption; assumption; go_simp; go_big_quiet_on) | (go_big_quiet_op; first | go_big_quiet_on | (apply Exists.intro; refine ⟨fun x hx => ?_, ?_⟩; (first | (with_reducible exact call_below hx (HY.out x (Tab.below hP (bt hW2 hx)))) | (with_reducible exact call_below hx (HD.out x (Tab.below hP (bt hW2 hx)))) | exact call_below hx (HY.out x (Tab.below hP (bt hW2 hx))) | exact call_below hx (HD.out x (Tab.below hP (bt hW2 hx)))); go_big_quiet_on))))
  refine wpQuiet_nil ?_
  clear hall
  intro x3 hx3
  go_wp2_with fail
  go_ret2
  exact ⟨rfl, bt hW2 hx3⟩
def hebV (y n : Int) (l : Bool) (d : Int) : ByteArray := if D10.dateE y n l d = 0 then hebTxt y n l d else ByteArray.empty
theorem text_Heb (y n : Int) (l : Bool) (d : Int) (w : World) (hy : I64 y) (hT : Tab w 8 kevCells) (hL : Tab w 6 lenCells) (hP : Tab w 1 powCells) :
    Calls Tryz.prog 11 #[.agg #[.int .i64 (y), .int .i64 (n), .bool (l), .int .i64 (d)]] w fun e w' => e = .returned (.tuple #[.string (hebV y n l d), .int .i64 (D10.dateE y n l d)]) ∧ Below w.heap.size w w' := by
  unfold hebV
  by_cases h0 : D10.dateE y n l d = 0
  · rw [if_pos h0, h0]; exact text_Heb_ok y n l d w hy hT hL hP h0
  · rw [if_neg h0]; exact text_Heb_err y n l d w hy hT hL hP h0
end Go.Proofs.YtafenpgafmdenaaGreatDoor
/- Layer 13: a Hebrew date, read. -/
namespace Go.Proofs.YtafenpgafmdenaaGreatDoor
open Go.ChangeShapes Go.WideShapes Go.ChangeAt Go.RowKit
set_option linter.unusedVariables false
set_option maxRecDepth 100000
def greatB (a b : UInt8) (s : ByteArray) : ByteArray := ⟨(s.data.toList.map (Rep.sub a b)).toArray⟩
theorem greatB_size (a b : UInt8) (s : ByteArray) : (greatB a b s).size = s.size := by
  show ((s.data.toList.map (Rep.sub a b)).toArray).size = s.data.size
  simp
theorem replaceAll_byte (a b : UInt8) (h : ¬ a = b) (s : ByteArray) (m : Int) (w : World) (hs : s.size ≤ 1000000) (hm : MaxAt w m) :
    Calls Tryz.prog 45 #[.string s, .string ⟨#[a]⟩, .string ⟨#[b]⟩] w fun e w' => e = .returned (.string (greatB a b s)) ∧ Below w.heap.size w w' := by
  have hc : Go.Lib.countB s ⟨#[a]⟩ ≤ s.size := Rep.count_le a s.data.toList
  have := Tryz.strings_ReplaceAll s ⟨#[a]⟩ ⟨#[b]⟩ m w (by omega) hm.1 (show 1 ≤ 1 from Nat.le_refl 1) (by
    show s.size + Go.Lib.countB s ⟨#[a]⟩ * 1 ≤ 140737488355328
    omega)
  rw [show Go.Lib.replaceAll s.data.toList (⟨#[a]⟩ : ByteArray).data.toList (⟨#[b]⟩ : ByteArray).data.toList = s.data.toList.map (Rep.sub a b) from Rep.replaceAll_one a b h _] at this
  exact this
def great (s : ByteArray) : ByteArray := greatB 108 76 (greatB 109 77 s)
theorem numVal_bd (l : List UInt8) (M : Nat) : 0 ≤ numVal l M ∧ numVal l M < 10 ^ M := by
  unfold numVal
  by_cases h : numOk l M = true
  · rw [if_pos h]
    unfold numOk at h
    simp only [Bool.and_eq_true, decide_eq_true_eq] at h
    have := numFold_bd l h.2
    rw [h.1] at this
    exact this
  · rw [if_neg h]
    exact ⟨Int.le_refl _, Int.pow_pos (by omega)⟩
theorem cutB_size (s : ByteArray) : (cutB s).size ≤ s.size := by
  unfold cutB
  split
  · exact Nat.le_refl _
  · simp
set_option maxHeartbeats 4000000 in
theorem text_ReadHeb_y (s : ByteArray) (cn : Int) (cl ok : Bool) (m : Int) (hs : s.size ≤ 1000000) (w : World) (hT : Tab w 8 kevCells) (hL : Tab w 6 lenCells) (hm : MaxAt w m) (hc : IsCode (cutB (cutA (great s))) cn cl ok) (h4 : numOk (cutA (cutA (great s))).data.toList 4 = false) :
    Calls Tryz.prog 15 #[.string s] w fun e w' => e = .returned (.tuple #[.agg #[.int .i64 (0), .int .i64 (0), .bool (false), .int .i64 (0)], .int .i64 (5)]) ∧ Below w.heap.size w w' := by
  have g1 := greatB_size 109 77 s
  have g2 := greatB_size 108 76 (greatB 109 77 s)
  have c1 := cutA_size (great s)
  have HR1 := Lib.hid (fun w hm => replaceAll_byte 109 77 (by decide) s m w hs hm)
  have HR2 := Lib.hid (fun w hm => replaceAll_byte 108 76 (by decide) (greatB 109 77 s) m w (by omega) hm)
  have HP := Lib.hid (fun w => text_part (great s) w (by unfold great; omega))
  rw [show greatB 108 76 (greatB 109 77 s) = great s from rfl] at HR2
  have zA : (cutA (cutA (great s))).size ≤ 1000000 := by have := cutA_size (cutA (great s)); unfold great at *; omega
  have zB : (cutB (cutA (great s))).size ≤ 1000000 := by have := cutB_size (cutA (great s)); unfold great at *; omega
  have zC : (cutB (great s)).size ≤ 1000000 := by have := cutB_size (great s); unfold great at *; omega
  have HN4 := Lib.hid (fun w => text_number (cutA (cutA (great s))) 4 w (by omega) (by omega))
  have HN2 := Lib.hid (fun w => text_number (cutB (great s)) 2 w (by omega) (by omega))
  have HCo := Lib.hid (fun w => code_Read_any (cutB (cutA (great s))) cn cl ok w zB hc)
  clear hc g1 g2 c1
  rw [h4] at HN4
  clear h4
  generalize numVal (cutA (cutA (great s))).data.toList 4 = yv at *
  generalize numVal (cutB (great s)).data.toList 2 = dv at *
  try generalize numOk (cutA (cutA (great s))).data.toList 4 = o4 at *
  try generalize numOk (cutB (great s)).data.toList 2 = o2 at *
  generalize greatB 109 77 s = s1 at *
  generalize cutA (cutA (great s)) = tA at *
  generalize cutB (cutA (great s)) = tB at *
  generalize cutB (great s) = tC at *
  generalize great s = s2 at *
  clear zA zB zC
  go_enter Tryz.func15, Tryz.ntmps15
  go_wp2_with fail
  have hmA := MaxAt.below hm (ba w (.cells #[.int .i64 0, .int .i64 0, .bool false, .int .i64 0] 25))
  refine (HR1.out _ hmA).mono ?_
  rintro e w1 ⟨rfl, hb1⟩
  obtain ⟨hc1, hf1⟩ := bcell hb1
  have hz1 := hb1.size
  try simp at hz1
  have hs1x0 : w.heap.size < w1.heap.size := by omega
  have g1x0 : w1.cell? ⟨w.heap.size, 0, none⟩ = some (.int .i64 0) := (hc1 _ _ (by first | omega | (simp; done) | (simp; omega))).trans (by first | (with_reducible assumption) | (simp [go_sem]; done) | (simp [go_sem, *]; done) | assumption)
  have g1x1 : w1.cell? ⟨w.heap.size, 1, none⟩ = some (.int .i64 0) := (hc1 _ _ (by first | omega | (simp; done) | (simp; omega))).trans (by first | (with_reducible assumption) | (simp [go_sem]; done) | (simp [go_sem, *]; done) | assumption)
  have g1x2 : w1.cell? ⟨w.heap.size, 2, none⟩ = some (.bool false) := (hc1 _ _ (by first | omega | (simp; done) | (simp; omega))).trans (by first | (with_reducible assumption) | (simp [go_sem]; done) | (simp [go_sem, *]; done) | assumption)
  have g1x3 : w1.cell? ⟨w.heap.size, 3, none⟩ = some (.int .i64 0) := (hc1 _ _ (by first | omega | (simp; done) | (simp; omega))).trans (by first | (with_reducible assumption) | (simp [go_sem]; done) | (simp [go_sem, *]; done) | assumption)
  go_wp2_with fail
  refine (HR2.out _ (MaxAt.below hmA hb1)).mono ?_
  rintro e w2 ⟨rfl, hb2⟩
  obtain ⟨hc2, hf2⟩ := bcell hb2
  have hz2 := hb2.size
  try simp at hz2
  have hs2x0 : w.heap.size < w2.heap.size := by omega
  have g2x0 : w2.cell? ⟨w.heap.size, 0, none⟩ = some (.int .i64 0) := (hc2 _ _ (by first | omega | (simp; done) | (simp; omega))).trans (by first | (with_reducible assumption) | (simp [go_sem]; done) | (simp [go_sem, *]; done) | assumption)
  have g2x1 : w2.cell? ⟨w.heap.size, 1, none⟩ = some (.int .i64 0) := (hc2 _ _ (by first | omega | (simp; done) | (simp; omega))).trans (by first | (with_reducible assumption) | (simp [go_sem]; done) | (simp [go_sem, *]; done) | assumption)
  have g2x2 : w2.cell? ⟨w.heap.size, 2, none⟩ = some (.bool false) := (hc2 _ _ (by first | omega | (simp; done) | (simp; omega))).trans (by first | (with_reducible assumption) | (simp [go_sem]; done) | (simp [go_sem, *]; done) | assumption)
  have g2x3 : w2.cell? ⟨w.heap.size, 3, none⟩ = some (.int .i64 0) := (hc2 _ _ (by first | omega | (simp; done) | (simp; omega))).trans (by first | (with_reducible assumption) | (simp [go_sem]; done) | (simp [go_sem, *]; done) | assumption)
  go_wp2_with fail
  refine (HP.out _).mono ?_
  rintro e w3 ⟨rfl, hb3⟩
  obtain ⟨hc3, hf3⟩ := bcell hb3
  have hz3 := hb3.size
  try simp at hz3
  have hs3x0 : w.heap.size < w3.heap.size := by omega
  have g3x0 : w3.cell? ⟨w.heap.size, 0, none⟩ = some (.int .i64 0) := (hc3 _ _ (by first | omega | (simp; done) | (simp; omega))).trans (by first | (with_reducible assumption) | (simp [go_sem]; done) | (simp [go_sem, *]; done) | assumption)
  have g3x1 : w3.cell? ⟨w.heap.size, 1, none⟩ = some (.int .i64 0) := (hc3 _ _ (by first | omega | (simp; done) | (simp; omega))).trans (by first | (with_reducible assumption) | (simp [go_sem]; done) | (simp [go_sem, *]; done) | assumption)
  have g3x2 : w3.cell? ⟨w.heap.size, 2, none⟩ = some (.bool false) := (hc3 _ _ (by first | omega | (simp; done) | (simp; omega))).trans (by first | (with_reducible assumption) | (simp [go_sem]; done) | (simp [go_sem, *]; done) | assumption)
  have g3x3 : w3.cell? ⟨w.heap.size, 3, none⟩ = some (.int .i64 0) := (hc3 _ _ (by first | omega | (simp; done) | (simp; omega))).trans (by first | (with_reducible assumption) | (simp [go_sem]; done) | (simp [go_sem, *]; done) | assumption)
  go_wp2_with fail
  refine (HN4.out _).mono ?_
  rintro e w' ⟨rfl, rfl⟩
  go_wp2_with fail
  refine (HCo.out _).mono ?_
  rintro e w4 ⟨rfl, hb4⟩
  obtain ⟨hc4, hf4⟩ := bcell hb4
  have hz4 := hb4.size
  try simp at hz4
  have hs4x0 : w.heap.size < w4.heap.size := by omega
  have g4x0 : w4.cell? ⟨w.heap.size, 0, none⟩ = some (.int .i64 0) := (hc4 _ _ (by first | omega | (simp; done) | (simp; omega))).trans (by first | (with_reducible assumption) | (simp [go_sem]; done) | (simp [go_sem, *]; done) | assumption)
  have g4x1 : w4.cell? ⟨w.heap.size, 1, none⟩ = some (.int .i64 0) := (hc4 _ _ (by first | omega | (simp; done) | (simp; omega))).trans (by first | (with_reducible assumption) | (simp [go_sem]; done) | (simp [go_sem, *]; done) | assumption)
  have g4x2 : w4.cell? ⟨w.heap.size, 2, none⟩ = some (.bool false) := (hc4 _ _ (by first | omega | (simp; done) | (simp; omega))).trans (by first | (with_reducible assumption) | (simp [go_sem]; done) | (simp [go_sem, *]; done) | assumption)
  have g4x3 : w4.cell? ⟨w.heap.size, 3, none⟩ = some (.int .i64 0) := (hc4 _ _ (by first | omega | (simp; done) | (simp; omega))).trans (by first | (with_reducible assumption) | (simp [go_sem]; done) | (simp [go_sem, *]; done) | assumption)
  go_wp2_with fail
  refine (HN2.out _).mono ?_
  rintro e w' ⟨rfl, rfl⟩
  go_wp2_with fail
  refine bodyPost_ret (v := .tuple #[.agg #[.int .i64 (0), .int .i64 (0), .bool (false), .int .i64 (0)], .int .i64 (5)]) (by simp [results, Tryz.results15, go_sem, *]) rfl ⟨rfl, ?_⟩
  repeat (first | (with_reducible exact Below.refl _ _) | (with_reducible assumption) | (with_reducible refine bdrew ?_) | (with_reducible refine baa ?_ _) | (with_reducible refine bs ?_ (by first | exact Nat.le_refl _ | omega | (simp; done) | (simp; omega)) _) | (with_reducible refine bt ?_ (by with_reducible assumption)))
set_option maxHeartbeats 4000000 in
theorem text_ReadHeb_c (s : ByteArray) (cn : Int) (cl ok : Bool) (m : Int) (hs : s.size ≤ 1000000) (w : World) (hT : Tab w 8 kevCells) (hL : Tab w 6 lenCells) (hm : MaxAt w m) (hc : IsCode (cutB (cutA (great s))) cn cl ok) (h4 : numOk (cutA (cutA (great s))).data.toList 4 = true) (ho : ok = false) :
    Calls Tryz.prog 15 #[.string s] w fun e w' => e = .returned (.tuple #[.agg #[.int .i64 (0), .int .i64 (0), .bool (false), .int .i64 (0)], .int .i64 (5)]) ∧ Below w.heap.size w w' := by
  have g1 := greatB_size 109 77 s
  have g2 := greatB_size 108 76 (greatB 109 77 s)
  have c1 := cutA_size (great s)
  have HR1 := Lib.hid (fun w hm => replaceAll_byte 109 77 (by decide) s m w hs hm)
  have HR2 := Lib.hid (fun w hm => replaceAll_byte 108 76 (by decide) (greatB 109 77 s) m w (by omega) hm)
  have HP := Lib.hid (fun w => text_part (great s) w (by unfold great; omega))
  rw [show greatB 108 76 (greatB 109 77 s) = great s from rfl] at HR2
  have zA : (cutA (cutA (great s))).size ≤ 1000000 := by have := cutA_size (cutA (great s)); unfold great at *; omega
  have zB : (cutB (cutA (great s))).size ≤ 1000000 := by have := cutB_size (cutA (great s)); unfold great at *; omega
  have zC : (cutB (great s)).size ≤ 1000000 := by have := cutB_size (great s); unfold great at *; omega
  have HN4 := Lib.hid (fun w => text_number (cutA (cutA (great s))) 4 w (by omega) (by omega))
  have HN2 := Lib.hid (fun w => text_number (cutB (great s)) 2 w (by omega) (by omega))
  have HCo := Lib.hid (fun w => code_Read_any (cutB (cutA (great s))) cn cl ok w zB hc)
  clear hc g1 g2 c1
  rw [h4] at HN4
  clear h4
  subst ho
  generalize numVal (cutA (cutA (great s))).data.toList 4 = yv at *
  generalize numVal (cutB (great s)).data.toList 2 = dv at *
  try generalize numOk (cutA (cutA (great s))).data.toList 4 = o4 at *
  try generalize numOk (cutB (great s)).data.toList 2 = o2 at *
  generalize greatB 109 77 s = s1 at *
  generalize cutA (cutA (great s)) = tA at *
  generalize cutB (cutA (great s)) = tB at *
  generalize cutB (great s) = tC at *
  generalize great s = s2 at *
  clear zA zB zC
  go_enter Tryz.func15, Tryz.ntmps15
  go_wp2_with fail
  have hmA := MaxAt.below hm (ba w (.cells #[.int .i64 0, .int .i64 0, .bool false, .int .i64 0] 25))
  refine (HR1.out _ hmA).mono ?_
  rintro e w1 ⟨rfl, hb1⟩
  obtain ⟨hc1, hf1⟩ := bcell hb1
  have hz1 := hb1.size
  try simp at hz1
  have hs1x0 : w.heap.size < w1.heap.size := by omega
  have g1x0 : w1.cell? ⟨w.heap.size, 0, none⟩ = some (.int .i64 0) := (hc1 _ _ (by first | omega | (simp; done) | (simp; omega))).trans (by first | (with_reducible assumption) | (simp [go_sem]; done) | (simp [go_sem, *]; done) | assumption)
  have g1x1 : w1.cell? ⟨w.heap.size, 1, none⟩ = some (.int .i64 0) := (hc1 _ _ (by first | omega | (simp; done) | (simp; omega))).trans (by first | (with_reducible assumption) | (simp [go_sem]; done) | (simp [go_sem, *]; done) | assumption)
  have g1x2 : w1.cell? ⟨w.heap.size, 2, none⟩ = some (.bool false) := (hc1 _ _ (by first | omega | (simp; done) | (simp; omega))).trans (by first | (with_reducible assumption) | (simp [go_sem]; done) | (simp [go_sem, *]; done) | assumption)
  have g1x3 : w1.cell? ⟨w.heap.size, 3, none⟩ = some (.int .i64 0) := (hc1 _ _ (by first | omega | (simp; done) | (simp; omega))).trans (by first | (with_reducible assumption) | (simp [go_sem]; done) | (simp [go_sem, *]; done) | assumption)
  go_wp2_with fail
  refine (HR2.out _ (MaxAt.below hmA hb1)).mono ?_
  rintro e w2 ⟨rfl, hb2⟩
  obtain ⟨hc2, hf2⟩ := bcell hb2
  have hz2 := hb2.size
  try simp at hz2
  have hs2x0 : w.heap.size < w2.heap.size := by omega
  have g2x0 : w2.cell? ⟨w.heap.size, 0, none⟩ = some (.int .i64 0) := (hc2 _ _ (by first | omega | (simp; done) | (simp; omega))).trans (by first | (with_reducible assumption) | (simp [go_sem]; done) | (simp [go_sem, *]; done) | assumption)
  have g2x1 : w2.cell? ⟨w.heap.size, 1, none⟩ = some (.int .i64 0) := (hc2 _ _ (by first | omega | (simp; done) | (simp; omega))).trans (by first | (with_reducible assumption) | (simp [go_sem]; done) | (simp [go_sem, *]; done) | assumption)
  have g2x2 : w2.cell? ⟨w.heap.size, 2, none⟩ = some (.bool false) := (hc2 _ _ (by first | omega | (simp; done) | (simp; omega))).trans (by first | (with_reducible assumption) | (simp [go_sem]; done) | (simp [go_sem, *]; done) | assumption)
  have g2x3 : w2.cell? ⟨w.heap.size, 3, none⟩ = some (.int .i64 0) := (hc2 _ _ (by first | omega | (simp; done) | (simp; omega))).trans (by first | (with_reducible assumption) | (simp [go_sem]; done) | (simp [go_sem, *]; done) | assumption)
  go_wp2_with fail
  refine (HP.out _).mono ?_
  rintro e w3 ⟨rfl, hb3⟩
  obtain ⟨hc3, hf3⟩ := bcell hb3
  have hz3 := hb3.size
  try simp at hz3
  have hs3x0 : w.heap.size < w3.heap.size := by omega
  have g3x0 : w3.cell? ⟨w.heap.size, 0, none⟩ = some (.int .i64 0) := (hc3 _ _ (by first | omega | (simp; done) | (simp; omega))).trans (by first | (with_reducible assumption) | (simp [go_sem]; done) | (simp [go_sem, *]; done) | assumption)
  have g3x1 : w3.cell? ⟨w.heap.size, 1, none⟩ = some (.int .i64 0) := (hc3 _ _ (by first | omega | (simp; done) | (simp; omega))).trans (by first | (with_reducible assumption) | (simp [go_sem]; done) | (simp [go_sem, *]; done) | assumption)
  have g3x2 : w3.cell? ⟨w.heap.size, 2, none⟩ = some (.bool false) := (hc3 _ _ (by first | omega | (simp; done) | (simp; omega))).trans (by first | (with_reducible assumption) | (simp [go_sem]; done) | (simp [go_sem, *]; done) | assumption)
  have g3x3 : w3.cell? ⟨w.heap.size, 3, none⟩ = some (.int .i64 0) := (hc3 _ _ (by first | omega | (simp; done) | (simp; omega))).trans (by first | (with_reducible assumption) | (simp [go_sem]; done) | (simp [go_sem, *]; done) | assumption)
  go_wp2_with fail
  refine (HN4.out _).mono ?_
  rintro e w' ⟨rfl, rfl⟩
  go_wp2_with fail
  refine (HCo.out _).mono ?_
  rintro e w4 ⟨rfl, hb4⟩
  obtain ⟨hc4, hf4⟩ := bcell hb4
  have hz4 := hb4.size
  try simp at hz4
  have hs4x0 : w.heap.size < w4.heap.size := by omega
  have g4x0 : w4.cell? ⟨w.heap.size, 0, none⟩ = some (.int .i64 0) := (hc4 _ _ (by first | omega | (simp; done) | (simp; omega))).trans (by first | (with_reducible assumption) | (simp [go_sem]; done) | (simp [go_sem, *]; done) | assumption)
  have g4x1 : w4.cell? ⟨w.heap.size, 1, none⟩ = some (.int .i64 0) := (hc4 _ _ (by first | omega | (simp; done) | (simp; omega))).trans (by first | (with_reducible assumption) | (simp [go_sem]; done) | (simp [go_sem, *]; done) | assumption)
  have g4x2 : w4.cell? ⟨w.heap.size, 2, none⟩ = some (.bool false) := (hc4 _ _ (by first | omega | (simp; done) | (simp; omega))).trans (by first | (with_reducible assumption) | (simp [go_sem]; done) | (simp [go_sem, *]; done) | assumption)
  have g4x3 : w4.cell? ⟨w.heap.size, 3, none⟩ = some (.int .i64 0) := (hc4 _ _ (by first | omega | (simp; done) | (simp; omega))).trans (by first | (with_reducible assumption) | (simp [go_sem]; done) | (simp [go_sem, *]; done) | assumption)
  go_wp2_with fail
  refine (HN2.out _).mono ?_
  rintro e w' ⟨rfl, rfl⟩
  go_wp2_with fail
  refine bodyPost_ret (v := .tuple #[.agg #[.int .i64 (0), .int .i64 (0), .bool (false), .int .i64 (0)], .int .i64 (5)]) (by simp [results, Tryz.results15, go_sem, *]) rfl ⟨rfl, ?_⟩
  repeat (first | (with_reducible exact Below.refl _ _) | (with_reducible assumption) | (with_reducible refine bdrew ?_) | (with_reducible refine baa ?_ _) | (with_reducible refine bs ?_ (by first | exact Nat.le_refl _ | omega | (simp; done) | (simp; omega)) _) | (with_reducible refine bt ?_ (by with_reducible assumption)))
set_option maxHeartbeats 4000000 in
theorem text_ReadHeb_d (s : ByteArray) (cn : Int) (cl ok : Bool) (m : Int) (hs : s.size ≤ 1000000) (w : World) (hT : Tab w 8 kevCells) (hL : Tab w 6 lenCells) (hm : MaxAt w m) (hc : IsCode (cutB (cutA (great s))) cn cl ok) (h4 : numOk (cutA (cutA (great s))).data.toList 4 = true) (ho : ok = true) (h2 : numOk (cutB (great s)).data.toList 2 = false) :
    Calls Tryz.prog 15 #[.string s] w fun e w' => e = .returned (.tuple #[.agg #[.int .i64 (0), .int .i64 (0), .bool (false), .int .i64 (0)], .int .i64 (5)]) ∧ Below w.heap.size w w' := by
  have g1 := greatB_size 109 77 s
  have g2 := greatB_size 108 76 (greatB 109 77 s)
  have c1 := cutA_size (great s)
  have HR1 := Lib.hid (fun w hm => replaceAll_byte 109 77 (by decide) s m w hs hm)
  have HR2 := Lib.hid (fun w hm => replaceAll_byte 108 76 (by decide) (greatB 109 77 s) m w (by omega) hm)
  have HP := Lib.hid (fun w => text_part (great s) w (by unfold great; omega))
  rw [show greatB 108 76 (greatB 109 77 s) = great s from rfl] at HR2
  have zA : (cutA (cutA (great s))).size ≤ 1000000 := by have := cutA_size (cutA (great s)); unfold great at *; omega
  have zB : (cutB (cutA (great s))).size ≤ 1000000 := by have := cutB_size (cutA (great s)); unfold great at *; omega
  have zC : (cutB (great s)).size ≤ 1000000 := by have := cutB_size (great s); unfold great at *; omega
  have HN4 := Lib.hid (fun w => text_number (cutA (cutA (great s))) 4 w (by omega) (by omega))
  have HN2 := Lib.hid (fun w => text_number (cutB (great s)) 2 w (by omega) (by omega))
  have HCo := Lib.hid (fun w => code_Read_any (cutB (cutA (great s))) cn cl ok w zB hc)
  clear hc g1 g2 c1
  rw [h4] at HN4
  rw [h2] at HN2
  clear h4 h2
  subst ho
  generalize numVal (cutA (cutA (great s))).data.toList 4 = yv at *
  generalize numVal (cutB (great s)).data.toList 2 = dv at *
  try generalize numOk (cutA (cutA (great s))).data.toList 4 = o4 at *
  try generalize numOk (cutB (great s)).data.toList 2 = o2 at *
  generalize greatB 109 77 s = s1 at *
  generalize cutA (cutA (great s)) = tA at *
  generalize cutB (cutA (great s)) = tB at *
  generalize cutB (great s) = tC at *
  generalize great s = s2 at *
  clear zA zB zC
  go_enter Tryz.func15, Tryz.ntmps15
  go_wp2_with fail
  have hmA := MaxAt.below hm (ba w (.cells #[.int .i64 0, .int .i64 0, .bool false, .int .i64 0] 25))
  refine (HR1.out _ hmA).mono ?_
  rintro e w1 ⟨rfl, hb1⟩
  obtain ⟨hc1, hf1⟩ := bcell hb1
  have hz1 := hb1.size
  try simp at hz1
  have hs1x0 : w.heap.size < w1.heap.size := by omega
  have g1x0 : w1.cell? ⟨w.heap.size, 0, none⟩ = some (.int .i64 0) := (hc1 _ _ (by first | omega | (simp; done) | (simp; omega))).trans (by first | (with_reducible assumption) | (simp [go_sem]; done) | (simp [go_sem, *]; done) | assumption)
  have g1x1 : w1.cell? ⟨w.heap.size, 1, none⟩ = some (.int .i64 0) := (hc1 _ _ (by first | omega | (simp; done) | (simp; omega))).trans (by first | (with_reducible assumption) | (simp [go_sem]; done) | (simp [go_sem, *]; done) | assumption)
  have g1x2 : w1.cell? ⟨w.heap.size, 2, none⟩ = some (.bool false) := (hc1 _ _ (by first | omega | (simp; done) | (simp; omega))).trans (by first | (with_reducible assumption) | (simp [go_sem]; done) | (simp [go_sem, *]; done) | assumption)
  have g1x3 : w1.cell? ⟨w.heap.size, 3, none⟩ = some (.int .i64 0) := (hc1 _ _ (by first | omega | (simp; done) | (simp; omega))).trans (by first | (with_reducible assumption) | (simp [go_sem]; done) | (simp [go_sem, *]; done) | assumption)
  go_wp2_with fail
  refine (HR2.out _ (MaxAt.below hmA hb1)).mono ?_
  rintro e w2 ⟨rfl, hb2⟩
  obtain ⟨hc2, hf2⟩ := bcell hb2
  have hz2 := hb2.size
  try simp at hz2
  have hs2x0 : w.heap.size < w2.heap.size := by omega
  have g2x0 : w2.cell? ⟨w.heap.size, 0, none⟩ = some (.int .i64 0) := (hc2 _ _ (by first | omega | (simp; done) | (simp; omega))).trans (by first | (with_reducible assumption) | (simp [go_sem]; done) | (simp [go_sem, *]; done) | assumption)
  have g2x1 : w2.cell? ⟨w.heap.size, 1, none⟩ = some (.int .i64 0) := (hc2 _ _ (by first | omega | (simp; done) | (simp; omega))).trans (by first | (with_reducible assumption) | (simp [go_sem]; done) | (simp [go_sem, *]; done) | assumption)
  have g2x2 : w2.cell? ⟨w.heap.size, 2, none⟩ = some (.bool false) := (hc2 _ _ (by first | omega | (simp; done) | (simp; omega))).trans (by first | (with_reducible assumption) | (simp [go_sem]; done) | (simp [go_sem, *]; done) | assumption)
  have g2x3 : w2.cell? ⟨w.heap.size, 3, none⟩ = some (.int .i64 0) := (hc2 _ _ (by first | omega | (simp; done) | (simp; omega))).trans (by first | (with_reducible assumption) | (simp [go_sem]; done) | (simp [go_sem, *]; done) | assumption)
  go_wp2_with fail
  refine (HP.out _).mono ?_
  rintro e w3 ⟨rfl, hb3⟩
  obtain ⟨hc3, hf3⟩ := bcell hb3
  have hz3 := hb3.size
  try simp at hz3
  have hs3x0 : w.heap.size < w3.heap.size := by omega
  have g3x0 : w3.cell? ⟨w.heap.size, 0, none⟩ = some (.int .i64 0) := (hc3 _ _ (by first | omega | (simp; done) | (simp; omega))).trans (by first | (with_reducible assumption) | (simp [go_sem]; done) | (simp [go_sem, *]; done) | assumption)
  have g3x1 : w3.cell? ⟨w.heap.size, 1, none⟩ = some (.int .i64 0) := (hc3 _ _ (by first | omega | (simp; done) | (simp; omega))).trans (by first | (with_reducible assumption) | (simp [go_sem]; done) | (simp [go_sem, *]; done) | assumption)
  have g3x2 : w3.cell? ⟨w.heap.size, 2, none⟩ = some (.bool false) := (hc3 _ _ (by first | omega | (simp; done) | (simp; omega))).trans (by first | (with_reducible assumption) | (simp [go_sem]; done) | (simp [go_sem, *]; done) | assumption)
  have g3x3 : w3.cell? ⟨w.heap.size, 3, none⟩ = some (.int .i64 0) := (hc3 _ _ (by first | omega | (simp; done) | (simp; omega))).trans (by first | (with_reducible assumption) | (simp [go_sem]; done) | (simp [go_sem, *]; done) | assumption)
  go_wp2_with fail
  refine (HN4.out _).mono ?_
  rintro e w' ⟨rfl, rfl⟩
  go_wp2_with fail
  refine (HCo.out _).mono ?_
  rintro e w4 ⟨rfl, hb4⟩
  obtain ⟨hc4, hf4⟩ := bcell hb4
  have hz4 := hb4.size
  try simp at hz4
  have hs4x0 : w.heap.size < w4.heap.size := by omega
  have g4x0 : w4.cell? ⟨w.heap.size, 0, none⟩ = some (.int .i64 0) := (hc4 _ _ (by first | omega | (simp; done) | (simp; omega))).trans (by first | (with_reducible assumption) | (simp [go_sem]; done) | (simp [go_sem, *]; done) | assumption)
  have g4x1 : w4.cell? ⟨w.heap.size, 1, none⟩ = some (.int .i64 0) := (hc4 _ _ (by first | omega | (simp; done) | (simp; omega))).trans (by first | (with_reducible assumption) | (simp [go_sem]; done) | (simp [go_sem, *]; done) | assumption)
  have g4x2 : w4.cell? ⟨w.heap.size, 2, none⟩ = some (.bool false) := (hc4 _ _ (by first | omega | (simp; done) | (simp; omega))).trans (by first | (with_reducible assumption) | (simp [go_sem]; done) | (simp [go_sem, *]; done) | assumption)
  have g4x3 : w4.cell? ⟨w.heap.size, 3, none⟩ = some (.int .i64 0) := (hc4 _ _ (by first | omega | (simp; done) | (simp; omega))).trans (by first | (with_reducible assumption) | (simp [go_sem]; done) | (simp [go_sem, *]; done) | assumption)
  go_wp2_with fail
  refine (HN2.out _).mono ?_
  rintro e w' ⟨rfl, rfl⟩
  go_wp2_with fail
  refine bodyPost_ret (v := .tuple #[.agg #[.int .i64 (0), .int .i64 (0), .bool (false), .int .i64 (0)], .int .i64 (5)]) (by simp [results, Tryz.results15, go_sem, *]) rfl ⟨rfl, ?_⟩
  repeat (first | (with_reducible exact Below.refl _ _) | (with_reducible assumption) | (with_reducible refine bdrew ?_) | (with_reducible refine baa ?_ _) | (with_reducible refine bs ?_ (by first | exact Nat.le_refl _ | omega | (simp; done) | (simp; omega)) _) | (with_reducible refine bt ?_ (by with_reducible assumption)))
set_option maxHeartbeats 4000000 in
theorem text_ReadHeb_range (s : ByteArray) (cn : Int) (cl ok : Bool) (m : Int) (hs : s.size ≤ 1000000) (w : World) (hT : Tab w 8 kevCells) (hL : Tab w 6 lenCells) (hm : MaxAt w m) (hc : IsCode (cutB (cutA (great s))) cn cl ok) (h4 : numOk (cutA (cutA (great s))).data.toList 4 = true) (ho : ok = true) (h2 : numOk (cutB (great s)).data.toList 2 = true) (h0 : ¬ D10.dateE (numVal (cutA (cutA (great s))).data.toList 4) cn cl (numVal (cutB (great s)).data.toList 2) = 0) :
    Calls Tryz.prog 15 #[.string s] w fun e w' => e = .returned (.tuple #[.agg #[.int .i64 (0), .int .i64 (0), .bool (false), .int .i64 (0)], .int .i64 (2)]) ∧ Below w.heap.size w w' := by
  have g1 := greatB_size 109 77 s
  have g2 := greatB_size 108 76 (greatB 109 77 s)
  have c1 := cutA_size (great s)
  have HR1 := Lib.hid (fun w hm => replaceAll_byte 109 77 (by decide) s m w hs hm)
  have HR2 := Lib.hid (fun w hm => replaceAll_byte 108 76 (by decide) (greatB 109 77 s) m w (by omega) hm)
  have HP := Lib.hid (fun w => text_part (great s) w (by unfold great; omega))
  rw [show greatB 108 76 (greatB 109 77 s) = great s from rfl] at HR2
  have zA : (cutA (cutA (great s))).size ≤ 1000000 := by have := cutA_size (cutA (great s)); unfold great at *; omega
  have zB : (cutB (cutA (great s))).size ≤ 1000000 := by have := cutB_size (cutA (great s)); unfold great at *; omega
  have zC : (cutB (great s)).size ≤ 1000000 := by have := cutB_size (great s); unfold great at *; omega
  have HN4 := Lib.hid (fun w => text_number (cutA (cutA (great s))) 4 w (by omega) (by omega))
  have HN2 := Lib.hid (fun w => text_number (cutB (great s)) 2 w (by omega) (by omega))
  have HCo := Lib.hid (fun w => code_Read_any (cutB (cutA (great s))) cn cl ok w zB hc)
  clear hc g1 g2 c1
  have hI := numVal_bd (cutA (cutA (great s))).data.toList 4
  have HCk := Lib.hid (fun w hT hL => heb_Check (numVal (cutA (cutA (great s))).data.toList 4) cn cl (numVal (cutB (great s)).data.toList 2) w ⟨by omega, by omega⟩ hT hL)
  rw [h4] at HN4
  rw [h2] at HN2
  clear h4 h2 hI
  subst ho
  have hne : (D10.dateE (numVal (cutA (cutA (great s))).data.toList 4) cn cl (numVal (cutB (great s)).data.toList 2) != 0) = true := by simpa using h0
  clear h0
  generalize D10.dateE (numVal (cutA (cutA (great s))).data.toList 4) cn cl (numVal (cutB (great s)).data.toList 2) = de at *
  generalize numVal (cutA (cutA (great s))).data.toList 4 = yv at *
  generalize numVal (cutB (great s)).data.toList 2 = dv at *
  try generalize numOk (cutA (cutA (great s))).data.toList 4 = o4 at *
  try generalize numOk (cutB (great s)).data.toList 2 = o2 at *
  generalize greatB 109 77 s = s1 at *
  generalize cutA (cutA (great s)) = tA at *
  generalize cutB (cutA (great s)) = tB at *
  generalize cutB (great s) = tC at *
  generalize great s = s2 at *
  clear zA zB zC
  go_enter Tryz.func15, Tryz.ntmps15
  go_wp2_with fail
  have hmA := MaxAt.below hm (ba w (.cells #[.int .i64 0, .int .i64 0, .bool false, .int .i64 0] 25))
  refine (HR1.out _ hmA).mono ?_
  rintro e w1 ⟨rfl, hb1⟩
  obtain ⟨hc1, hf1⟩ := bcell hb1
  have hz1 := hb1.size
  try simp at hz1
  have hs1x0 : w.heap.size < w1.heap.size := by omega
  have g1x0 : w1.cell? ⟨w.heap.size, 0, none⟩ = some (.int .i64 0) := (hc1 _ _ (by first | omega | (simp; done) | (simp; omega))).trans (by first | (with_reducible assumption) | (simp [go_sem]; done) | (simp [go_sem, *]; done) | assumption)
  have g1x1 : w1.cell? ⟨w.heap.size, 1, none⟩ = some (.int .i64 0) := (hc1 _ _ (by first | omega | (simp; done) | (simp; omega))).trans (by first | (with_reducible assumption) | (simp [go_sem]; done) | (simp [go_sem, *]; done) | assumption)
  have g1x2 : w1.cell? ⟨w.heap.size, 2, none⟩ = some (.bool false) := (hc1 _ _ (by first | omega | (simp; done) | (simp; omega))).trans (by first | (with_reducible assumption) | (simp [go_sem]; done) | (simp [go_sem, *]; done) | assumption)
  have g1x3 : w1.cell? ⟨w.heap.size, 3, none⟩ = some (.int .i64 0) := (hc1 _ _ (by first | omega | (simp; done) | (simp; omega))).trans (by first | (with_reducible assumption) | (simp [go_sem]; done) | (simp [go_sem, *]; done) | assumption)
  go_wp2_with fail
  refine (HR2.out _ (MaxAt.below hmA hb1)).mono ?_
  rintro e w2 ⟨rfl, hb2⟩
  obtain ⟨hc2, hf2⟩ := bcell hb2
  have hz2 := hb2.size
  try simp at hz2
  have hs2x0 : w.heap.size < w2.heap.size := by omega
  have g2x0 : w2.cell? ⟨w.heap.size, 0, none⟩ = some (.int .i64 0) := (hc2 _ _ (by first | omega | (simp; done) | (simp; omega))).trans (by first | (with_reducible assumption) | (simp [go_sem]; done) | (simp [go_sem, *]; done) | assumption)
  have g2x1 : w2.cell? ⟨w.heap.size, 1, none⟩ = some (.int .i64 0) := (hc2 _ _ (by first | omega | (simp; done) | (simp; omega))).trans (by first | (with_reducible assumption) | (simp [go_sem]; done) | (simp [go_sem, *]; done) | assumption)
  have g2x2 : w2.cell? ⟨w.heap.size, 2, none⟩ = some (.bool false) := (hc2 _ _ (by first | omega | (simp; done) | (simp; omega))).trans (by first | (with_reducible assumption) | (simp [go_sem]; done) | (simp [go_sem, *]; done) | assumption)
  have g2x3 : w2.cell? ⟨w.heap.size, 3, none⟩ = some (.int .i64 0) := (hc2 _ _ (by first | omega | (simp; done) | (simp; omega))).trans (by first | (with_reducible assumption) | (simp [go_sem]; done) | (simp [go_sem, *]; done) | assumption)
  go_wp2_with fail
  refine (HP.out _).mono ?_
  rintro e w3 ⟨rfl, hb3⟩
  obtain ⟨hc3, hf3⟩ := bcell hb3
  have hz3 := hb3.size
  try simp at hz3
  have hs3x0 : w.heap.size < w3.heap.size := by omega
  have g3x0 : w3.cell? ⟨w.heap.size, 0, none⟩ = some (.int .i64 0) := (hc3 _ _ (by first | omega | (simp; done) | (simp; omega))).trans (by first | (with_reducible assumption) | (simp [go_sem]; done) | (simp [go_sem, *]; done) | assumption)
  have g3x1 : w3.cell? ⟨w.heap.size, 1, none⟩ = some (.int .i64 0) := (hc3 _ _ (by first | omega | (simp; done) | (simp; omega))).trans (by first | (with_reducible assumption) | (simp [go_sem]; done) | (simp [go_sem, *]; done) | assumption)
  have g3x2 : w3.cell? ⟨w.heap.size, 2, none⟩ = some (.bool false) := (hc3 _ _ (by first | omega | (simp; done) | (simp; omega))).trans (by first | (with_reducible assumption) | (simp [go_sem]; done) | (simp [go_sem, *]; done) | assumption)
  have g3x3 : w3.cell? ⟨w.heap.size, 3, none⟩ = some (.int .i64 0) := (hc3 _ _ (by first | omega | (simp; done) | (simp; omega))).trans (by first | (with_reducible assumption) | (simp [go_sem]; done) | (simp [go_sem, *]; done) | assumption)
  go_wp2_with fail
  refine (HN4.out _).mono ?_
  rintro e w' ⟨rfl, rfl⟩
  go_wp2_with fail
  refine (HCo.out _).mono ?_
  rintro e w4 ⟨rfl, hb4⟩
  obtain ⟨hc4, hf4⟩ := bcell hb4
  have hz4 := hb4.size
  try simp at hz4
  have hs4x0 : w.heap.size < w4.heap.size := by omega
  have g4x0 : w4.cell? ⟨w.heap.size, 0, none⟩ = some (.int .i64 0) := (hc4 _ _ (by first | omega | (simp; done) | (simp; omega))).trans (by first | (with_reducible assumption) | (simp [go_sem]; done) | (simp [go_sem, *]; done) | assumption)
  have g4x1 : w4.cell? ⟨w.heap.size, 1, none⟩ = some (.int .i64 0) := (hc4 _ _ (by first | omega | (simp; done) | (simp; omega))).trans (by first | (with_reducible assumption) | (simp [go_sem]; done) | (simp [go_sem, *]; done) | assumption)
  have g4x2 : w4.cell? ⟨w.heap.size, 2, none⟩ = some (.bool false) := (hc4 _ _ (by first | omega | (simp; done) | (simp; omega))).trans (by first | (with_reducible assumption) | (simp [go_sem]; done) | (simp [go_sem, *]; done) | assumption)
  have g4x3 : w4.cell? ⟨w.heap.size, 3, none⟩ = some (.int .i64 0) := (hc4 _ _ (by first | omega | (simp; done) | (simp; omega))).trans (by first | (with_reducible assumption) | (simp [go_sem]; done) | (simp [go_sem, *]; done) | assumption)
  go_wp2_with fail
  refine (HN2.out _).mono ?_
  rintro e w' ⟨rfl, rfl⟩
  go_wp2_with fail
  have hq5 : w.heap.size < w4.heap.size + 1 + 1 := by omega
  refine (HCk.out _ (Tab.below hT (by repeat (first | (with_reducible exact Below.refl _ _) | (with_reducible assumption) | (with_reducible refine bdrew ?_) | (with_reducible refine baa ?_ _) | (with_reducible refine bs ?_ (by first | exact Nat.le_refl _ | omega | (simp; done) | (simp; omega)) _) | (with_reducible refine bt ?_ (by with_reducible assumption))))) (Tab.below hL (by repeat (first | (with_reducible exact Below.refl _ _) | (with_reducible assumption) | (with_reducible refine bdrew ?_) | (with_reducible refine baa ?_ _) | (with_reducible refine bs ?_ (by first | exact Nat.le_refl _ | omega | (simp; done) | (simp; omega)) _) | (with_reducible refine bt ?_ (by with_reducible assumption)))))).mono ?_
  rintro e w5 ⟨rfl, hb5⟩
  obtain ⟨hc5, hf5⟩ := bcell hb5
  have hz5 := hb5.size
  try simp at hz5
  have hs5x0 : w.heap.size < w5.heap.size := by omega
  have hs5x1 : (w4.heap.size + 1) < w5.heap.size := by omega
  have g5x0 : w5.cell? ⟨w.heap.size, 0, none⟩ = some (.int .i64 0) := (hc5 _ _ (by first | omega | (simp; done) | (simp; omega))).trans (by first | (with_reducible assumption) | (simp [go_sem]; done) | (simp [go_sem, *]; done) | assumption)
  have g5x1 : w5.cell? ⟨w.heap.size, 1, none⟩ = some (.int .i64 0) := (hc5 _ _ (by first | omega | (simp; done) | (simp; omega))).trans (by first | (with_reducible assumption) | (simp [go_sem]; done) | (simp [go_sem, *]; done) | assumption)
  have g5x2 : w5.cell? ⟨w.heap.size, 2, none⟩ = some (.bool false) := (hc5 _ _ (by first | omega | (simp; done) | (simp; omega))).trans (by first | (with_reducible assumption) | (simp [go_sem]; done) | (simp [go_sem, *]; done) | assumption)
  have g5x3 : w5.cell? ⟨w.heap.size, 3, none⟩ = some (.int .i64 0) := (hc5 _ _ (by first | omega | (simp; done) | (simp; omega))).trans (by first | (with_reducible assumption) | (simp [go_sem]; done) | (simp [go_sem, *]; done) | assumption)
  have g5x4 : w5.cell? ⟨(w4.heap.size + 1), 0, none⟩ = some (.int .i64 yv) := (hc5 _ _ (by first | omega | (simp; done) | (simp; omega))).trans (by first | (with_reducible assumption) | (simp [go_sem]; done) | (simp [go_sem, *]; done) | assumption)
  have g5x5 : w5.cell? ⟨(w4.heap.size + 1), 1, none⟩ = some (.int .i64 cn) := (hc5 _ _ (by first | omega | (simp; done) | (simp; omega))).trans (by first | (with_reducible assumption) | (simp [go_sem]; done) | (simp [go_sem, *]; done) | assumption)
  have g5x6 : w5.cell? ⟨(w4.heap.size + 1), 2, none⟩ = some (.bool cl) := (hc5 _ _ (by first | omega | (simp; done) | (simp; omega))).trans (by first | (with_reducible assumption) | (simp [go_sem]; done) | (simp [go_sem, *]; done) | assumption)
  have g5x7 : w5.cell? ⟨(w4.heap.size + 1), 3, none⟩ = some (.int .i64 dv) := (hc5 _ _ (by first | omega | (simp; done) | (simp; omega))).trans (by first | (with_reducible assumption) | (simp [go_sem]; done) | (simp [go_sem, *]; done) | assumption)
  go_wp2_with fail
  clear hc5
  refine bodyPost_ret (v := .tuple #[.agg #[.int .i64 (0), .int .i64 (0), .bool (false), .int .i64 (0)], .int .i64 (2)]) (by simp [results, Tryz.results15, go_sem, *]) rfl ⟨rfl, ?_⟩
  repeat (first | (with_reducible exact Below.refl _ _) | (with_reducible assumption) | (with_reducible refine bdrew ?_) | (with_reducible refine baa ?_ _) | (with_reducible refine bs ?_ (by first | exact Nat.le_refl _ | omega | (simp; done) | (simp; omega)) _) | (with_reducible refine bt ?_ (by with_reducible assumption)))
set_option maxHeartbeats 4000000 in
theorem text_ReadHeb_ok (s : ByteArray) (cn : Int) (cl ok : Bool) (m : Int) (hs : s.size ≤ 1000000) (w : World) (hT : Tab w 8 kevCells) (hL : Tab w 6 lenCells) (hm : MaxAt w m) (hc : IsCode (cutB (cutA (great s))) cn cl ok) (h4 : numOk (cutA (cutA (great s))).data.toList 4 = true) (ho : ok = true) (h2 : numOk (cutB (great s)).data.toList 2 = true) (h0 : D10.dateE (numVal (cutA (cutA (great s))).data.toList 4) cn cl (numVal (cutB (great s)).data.toList 2) = 0) :
    Calls Tryz.prog 15 #[.string s] w fun e w' => e = .returned (.tuple #[.agg #[.int .i64 (numVal (cutA (cutA (great s))).data.toList 4), .int .i64 (cn), .bool (cl), .int .i64 (numVal (cutB (great s)).data.toList 2)], .int .i64 (0)]) ∧ Below w.heap.size w w' := by
  have g1 := greatB_size 109 77 s
  have g2 := greatB_size 108 76 (greatB 109 77 s)
  have c1 := cutA_size (great s)
  have HR1 := Lib.hid (fun w hm => replaceAll_byte 109 77 (by decide) s m w hs hm)
  have HR2 := Lib.hid (fun w hm => replaceAll_byte 108 76 (by decide) (greatB 109 77 s) m w (by omega) hm)
  have HP := Lib.hid (fun w => text_part (great s) w (by unfold great; omega))
  rw [show greatB 108 76 (greatB 109 77 s) = great s from rfl] at HR2
  have zA : (cutA (cutA (great s))).size ≤ 1000000 := by have := cutA_size (cutA (great s)); unfold great at *; omega
  have zB : (cutB (cutA (great s))).size ≤ 1000000 := by have := cutB_size (cutA (great s)); unfold great at *; omega
  have zC : (cutB (great s)).size ≤ 1000000 := by have := cutB_size (great s); unfold great at *; omega
  have HN4 := Lib.hid (fun w => text_number (cutA (cutA (great s))) 4 w (by omega) (by omega))
  have HN2 := Lib.hid (fun w => text_number (cutB (great s)) 2 w (by omega) (by omega))
  have HCo := Lib.hid (fun w => code_Read_any (cutB (cutA (great s))) cn cl ok w zB hc)
  clear hc g1 g2 c1
  have hI := numVal_bd (cutA (cutA (great s))).data.toList 4
  have HCk := Lib.hid (fun w hT hL => heb_Check (numVal (cutA (cutA (great s))).data.toList 4) cn cl (numVal (cutB (great s)).data.toList 2) w ⟨by omega, by omega⟩ hT hL)
  rw [h4] at HN4
  rw [h2] at HN2
  clear h4 h2 hI
  subst ho
  rw [h0] at HCk
  clear h0
  generalize numVal (cutA (cutA (great s))).data.toList 4 = yv at *
  generalize numVal (cutB (great s)).data.toList 2 = dv at *
  try generalize numOk (cutA (cutA (great s))).data.toList 4 = o4 at *
  try generalize numOk (cutB (great s)).data.toList 2 = o2 at *
  generalize greatB 109 77 s = s1 at *
  generalize cutA (cutA (great s)) = tA at *
  generalize cutB (cutA (great s)) = tB at *
  generalize cutB (great s) = tC at *
  generalize great s = s2 at *
  clear zA zB zC
  go_enter Tryz.func15, Tryz.ntmps15
  go_wp2_with fail
  have hmA := MaxAt.below hm (ba w (.cells #[.int .i64 0, .int .i64 0, .bool false, .int .i64 0] 25))
  refine (HR1.out _ hmA).mono ?_
  rintro e w1 ⟨rfl, hb1⟩
  obtain ⟨hc1, hf1⟩ := bcell hb1
  have hz1 := hb1.size
  try simp at hz1
  have hs1x0 : w.heap.size < w1.heap.size := by omega
  have g1x0 : w1.cell? ⟨w.heap.size, 0, none⟩ = some (.int .i64 0) := (hc1 _ _ (by first | omega | (simp; done) | (simp; omega))).trans (by first | (with_reducible assumption) | (simp [go_sem]; done) | (simp [go_sem, *]; done) | assumption)
  have g1x1 : w1.cell? ⟨w.heap.size, 1, none⟩ = some (.int .i64 0) := (hc1 _ _ (by first | omega | (simp; done) | (simp; omega))).trans (by first | (with_reducible assumption) | (simp [go_sem]; done) | (simp [go_sem, *]; done) | assumption)
  have g1x2 : w1.cell? ⟨w.heap.size, 2, none⟩ = some (.bool false) := (hc1 _ _ (by first | omega | (simp; done) | (simp; omega))).trans (by first | (with_reducible assumption) | (simp [go_sem]; done) | (simp [go_sem, *]; done) | assumption)
  have g1x3 : w1.cell? ⟨w.heap.size, 3, none⟩ = some (.int .i64 0) := (hc1 _ _ (by first | omega | (simp; done) | (simp; omega))).trans (by first | (with_reducible assumption) | (simp [go_sem]; done) | (simp [go_sem, *]; done) | assumption)
  go_wp2_with fail
  refine (HR2.out _ (MaxAt.below hmA hb1)).mono ?_
  rintro e w2 ⟨rfl, hb2⟩
  obtain ⟨hc2, hf2⟩ := bcell hb2
  have hz2 := hb2.size
  try simp at hz2
  have hs2x0 : w.heap.size < w2.heap.size := by omega
  have g2x0 : w2.cell? ⟨w.heap.size, 0, none⟩ = some (.int .i64 0) := (hc2 _ _ (by first | omega | (simp; done) | (simp; omega))).trans (by first | (with_reducible assumption) | (simp [go_sem]; done) | (simp [go_sem, *]; done) | assumption)
  have g2x1 : w2.cell? ⟨w.heap.size, 1, none⟩ = some (.int .i64 0) := (hc2 _ _ (by first | omega | (simp; done) | (simp; omega))).trans (by first | (with_reducible assumption) | (simp [go_sem]; done) | (simp [go_sem, *]; done) | assumption)
  have g2x2 : w2.cell? ⟨w.heap.size, 2, none⟩ = some (.bool false) := (hc2 _ _ (by first | omega | (simp; done) | (simp; omega))).trans (by first | (with_reducible assumption) | (simp [go_sem]; done) | (simp [go_sem, *]; done) | assumption)
  have g2x3 : w2.cell? ⟨w.heap.size, 3, none⟩ = some (.int .i64 0) := (hc2 _ _ (by first | omega | (simp; done) | (simp; omega))).trans (by first | (with_reducible assumption) | (simp [go_sem]; done) | (simp [go_sem, *]; done) | assumption)
  go_wp2_with fail
  refine (HP.out _).mono ?_
  rintro e w3 ⟨rfl, hb3⟩
  obtain ⟨hc3, hf3⟩ := bcell hb3
  have hz3 := hb3.size
  try simp at hz3
  have hs3x0 : w.heap.size < w3.heap.size := by omega
  have g3x0 : w3.cell? ⟨w.heap.size, 0, none⟩ = some (.int .i64 0) := (hc3 _ _ (by first | omega | (simp; done) | (simp; omega))).trans (by first | (with_reducible assumption) | (simp [go_sem]; done) | (simp [go_sem, *]; done) | assumption)
  have g3x1 : w3.cell? ⟨w.heap.size, 1, none⟩ = some (.int .i64 0) := (hc3 _ _ (by first | omega | (simp; done) | (simp; omega))).trans (by first | (with_reducible assumption) | (simp [go_sem]; done) | (simp [go_sem, *]; done) | assumption)
  have g3x2 : w3.cell? ⟨w.heap.size, 2, none⟩ = some (.bool false) := (hc3 _ _ (by first | omega | (simp; done) | (simp; omega))).trans (by first | (with_reducible assumption) | (simp [go_sem]; done) | (simp [go_sem, *]; done) | assumption)
  have g3x3 : w3.cell? ⟨w.heap.size, 3, none⟩ = some (.int .i64 0) := (hc3 _ _ (by first | omega | (simp; done) | (simp; omega))).trans (by first | (with_reducible assumption) | (simp [go_sem]; done) | (simp [go_sem, *]; done) | assumption)
  go_wp2_with fail
  refine (HN4.out _).mono ?_
  rintro e w' ⟨rfl, rfl⟩
  go_wp2_with fail
  refine (HCo.out _).mono ?_
  rintro e w4 ⟨rfl, hb4⟩
  obtain ⟨hc4, hf4⟩ := bcell hb4
  have hz4 := hb4.size
  try simp at hz4
  have hs4x0 : w.heap.size < w4.heap.size := by omega
  have g4x0 : w4.cell? ⟨w.heap.size, 0, none⟩ = some (.int .i64 0) := (hc4 _ _ (by first | omega | (simp; done) | (simp; omega))).trans (by first | (with_reducible assumption) | (simp [go_sem]; done) | (simp [go_sem, *]; done) | assumption)
  have g4x1 : w4.cell? ⟨w.heap.size, 1, none⟩ = some (.int .i64 0) := (hc4 _ _ (by first | omega | (simp; done) | (simp; omega))).trans (by first | (with_reducible assumption) | (simp [go_sem]; done) | (simp [go_sem, *]; done) | assumption)
  have g4x2 : w4.cell? ⟨w.heap.size, 2, none⟩ = some (.bool false) := (hc4 _ _ (by first | omega | (simp; done) | (simp; omega))).trans (by first | (with_reducible assumption) | (simp [go_sem]; done) | (simp [go_sem, *]; done) | assumption)
  have g4x3 : w4.cell? ⟨w.heap.size, 3, none⟩ = some (.int .i64 0) := (hc4 _ _ (by first | omega | (simp; done) | (simp; omega))).trans (by first | (with_reducible assumption) | (simp [go_sem]; done) | (simp [go_sem, *]; done) | assumption)
  go_wp2_with fail
  refine (HN2.out _).mono ?_
  rintro e w' ⟨rfl, rfl⟩
  go_wp2_with fail
  have hq5 : w.heap.size < w4.heap.size + 1 + 1 := by omega
  refine (HCk.out _ (Tab.below hT (by repeat (first | (with_reducible exact Below.refl _ _) | (with_reducible assumption) | (with_reducible refine bdrew ?_) | (with_reducible refine baa ?_ _) | (with_reducible refine bs ?_ (by first | exact Nat.le_refl _ | omega | (simp; done) | (simp; omega)) _) | (with_reducible refine bt ?_ (by with_reducible assumption))))) (Tab.below hL (by repeat (first | (with_reducible exact Below.refl _ _) | (with_reducible assumption) | (with_reducible refine bdrew ?_) | (with_reducible refine baa ?_ _) | (with_reducible refine bs ?_ (by first | exact Nat.le_refl _ | omega | (simp; done) | (simp; omega)) _) | (with_reducible refine bt ?_ (by with_reducible assumption)))))).mono ?_
  rintro e w5 ⟨rfl, hb5⟩
  obtain ⟨hc5, hf5⟩ := bcell hb5
  have hz5 := hb5.size
  try simp at hz5
  have hs5x0 : w.heap.size < w5.heap.size := by omega
  have hs5x1 : (w4.heap.size + 1) < w5.heap.size := by omega
  have g5x0 : w5.cell? ⟨w.heap.size, 0, none⟩ = some (.int .i64 0) := (hc5 _ _ (by first | omega | (simp; done) | (simp; omega))).trans (by first | (with_reducible assumption) | (simp [go_sem]; done) | (simp [go_sem, *]; done) | assumption)
  have g5x1 : w5.cell? ⟨w.heap.size, 1, none⟩ = some (.int .i64 0) := (hc5 _ _ (by first | omega | (simp; done) | (simp; omega))).trans (by first | (with_reducible assumption) | (simp [go_sem]; done) | (simp [go_sem, *]; done) | assumption)
  have g5x2 : w5.cell? ⟨w.heap.size, 2, none⟩ = some (.bool false) := (hc5 _ _ (by first | omega | (simp; done) | (simp; omega))).trans (by first | (with_reducible assumption) | (simp [go_sem]; done) | (simp [go_sem, *]; done) | assumption)
  have g5x3 : w5.cell? ⟨w.heap.size, 3, none⟩ = some (.int .i64 0) := (hc5 _ _ (by first | omega | (simp; done) | (simp; omega))).trans (by first | (with_reducible assumption) | (simp [go_sem]; done) | (simp [go_sem, *]; done) | assumption)
  have g5x4 : w5.cell? ⟨(w4.heap.size + 1), 0, none⟩ = some (.int .i64 yv) := (hc5 _ _ (by first | omega | (simp; done) | (simp; omega))).trans (by first | (with_reducible assumption) | (simp [go_sem]; done) | (simp [go_sem, *]; done) | assumption)
  have g5x5 : w5.cell? ⟨(w4.heap.size + 1), 1, none⟩ = some (.int .i64 cn) := (hc5 _ _ (by first | omega | (simp; done) | (simp; omega))).trans (by first | (with_reducible assumption) | (simp [go_sem]; done) | (simp [go_sem, *]; done) | assumption)
  have g5x6 : w5.cell? ⟨(w4.heap.size + 1), 2, none⟩ = some (.bool cl) := (hc5 _ _ (by first | omega | (simp; done) | (simp; omega))).trans (by first | (with_reducible assumption) | (simp [go_sem]; done) | (simp [go_sem, *]; done) | assumption)
  have g5x7 : w5.cell? ⟨(w4.heap.size + 1), 3, none⟩ = some (.int .i64 dv) := (hc5 _ _ (by first | omega | (simp; done) | (simp; omega))).trans (by first | (with_reducible assumption) | (simp [go_sem]; done) | (simp [go_sem, *]; done) | assumption)
  go_wp2_with fail
  clear hc5
  refine bodyPost_ret (v := .tuple #[.agg #[.int .i64 (yv), .int .i64 (cn), .bool (cl), .int .i64 (dv)], .int .i64 (0)]) (by simp [results, Tryz.results15, go_sem, *]) rfl ⟨rfl, ?_⟩
  repeat (first | (with_reducible exact Below.refl _ _) | (with_reducible assumption) | (with_reducible refine bdrew ?_) | (with_reducible refine baa ?_ _) | (with_reducible refine bs ?_ (by first | exact Nat.le_refl _ | omega | (simp; done) | (simp; omega)) _) | (with_reducible refine bt ?_ (by with_reducible assumption)))
def rhE (s : ByteArray) (cn : Int) (cl ok : Bool) : Int := if (numOk (cutA (cutA (great s))).data.toList 4 && (ok && numOk (cutB (great s)).data.toList 2)) = true then (if D10.dateE (numVal (cutA (cutA (great s))).data.toList 4) cn cl (numVal (cutB (great s)).data.toList 2) = 0 then 0 else 2) else 5
def rhY (s : ByteArray) (cn : Int) (cl ok : Bool) : Int := if rhE s cn cl ok = 0 then numVal (cutA (cutA (great s))).data.toList 4 else 0
def rhN (s : ByteArray) (cn : Int) (cl ok : Bool) : Int := if rhE s cn cl ok = 0 then cn else 0
def rhL (s : ByteArray) (cn : Int) (cl ok : Bool) : Bool := if rhE s cn cl ok = 0 then cl else false
def rhD (s : ByteArray) (cn : Int) (cl ok : Bool) : Int := if rhE s cn cl ok = 0 then numVal (cutB (great s)).data.toList 2 else 0
theorem text_ReadHeb (s : ByteArray) (cn : Int) (cl ok : Bool) (m : Int) (hs : s.size ≤ 1000000) (w : World) (hT : Tab w 8 kevCells) (hL : Tab w 6 lenCells) (hm : MaxAt w m) (hc : IsCode (cutB (cutA (great s))) cn cl ok) :
    Calls Tryz.prog 15 #[.string s] w fun e w' => e = .returned (.tuple #[.agg #[.int .i64 (rhY s cn cl ok), .int .i64 (rhN s cn cl ok), .bool (rhL s cn cl ok), .int .i64 (rhD s cn cl ok)], .int .i64 (rhE s cn cl ok)]) ∧ Below w.heap.size w w' := by
  have bad : ∀ E : Int, rhE s cn cl ok = E → ¬ E = 0 → rhY s cn cl ok = 0 ∧ rhN s cn cl ok = 0 ∧ rhL s cn cl ok = false ∧ rhD s cn cl ok = 0 := by
    intro E e h
    have h' : ¬ rhE s cn cl ok = 0 := by rw [e]; exact h
    unfold rhY rhN rhL rhD
    rw [if_neg h', if_neg h', if_neg h', if_neg h']
    exact ⟨rfl, rfl, rfl, rfl⟩
  cases h4 : numOk (cutA (cutA (great s))).data.toList 4 with
  | false =>
    have e : rhE s cn cl ok = 5 := by unfold rhE; rw [h4]; rfl
    obtain ⟨e1, e2, e3, e4⟩ := bad 5 e (by omega)
    rw [e, e1, e2, e3, e4]
    exact text_ReadHeb_y s cn cl ok m hs w hT hL hm hc h4
  | true =>
    cases ho : ok with
    | false =>
      subst ho
      have e : rhE s cn cl false = 5 := by unfold rhE; rw [h4]; rfl
      obtain ⟨e1, e2, e3, e4⟩ := bad 5 e (by omega)
      rw [e, e1, e2, e3, e4]
      exact text_ReadHeb_c s cn cl false m hs w hT hL hm hc h4 rfl
    | true =>
      subst ho
      cases h2 : numOk (cutB (great s)).data.toList 2 with
      | false =>
        have e : rhE s cn cl true = 5 := by unfold rhE; rw [h4, h2]; rfl
        obtain ⟨e1, e2, e3, e4⟩ := bad 5 e (by omega)
        rw [e, e1, e2, e3, e4]
        exact text_ReadHeb_d s cn cl true m hs w hT hL hm hc h4 rfl h2
      | true =>
        by_cases h0 : D10.dateE (numVal (cutA (cutA (great s))).data.toList 4) cn cl (numVal (cutB (great s)).data.toList 2) = 0
        · have e : rhE s cn cl true = 0 := by unfold rhE; rw [h4, h2, if_pos (show (true && (true && true)) = true from rfl), if_pos h0]
          unfold rhY rhN rhL rhD
          rw [if_pos e, if_pos e, if_pos e, if_pos e, e]
          exact text_ReadHeb_ok s cn cl true m hs w hT hL hm hc h4 rfl h2 h0
        · have e : rhE s cn cl true = 2 := by unfold rhE; rw [h4, h2, if_pos (show (true && (true && true)) = true from rfl), if_neg h0]
          obtain ⟨e1, e2, e3, e4⟩ := bad 2 e (by omega)
          rw [e, e1, e2, e3, e4]
          exact text_ReadHeb_range s cn cl true m hs w hT hL hm hc h4 rfl h2 h0
end Go.Proofs.YtafenpgafmdenaaGreatDoor
/- Layer 13: the order of Hebrew dates' texts. -/
namespace Go.Proofs.YtafenpgafmdenaaGreatDoor
open Go.ChangeShapes Go.WideShapes Go.ChangeAt Go.RowKit
set_option linter.unusedVariables false
set_option maxRecDepth 100000
namespace D13
def P (u v : Int) (X : Bool) : Bool := decide (u < v) || (decide (u = v) && X)
theorem P_comb (q r q' r' : Int) (X : Bool) (h1 : 0 ≤ r) (h2 : r < 10) (h3 : 0 ≤ r') (h4 : r' < 10) : P q q' (P r r' X) = P (10 * q + r) (10 * q' + r') X := by
  cases X <;> simp only [P, Bool.and_false, Bool.and_true, Bool.or_false] <;> rw [Bool.eq_iff_iff] <;> simp <;> omega
theorem P_add (c u v : Int) (X : Bool) : P (c + u) (c + v) X = P u v X := by
  cases X <;> simp only [P, Bool.and_false, Bool.and_true, Bool.or_false] <;> rw [Bool.eq_iff_iff] <;> simp <;> omega
theorem bl (a b : Nat) (x y : List UInt8) (ha : a < 256) (hb : b < 256) : Op.bytesLess (UInt8.ofNat a :: x) (UInt8.ofNat b :: y) = P (a : Int) (b : Int) (Op.bytesLess x y) := by
  have e1 : (UInt8.ofNat a).toNat = a := by simp; omega
  have e2 : (UInt8.ofNat b).toNat = b := by simp; omega
  have k1 : decide (UInt8.ofNat a < UInt8.ofNat b) = decide ((a : Int) < (b : Int)) := by
    rw [decide_eq_decide, UInt8.lt_iff_toNat_lt, e1, e2]; omega
  have k2 : (UInt8.ofNat a == UInt8.ofNat b) = decide ((a : Int) = (b : Int)) := by
    rw [Bool.eq_iff_iff]
    simp only [beq_iff_eq, decide_eq_true_eq]
    rw [← UInt8.toNat_inj, e1, e2]; omega
  simp only [Op.bytesLess, P, k1, k2]
theorem bl_same (c : UInt8) (x y : List UInt8) : Op.bytesLess (c :: x) (c :: y) = Op.bytesLess x y := by simp [Op.bytesLess]
theorem bl_refl : ∀ x : List UInt8, Op.bytesLess x x = false
  | [] => rfl
  | c :: x => by rw [bl_same]; exact bl_refl x
theorem bl_lt (x y : List UInt8) : Op.bytesLess (45 :: x) (76 :: y) = true := by simp [Op.bytesLess]
theorem bl_gt (x y : List UInt8) : Op.bytesLess (76 :: x) (45 :: y) = false := by simp [Op.bytesLess]
def B (n p : Int) : UInt8 := UInt8.ofNat (digB n p).toNat
theorem bl_dig (n m p : Int) (x y : List UInt8) : Op.bytesLess (B n p :: x) (B m p :: y) = P (n / p % 10) (m / p % 10) (Op.bytesLess x y) := by
  have h1 := digB_bd n p
  have h2 := digB_bd m p
  unfold B
  rw [bl _ _ _ _ (by omega) (by omega), Int.toNat_of_nonneg (by omega), Int.toNat_of_nonneg (by omega)]
  exact P_add 48 _ _ _
theorem bl_num2 (n m : Nat) (hn : n < 100) (hm : m < 100) (x y : List UInt8) : Op.bytesLess (UInt8.ofNat (48 + n / 10) :: UInt8.ofNat (48 + n % 10) :: x) (UInt8.ofNat (48 + m / 10) :: UInt8.ofNat (48 + m % 10) :: y) = P (n : Int) (m : Int) (Op.bytesLess x y) := by
  rw [bl _ _ _ _ (by omega) (by omega), bl _ _ _ _ (by omega) (by omega)]
  rw [show ((48 + n / 10 : Nat) : Int) = 48 + (n : Int) / 10 by omega, show ((48 + m / 10 : Nat) : Int) = 48 + (m : Int) / 10 by omega, show ((48 + n % 10 : Nat) : Int) = 48 + (n : Int) % 10 by omega, show ((48 + m % 10 : Nat) : Int) = 48 + (m : Int) % 10 by omega, P_add, P_add, P_comb _ _ _ _ _ (by omega) (by omega) (by omega) (by omega)]
  rw [show 10 * ((n : Int) / 10) + (n : Int) % 10 = n by omega, show 10 * ((m : Int) / 10) + (m : Int) % 10 = m by omega]
theorem bl_d2 (n m : Int) (h1 : 0 ≤ n) (h2 : n < 100) (h3 : 0 ≤ m) (h4 : m < 100) (x y : List UInt8) : Op.bytesLess (B n 10 :: B n 1 :: x) (B m 10 :: B m 1 :: y) = P n m (Op.bytesLess x y) := by
  rw [bl_dig, bl_dig, P_comb _ _ _ _ _ (by omega) (by omega) (by omega) (by omega)]
  rw [show 10 * (n / 10 % 10) + n / 1 % 10 = n by omega, show 10 * (m / 10 % 10) + m / 1 % 10 = m by omega]
theorem bl_d4 (n m : Int) (h1 : 0 ≤ n) (h2 : n < 10000) (h3 : 0 ≤ m) (h4 : m < 10000) (x y : List UInt8) : Op.bytesLess (B n 1000 :: B n 100 :: B n 10 :: B n 1 :: x) (B m 1000 :: B m 100 :: B m 10 :: B m 1 :: y) = P n m (Op.bytesLess x y) := by
  rw [bl_dig, bl_dig, bl_dig, bl_dig, P_comb _ _ _ _ _ (by omega) (by omega) (by omega) (by omega)]
  rw [show 10 * (n / 1000 % 10) + n / 100 % 10 = n / 100 by omega, show 10 * (m / 1000 % 10) + m / 100 % 10 = m / 100 by omega, P_comb _ _ _ _ _ (by omega) (by omega) (by omega) (by omega)]
  rw [show 10 * (n / 100) + n / 10 % 10 = n / 10 by omega, show 10 * (m / 100) + m / 10 % 10 = m / 10 by omega, P_comb _ _ _ _ _ (by omega) (by omega) (by omega) (by omega)]
  rw [show 10 * (n / 10) + n / 1 % 10 = n by omega, show 10 * (m / 10) + m / 1 % 10 = m by omega]
theorem heb_list (y n : Int) (l : Bool) (d : Int) (h : Cal.right n l = true) : (hebTxt y n l d).toList = B y 1000 :: B y 100 :: B y 10 :: B y 1 :: 45 :: 77 :: UInt8.ofNat (48 + n.toNat / 10) :: UInt8.ofNat (48 + n.toNat % 10) :: ((if l then [76] else []) ++ [45, B d 10, B d 1]) := by
  rw [Lib.toList_data]
  unfold hebTxt txtV codeTxt
  rw [h]
  cases l <;> simp [digs, B]
theorem right_bd {n : Int} {l : Bool} (h : Cal.right n l = true) : 1 ≤ n ∧ n ≤ 12 := by simp [Cal.right] at h; omega
theorem order {y n d z k f : Int} {l h : Bool} (h1 : D10.dateE y n l d = 0) (h2 : D10.dateE z k h f = 0) : Op.bytesLess (hebTxt y n l d).toList (hebTxt z k h f).toList = D10.lessD y n l d z k h f := by
  obtain ⟨⟨a1, a2, a3, a4, a5, a6⟩, a7⟩ := D10.date_valid h1
  obtain ⟨⟨b1, b2, b3, b4, b5, b6⟩, b7⟩ := D10.date_valid h2
  have a8 := (D10.len_bd y _ a1 a2 a3 a4).2
  have b8 := (D10.len_bd z _ b1 b2 b3 b4).2
  have r1 : Cal.right n l = true := by simp [Cal.plOk] at a7; exact a7.1
  have r2 : Cal.right k h = true := by simp [Cal.plOk] at b7; exact b7.1
  have n1 := right_bd r1
  have n2 := right_bd r2
  rw [heb_list _ _ _ _ r1, heb_list _ _ _ _ r2, bl_d4 _ _ (by omega) (by omega) (by omega) (by omega), bl_same, bl_same, bl_num2 _ _ (by omega) (by omega), Int.toNat_of_nonneg (by omega), Int.toNat_of_nonneg (by omega)]
  have e : Op.bytesLess ((if l then [76] else []) ++ [45, B d 10, B d 1]) ((if h then [76] else []) ++ [45, B f 10, B f 1]) = if l = h then decide (d < f) else (!l && h) := by
    have q : Op.bytesLess [B d 10, B d 1] [B f 10, B f 1] = decide (d < f) := by
      rw [bl_d2 _ _ (by omega) (by omega) (by omega) (by omega)]; simp [P, Op.bytesLess]
    cases l <;> cases h
    · simp only [Bool.false_eq_true, if_false, List.nil_append, if_true, bl_same]; exact q
    · exact bl_lt _ _
    · exact bl_gt _ _
    · show Op.bytesLess (76 :: 45 :: [B d 10, B d 1]) (76 :: 45 :: [B f 10, B f 1]) = _
      rw [bl_same, bl_same, q]; rfl
  rw [e]
  unfold D10.lessD Cal.lessV P
  by_cases c1 : y = z
  · by_cases c2 : n = k
    · by_cases c3 : l = h <;> simp [c1, c2, c3]
    · simp [c1, c2]
  · simp [c1]
theorem alike {y n d z k f : Int} {l h : Bool} (h1 : D10.dateE y n l d = 0) (h2 : D10.dateE z k h f = 0) : ((hebTxt y n l d).toList == (hebTxt z k h f).toList) = decide (y = z ∧ n = k ∧ l = h ∧ d = f) := by
  by_cases c : y = z ∧ n = k ∧ l = h ∧ d = f
  · obtain ⟨rfl, rfl, rfl, rfl⟩ := c
    simp
  · have e : ¬ (hebTxt y n l d).toList = (hebTxt z k h f).toList := fun e => by
      have p := order h1 h2
      have q := order h2 h1
      rw [e, bl_refl, D10.less_day h1 h2] at p
      rw [e, bl_refl, D10.less_day h2 h1] at q
      have p := (decide_eq_false_iff_not.1 p.symm)
      have q := (decide_eq_false_iff_not.1 q.symm)
      exact c (D10.same_day h1 h2 (by omega))
    rw [decide_eq_false c]
    simpa using e
end D13
end Go.Proofs.YtafenpgafmdenaaGreatDoor
