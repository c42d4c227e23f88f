/- Layer 13: a Hebrew date, read. -/
import Derived.Test.YtmiadhiomingmaaDoorText3
import Derived.Test.YtmiadhiomingmaaDoorCodeT2
import Derived.Test.YtmiadhiomingmaaDoorRep
import Derived.Test.YtmiadhiomingmaaDoorFlat
import Derived.LoopTactic
namespace Go.Proofs.YtmiadhiomingmaaDoor
open Go.ChangeShapes Go.WideShapes Go.ChangeAt Go.RowKit
set_option linter.unusedVariables false
set_option maxRecDepth 100000
/-- The library's variable MaxLen lies in memory. -/
def MaxAt (w : World) (m : Int) : Prop := w.cell? ⟨2, 0, none⟩ = some (.int .i64 m) ∧ 2 < w.heap.size
theorem MaxAt.below {a b : World} {m : Int} (h : MaxAt a m) (hb : Below a.heap.size a b) : MaxAt b m := ⟨(hb.cell (p := ⟨2, 0, none⟩) h.2).trans h.1, Nat.lt_of_lt_of_le h.2 hb.size⟩
def greatB (a b : UInt8) (s : ByteArray) : ByteArray := ⟨(s.data.toList.map (Rep.sub a b)).toArray⟩
theorem greatB_size (a b : UInt8) (s : ByteArray) : (greatB a b s).size = s.size := by
  show ((s.data.toList.map (Rep.sub a b)).toArray).size = s.data.size
  simp
theorem replaceAll_byte (a b : UInt8) (h : ¬ a = b) (s : ByteArray) (m : Int) (w : World) (hs : s.size ≤ 1000000) (hm : MaxAt w m) :
    Calls Tryd.prog 65 #[.string s, .string ⟨#[a]⟩, .string ⟨#[b]⟩] w fun e w' => e = .returned (.string (greatB a b s)) ∧ Below w.heap.size w w' := by
  have hc : Go.Lib.countB s ⟨#[a]⟩ ≤ s.size := Rep.count_le a s.data.toList
  have := Tryd.strings_ReplaceAll s ⟨#[a]⟩ ⟨#[b]⟩ m w (by omega) hm.1 (show 1 ≤ 1 from Nat.le_refl 1) (by
    show s.size + Go.Lib.countB s ⟨#[a]⟩ * 1 ≤ 140737488355328
    omega)
  rw [show Go.Lib.replaceAll s.data.toList (⟨#[a]⟩ : ByteArray).data.toList (⟨#[b]⟩ : ByteArray).data.toList = s.data.toList.map (Rep.sub a b) from Rep.replaceAll_one a b h _] at this
  exact this
def great (s : ByteArray) : ByteArray := greatB 108 76 (greatB 109 77 s)
theorem numVal_bd (l : List UInt8) (M : Nat) : 0 ≤ numVal l M ∧ numVal l M < 10 ^ M := by
  unfold numVal
  by_cases h : numOk l M = true
  · rw [if_pos h]
    unfold numOk at h
    simp only [Bool.and_eq_true, decide_eq_true_eq] at h
    have := numFold_bd l h.2
    rw [h.1] at this
    exact this
  · rw [if_neg h]
    exact ⟨Int.le_refl _, Int.pow_pos (by omega)⟩
theorem cutB_size (s : ByteArray) : (cutB s).size ≤ s.size := by
  unfold cutB
  split
  · exact Nat.le_refl _
  · simp
set_option maxHeartbeats 4000000 in
theorem text_ReadHeb_y (s : ByteArray) (cn : Int) (cl ok : Bool) (m : Int) (hs : s.size ≤ 1000000) (w : World) (hT : Tab w 8 kevCells) (hL : Tab w 5 lenCells) (hm : MaxAt w m) (hc : IsCode (cutB (cutA (great s))) cn cl ok) (h4 : numOk (cutA (cutA (great s))).data.toList 4 = false) :
    Calls Tryd.prog 33 #[.string s] w fun e w' => e = .returned (.tuple #[.agg #[.int .i64 (0), .int .i64 (0), .bool (false), .int .i64 (0)], .int .i64 (5)]) ∧ Below w.heap.size w w' := by
  have g1 := greatB_size 109 77 s
  have g2 := greatB_size 108 76 (greatB 109 77 s)
  have c1 := cutA_size (great s)
  have HR1 := Lib.hid (fun w hm => replaceAll_byte 109 77 (by decide) s m w hs hm)
  have HR2 := Lib.hid (fun w hm => replaceAll_byte 108 76 (by decide) (greatB 109 77 s) m w (by omega) hm)
  have HP := Lib.hid (fun w => text_part (great s) w (by unfold great; omega))
  rw [show greatB 108 76 (greatB 109 77 s) = great s from rfl] at HR2
  have zA : (cutA (cutA (great s))).size ≤ 1000000 := by have := cutA_size (cutA (great s)); unfold great at *; omega
  have zB : (cutB (cutA (great s))).size ≤ 1000000 := by have := cutB_size (cutA (great s)); unfold great at *; omega
  have zC : (cutB (great s)).size ≤ 1000000 := by have := cutB_size (great s); unfold great at *; omega
  have HN4 := Lib.hid (fun w => text_number (cutA (cutA (great s))) 4 w (by omega) (by omega))
  have HN2 := Lib.hid (fun w => text_number (cutB (great s)) 2 w (by omega) (by omega))
  have HCo := Lib.hid (fun w => code_Read_any (cutB (cutA (great s))) cn cl ok w zB hc)
  clear hc g1 g2 c1
  rw [h4] at HN4
  clear h4
  generalize numVal (cutA (cutA (great s))).data.toList 4 = yv at *
  generalize numVal (cutB (great s)).data.toList 2 = dv at *
  try generalize numOk (cutA (cutA (great s))).data.toList 4 = o4 at *
  try generalize numOk (cutB (great s)).data.toList 2 = o2 at *
  generalize greatB 109 77 s = s1 at *
  generalize cutA (cutA (great s)) = tA at *
  generalize cutB (cutA (great s)) = tB at *
  generalize cutB (great s) = tC at *
  generalize great s = s2 at *
  clear zA zB zC
  go_enter Tryd.func33, Tryd.ntmps33
  go_wp2_with fail
  have hmA := MaxAt.below hm (ba w (.cells #[.int .i64 0, .int .i64 0, .bool false, .int .i64 0] 25))
  refine (HR1.out _ hmA).mono ?_
  rintro e w1 ⟨rfl, hb1⟩
  obtain ⟨hc1, hf1⟩ := bcell hb1
  have hz1 := hb1.size
  try simp at hz1
  have hs1x0 : w.heap.size < w1.heap.size := by omega
  have g1x0 : w1.cell? ⟨w.heap.size, 0, none⟩ = some (.int .i64 0) := (hc1 _ _ (by first | omega | (simp; done) | (simp; omega))).trans (by first | (with_reducible assumption) | (simp [go_sem]; done) | (simp [go_sem, *]; done) | assumption)
  have g1x1 : w1.cell? ⟨w.heap.size, 1, none⟩ = some (.int .i64 0) := (hc1 _ _ (by first | omega | (simp; done) | (simp; omega))).trans (by first | (with_reducible assumption) | (simp [go_sem]; done) | (simp [go_sem, *]; done) | assumption)
  have g1x2 : w1.cell? ⟨w.heap.size, 2, none⟩ = some (.bool false) := (hc1 _ _ (by first | omega | (simp; done) | (simp; omega))).trans (by first | (with_reducible assumption) | (simp [go_sem]; done) | (simp [go_sem, *]; done) | assumption)
  have g1x3 : w1.cell? ⟨w.heap.size, 3, none⟩ = some (.int .i64 0) := (hc1 _ _ (by first | omega | (simp; done) | (simp; omega))).trans (by first | (with_reducible assumption) | (simp [go_sem]; done) | (simp [go_sem, *]; done) | assumption)
  go_wp2_with fail
  refine (HR2.out _ (MaxAt.below hmA hb1)).mono ?_
  rintro e w2 ⟨rfl, hb2⟩
  obtain ⟨hc2, hf2⟩ := bcell hb2
  have hz2 := hb2.size
  try simp at hz2
  have hs2x0 : w.heap.size < w2.heap.size := by omega
  have g2x0 : w2.cell? ⟨w.heap.size, 0, none⟩ = some (.int .i64 0) := (hc2 _ _ (by first | omega | (simp; done) | (simp; omega))).trans (by first | (with_reducible assumption) | (simp [go_sem]; done) | (simp [go_sem, *]; done) | assumption)
  have g2x1 : w2.cell? ⟨w.heap.size, 1, none⟩ = some (.int .i64 0) := (hc2 _ _ (by first | omega | (simp; done) | (simp; omega))).trans (by first | (with_reducible assumption) | (simp [go_sem]; done) | (simp [go_sem, *]; done) | assumption)
  have g2x2 : w2.cell? ⟨w.heap.size, 2, none⟩ = some (.bool false) := (hc2 _ _ (by first | omega | (simp; done) | (simp; omega))).trans (by first | (with_reducible assumption) | (simp [go_sem]; done) | (simp [go_sem, *]; done) | assumption)
  have g2x3 : w2.cell? ⟨w.heap.size, 3, none⟩ = some (.int .i64 0) := (hc2 _ _ (by first | omega | (simp; done) | (simp; omega))).trans (by first | (with_reducible assumption) | (simp [go_sem]; done) | (simp [go_sem, *]; done) | assumption)
  go_wp2_with fail
  refine (HP.out _).mono ?_
  rintro e w3 ⟨rfl, hb3⟩
  obtain ⟨hc3, hf3⟩ := bcell hb3
  have hz3 := hb3.size
  try simp at hz3
  have hs3x0 : w.heap.size < w3.heap.size := by omega
  have g3x0 : w3.cell? ⟨w.heap.size, 0, none⟩ = some (.int .i64 0) := (hc3 _ _ (by first | omega | (simp; done) | (simp; omega))).trans (by first | (with_reducible assumption) | (simp [go_sem]; done) | (simp [go_sem, *]; done) | assumption)
  have g3x1 : w3.cell? ⟨w.heap.size, 1, none⟩ = some (.int .i64 0) := (hc3 _ _ (by first | omega | (simp; done) | (simp; omega))).trans (by first | (with_reducible assumption) | (simp [go_sem]; done) | (simp [go_sem, *]; done) | assumption)
  have g3x2 : w3.cell? ⟨w.heap.size, 2, none⟩ = some (.bool false) := (hc3 _ _ (by first | omega | (simp; done) | (simp; omega))).trans (by first | (with_reducible assumption) | (simp [go_sem]; done) | (simp [go_sem, *]; done) | assumption)
  have g3x3 : w3.cell? ⟨w.heap.size, 3, none⟩ = some (.int .i64 0) := (hc3 _ _ (by first | omega | (simp; done) | (simp; omega))).trans (by first | (with_reducible assumption) | (simp [go_sem]; done) | (simp [go_sem, *]; done) | assumption)
  go_wp2_with fail
  refine (HN4.out _).mono ?_
  rintro e w' ⟨rfl, rfl⟩
  go_wp2_with fail
  refine (HCo.out _).mono ?_
  rintro e w4 ⟨rfl, hb4⟩
  obtain ⟨hc4, hf4⟩ := bcell hb4
  have hz4 := hb4.size
  try simp at hz4
  have hs4x0 : w.heap.size < w4.heap.size := by omega
  have g4x0 : w4.cell? ⟨w.heap.size, 0, none⟩ = some (.int .i64 0) := (hc4 _ _ (by first | omega | (simp; done) | (simp; omega))).trans (by first | (with_reducible assumption) | (simp [go_sem]; done) | (simp [go_sem, *]; done) | assumption)
  have g4x1 : w4.cell? ⟨w.heap.size, 1, none⟩ = some (.int .i64 0) := (hc4 _ _ (by first | omega | (simp; done) | (simp; omega))).trans (by first | (with_reducible assumption) | (simp [go_sem]; done) | (simp [go_sem, *]; done) | assumption)
  have g4x2 : w4.cell? ⟨w.heap.size, 2, none⟩ = some (.bool false) := (hc4 _ _ (by first | omega | (simp; done) | (simp; omega))).trans (by first | (with_reducible assumption) | (simp [go_sem]; done) | (simp [go_sem, *]; done) | assumption)
  have g4x3 : w4.cell? ⟨w.heap.size, 3, none⟩ = some (.int .i64 0) := (hc4 _ _ (by first | omega | (simp; done) | (simp; omega))).trans (by first | (with_reducible assumption) | (simp [go_sem]; done) | (simp [go_sem, *]; done) | assumption)
  go_wp2_with fail
  refine (HN2.out _).mono ?_
  rintro e w' ⟨rfl, rfl⟩
  go_wp2_with fail
  refine bodyPost_ret (v := .tuple #[.agg #[.int .i64 (0), .int .i64 (0), .bool (false), .int .i64 (0)], .int .i64 (5)]) (by simp [results, Tryd.results33, go_sem, *]) rfl ⟨rfl, ?_⟩
  repeat (first | (with_reducible exact Below.refl _ _) | (with_reducible assumption) | (with_reducible refine bdrew ?_) | (with_reducible refine baa ?_ _) | (with_reducible refine bs ?_ (by first | exact Nat.le_refl _ | omega | (simp; done) | (simp; omega)) _) | (with_reducible refine bt ?_ (by with_reducible assumption)))
set_option maxHeartbeats 4000000 in
theorem text_ReadHeb_c (s : ByteArray) (cn : Int) (cl ok : Bool) (m : Int) (hs : s.size ≤ 1000000) (w : World) (hT : Tab w 8 kevCells) (hL : Tab w 5 lenCells) (hm : MaxAt w m) (hc : IsCode (cutB (cutA (great s))) cn cl ok) (h4 : numOk (cutA (cutA (great s))).data.toList 4 = true) (ho : ok = false) :
    Calls Tryd.prog 33 #[.string s] w fun e w' => e = .returned (.tuple #[.agg #[.int .i64 (0), .int .i64 (0), .bool (false), .int .i64 (0)], .int .i64 (5)]) ∧ Below w.heap.size w w' := by
  have g1 := greatB_size 109 77 s
  have g2 := greatB_size 108 76 (greatB 109 77 s)
  have c1 := cutA_size (great s)
  have HR1 := Lib.hid (fun w hm => replaceAll_byte 109 77 (by decide) s m w hs hm)
  have HR2 := Lib.hid (fun w hm => replaceAll_byte 108 76 (by decide) (greatB 109 77 s) m w (by omega) hm)
  have HP := Lib.hid (fun w => text_part (great s) w (by unfold great; omega))
  rw [show greatB 108 76 (greatB 109 77 s) = great s from rfl] at HR2
  have zA : (cutA (cutA (great s))).size ≤ 1000000 := by have := cutA_size (cutA (great s)); unfold great at *; omega
  have zB : (cutB (cutA (great s))).size ≤ 1000000 := by have := cutB_size (cutA (great s)); unfold great at *; omega
  have zC : (cutB (great s)).size ≤ 1000000 := by have := cutB_size (great s); unfold great at *; omega
  have HN4 := Lib.hid (fun w => text_number (cutA (cutA (great s))) 4 w (by omega) (by omega))
  have HN2 := Lib.hid (fun w => text_number (cutB (great s)) 2 w (by omega) (by omega))
  have HCo := Lib.hid (fun w => code_Read_any (cutB (cutA (great s))) cn cl ok w zB hc)
  clear hc g1 g2 c1
  rw [h4] at HN4
  clear h4
  subst ho
  generalize numVal (cutA (cutA (great s))).data.toList 4 = yv at *
  generalize numVal (cutB (great s)).data.toList 2 = dv at *
  try generalize numOk (cutA (cutA (great s))).data.toList 4 = o4 at *
  try generalize numOk (cutB (great s)).data.toList 2 = o2 at *
  generalize greatB 109 77 s = s1 at *
  generalize cutA (cutA (great s)) = tA at *
  generalize cutB (cutA (great s)) = tB at *
  generalize cutB (great s) = tC at *
  generalize great s = s2 at *
  clear zA zB zC
  go_enter Tryd.func33, Tryd.ntmps33
  go_wp2_with fail
  have hmA := MaxAt.below hm (ba w (.cells #[.int .i64 0, .int .i64 0, .bool false, .int .i64 0] 25))
  refine (HR1.out _ hmA).mono ?_
  rintro e w1 ⟨rfl, hb1⟩
  obtain ⟨hc1, hf1⟩ := bcell hb1
  have hz1 := hb1.size
  try simp at hz1
  have hs1x0 : w.heap.size < w1.heap.size := by omega
  have g1x0 : w1.cell? ⟨w.heap.size, 0, none⟩ = some (.int .i64 0) := (hc1 _ _ (by first | omega | (simp; done) | (simp; omega))).trans (by first | (with_reducible assumption) | (simp [go_sem]; done) | (simp [go_sem, *]; done) | assumption)
  have g1x1 : w1.cell? ⟨w.heap.size, 1, none⟩ = some (.int .i64 0) := (hc1 _ _ (by first | omega | (simp; done) | (simp; omega))).trans (by first | (with_reducible assumption) | (simp [go_sem]; done) | (simp [go_sem, *]; done) | assumption)
  have g1x2 : w1.cell? ⟨w.heap.size, 2, none⟩ = some (.bool false) := (hc1 _ _ (by first | omega | (simp; done) | (simp; omega))).trans (by first | (with_reducible assumption) | (simp [go_sem]; done) | (simp [go_sem, *]; done) | assumption)
  have g1x3 : w1.cell? ⟨w.heap.size, 3, none⟩ = some (.int .i64 0) := (hc1 _ _ (by first | omega | (simp; done) | (simp; omega))).trans (by first | (with_reducible assumption) | (simp [go_sem]; done) | (simp [go_sem, *]; done) | assumption)
  go_wp2_with fail
  refine (HR2.out _ (MaxAt.below hmA hb1)).mono ?_
  rintro e w2 ⟨rfl, hb2⟩
  obtain ⟨hc2, hf2⟩ := bcell hb2
  have hz2 := hb2.size
  try simp at hz2
  have hs2x0 : w.heap.size < w2.heap.size := by omega
  have g2x0 : w2.cell? ⟨w.heap.size, 0, none⟩ = some (.int .i64 0) := (hc2 _ _ (by first | omega | (simp; done) | (simp; omega))).trans (by first | (with_reducible assumption) | (simp [go_sem]; done) | (simp [go_sem, *]; done) | assumption)
  have g2x1 : w2.cell? ⟨w.heap.size, 1, none⟩ = some (.int .i64 0) := (hc2 _ _ (by first | omega | (simp; done) | (simp; omega))).trans (by first | (with_reducible assumption) | (simp [go_sem]; done) | (simp [go_sem, *]; done) | assumption)
  have g2x2 : w2.cell? ⟨w.heap.size, 2, none⟩ = some (.bool false) := (hc2 _ _ (by first | omega | (simp; done) | (simp; omega))).trans (by first | (with_reducible assumption) | (simp [go_sem]; done) | (simp [go_sem, *]; done) | assumption)
  have g2x3 : w2.cell? ⟨w.heap.size, 3, none⟩ = some (.int .i64 0) := (hc2 _ _ (by first | omega | (simp; done) | (simp; omega))).trans (by first | (with_reducible assumption) | (simp [go_sem]; done) | (simp [go_sem, *]; done) | assumption)
  go_wp2_with fail
  refine (HP.out _).mono ?_
  rintro e w3 ⟨rfl, hb3⟩
  obtain ⟨hc3, hf3⟩ := bcell hb3
  have hz3 := hb3.size
  try simp at hz3
  have hs3x0 : w.heap.size < w3.heap.size := by omega
  have g3x0 : w3.cell? ⟨w.heap.size, 0, none⟩ = some (.int .i64 0) := (hc3 _ _ (by first | omega | (simp; done) | (simp; omega))).trans (by first | (with_reducible assumption) | (simp [go_sem]; done) | (simp [go_sem, *]; done) | assumption)
  have g3x1 : w3.cell? ⟨w.heap.size, 1, none⟩ = some (.int .i64 0) := (hc3 _ _ (by first | omega | (simp; done) | (simp; omega))).trans (by first | (with_reducible assumption) | (simp [go_sem]; done) | (simp [go_sem, *]; done) | assumption)
  have g3x2 : w3.cell? ⟨w.heap.size, 2, none⟩ = some (.bool false) := (hc3 _ _ (by first | omega | (simp; done) | (simp; omega))).trans (by first | (with_reducible assumption) | (simp [go_sem]; done) | (simp [go_sem, *]; done) | assumption)
  have g3x3 : w3.cell? ⟨w.heap.size, 3, none⟩ = some (.int .i64 0) := (hc3 _ _ (by first | omega | (simp; done) | (simp; omega))).trans (by first | (with_reducible assumption) | (simp [go_sem]; done) | (simp [go_sem, *]; done) | assumption)
  go_wp2_with fail
  refine (HN4.out _).mono ?_
  rintro e w' ⟨rfl, rfl⟩
  go_wp2_with fail
  refine (HCo.out _).mono ?_
  rintro e w4 ⟨rfl, hb4⟩
  obtain ⟨hc4, hf4⟩ := bcell hb4
  have hz4 := hb4.size
  try simp at hz4
  have hs4x0 : w.heap.size < w4.heap.size := by omega
  have g4x0 : w4.cell? ⟨w.heap.size, 0, none⟩ = some (.int .i64 0) := (hc4 _ _ (by first | omega | (simp; done) | (simp; omega))).trans (by first | (with_reducible assumption) | (simp [go_sem]; done) | (simp [go_sem, *]; done) | assumption)
  have g4x1 : w4.cell? ⟨w.heap.size, 1, none⟩ = some (.int .i64 0) := (hc4 _ _ (by first | omega | (simp; done) | (simp; omega))).trans (by first | (with_reducible assumption) | (simp [go_sem]; done) | (simp [go_sem, *]; done) | assumption)
  have g4x2 : w4.cell? ⟨w.heap.size, 2, none⟩ = some (.bool false) := (hc4 _ _ (by first | omega | (simp; done) | (simp; omega))).trans (by first | (with_reducible assumption) | (simp [go_sem]; done) | (simp [go_sem, *]; done) | assumption)
  have g4x3 : w4.cell? ⟨w.heap.size, 3, none⟩ = some (.int .i64 0) := (hc4 _ _ (by first | omega | (simp; done) | (simp; omega))).trans (by first | (with_reducible assumption) | (simp [go_sem]; done) | (simp [go_sem, *]; done) | assumption)
  go_wp2_with fail
  refine (HN2.out _).mono ?_
  rintro e w' ⟨rfl, rfl⟩
  go_wp2_with fail
  refine bodyPost_ret (v := .tuple #[.agg #[.int .i64 (0), .int .i64 (0), .bool (false), .int .i64 (0)], .int .i64 (5)]) (by simp [results, Tryd.results33, go_sem, *]) rfl ⟨rfl, ?_⟩
  repeat (first | (with_reducible exact Below.refl _ _) | (with_reducible assumption) | (with_reducible refine bdrew ?_) | (with_reducible refine baa ?_ _) | (with_reducible refine bs ?_ (by first | exact Nat.le_refl _ | omega | (simp; done) | (simp; omega)) _) | (with_reducible refine bt ?_ (by with_reducible assumption)))
set_option maxHeartbeats 4000000 in
theorem text_ReadHeb_d (s : ByteArray) (cn : Int) (cl ok : Bool) (m : Int) (hs : s.size ≤ 1000000) (w : World) (hT : Tab w 8 kevCells) (hL : Tab w 5 lenCells) (hm : MaxAt w m) (hc : IsCode (cutB (cutA (great s))) cn cl ok) (h4 : numOk (cutA (cutA (great s))).data.toList 4 = true) (ho : ok = true) (h2 : numOk (cutB (great s)).data.toList 2 = false) :
    Calls Tryd.prog 33 #[.string s] w fun e w' => e = .returned (.tuple #[.agg #[.int .i64 (0), .int .i64 (0), .bool (false), .int .i64 (0)], .int .i64 (5)]) ∧ Below w.heap.size w w' := by
  have g1 := greatB_size 109 77 s
  have g2 := greatB_size 108 76 (greatB 109 77 s)
  have c1 := cutA_size (great s)
  have HR1 := Lib.hid (fun w hm => replaceAll_byte 109 77 (by decide) s m w hs hm)
  have HR2 := Lib.hid (fun w hm => replaceAll_byte 108 76 (by decide) (greatB 109 77 s) m w (by omega) hm)
  have HP := Lib.hid (fun w => text_part (great s) w (by unfold great; omega))
  rw [show greatB 108 76 (greatB 109 77 s) = great s from rfl] at HR2
  have zA : (cutA (cutA (great s))).size ≤ 1000000 := by have := cutA_size (cutA (great s)); unfold great at *; omega
  have zB : (cutB (cutA (great s))).size ≤ 1000000 := by have := cutB_size (cutA (great s)); unfold great at *; omega
  have zC : (cutB (great s)).size ≤ 1000000 := by have := cutB_size (great s); unfold great at *; omega
  have HN4 := Lib.hid (fun w => text_number (cutA (cutA (great s))) 4 w (by omega) (by omega))
  have HN2 := Lib.hid (fun w => text_number (cutB (great s)) 2 w (by omega) (by omega))
  have HCo := Lib.hid (fun w => code_Read_any (cutB (cutA (great s))) cn cl ok w zB hc)
  clear hc g1 g2 c1
  rw [h4] at HN4
  rw [h2] at HN2
  clear h4 h2
  subst ho
  generalize numVal (cutA (cutA (great s))).data.toList 4 = yv at *
  generalize numVal (cutB (great s)).data.toList 2 = dv at *
  try generalize numOk (cutA (cutA (great s))).data.toList 4 = o4 at *
  try generalize numOk (cutB (great s)).data.toList 2 = o2 at *
  generalize greatB 109 77 s = s1 at *
  generalize cutA (cutA (great s)) = tA at *
  generalize cutB (cutA (great s)) = tB at *
  generalize cutB (great s) = tC at *
  generalize great s = s2 at *
  clear zA zB zC
  go_enter Tryd.func33, Tryd.ntmps33
  go_wp2_with fail
  have hmA := MaxAt.below hm (ba w (.cells #[.int .i64 0, .int .i64 0, .bool false, .int .i64 0] 25))
  refine (HR1.out _ hmA).mono ?_
  rintro e w1 ⟨rfl, hb1⟩
  obtain ⟨hc1, hf1⟩ := bcell hb1
  have hz1 := hb1.size
  try simp at hz1
  have hs1x0 : w.heap.size < w1.heap.size := by omega
  have g1x0 : w1.cell? ⟨w.heap.size, 0, none⟩ = some (.int .i64 0) := (hc1 _ _ (by first | omega | (simp; done) | (simp; omega))).trans (by first | (with_reducible assumption) | (simp [go_sem]; done) | (simp [go_sem, *]; done) | assumption)
  have g1x1 : w1.cell? ⟨w.heap.size, 1, none⟩ = some (.int .i64 0) := (hc1 _ _ (by first | omega | (simp; done) | (simp; omega))).trans (by first | (with_reducible assumption) | (simp [go_sem]; done) | (simp [go_sem, *]; done) | assumption)
  have g1x2 : w1.cell? ⟨w.heap.size, 2, none⟩ = some (.bool false) := (hc1 _ _ (by first | omega | (simp; done) | (simp; omega))).trans (by first | (with_reducible assumption) | (simp [go_sem]; done) | (simp [go_sem, *]; done) | assumption)
  have g1x3 : w1.cell? ⟨w.heap.size, 3, none⟩ = some (.int .i64 0) := (hc1 _ _ (by first | omega | (simp; done) | (simp; omega))).trans (by first | (with_reducible assumption) | (simp [go_sem]; done) | (simp [go_sem, *]; done) | assumption)
  go_wp2_with fail
  refine (HR2.out _ (MaxAt.below hmA hb1)).mono ?_
  rintro e w2 ⟨rfl, hb2⟩
  obtain ⟨hc2, hf2⟩ := bcell hb2
  have hz2 := hb2.size
  try simp at hz2
  have hs2x0 : w.heap.size < w2.heap.size := by omega
  have g2x0 : w2.cell? ⟨w.heap.size, 0, none⟩ = some (.int .i64 0) := (hc2 _ _ (by first | omega | (simp; done) | (simp; omega))).trans (by first | (with_reducible assumption) | (simp [go_sem]; done) | (simp [go_sem, *]; done) | assumption)
  have g2x1 : w2.cell? ⟨w.heap.size, 1, none⟩ = some (.int .i64 0) := (hc2 _ _ (by first | omega | (simp; done) | (simp; omega))).trans (by first | (with_reducible assumption) | (simp [go_sem]; done) | (simp [go_sem, *]; done) | assumption)
  have g2x2 : w2.cell? ⟨w.heap.size, 2, none⟩ = some (.bool false) := (hc2 _ _ (by first | omega | (simp; done) | (simp; omega))).trans (by first | (with_reducible assumption) | (simp [go_sem]; done) | (simp [go_sem, *]; done) | assumption)
  have g2x3 : w2.cell? ⟨w.heap.size, 3, none⟩ = some (.int .i64 0) := (hc2 _ _ (by first | omega | (simp; done) | (simp; omega))).trans (by first | (with_reducible assumption) | (simp [go_sem]; done) | (simp [go_sem, *]; done) | assumption)
  go_wp2_with fail
  refine (HP.out _).mono ?_
  rintro e w3 ⟨rfl, hb3⟩
  obtain ⟨hc3, hf3⟩ := bcell hb3
  have hz3 := hb3.size
  try simp at hz3
  have hs3x0 : w.heap.size < w3.heap.size := by omega
  have g3x0 : w3.cell? ⟨w.heap.size, 0, none⟩ = some (.int .i64 0) := (hc3 _ _ (by first | omega | (simp; done) | (simp; omega))).trans (by first | (with_reducible assumption) | (simp [go_sem]; done) | (simp [go_sem, *]; done) | assumption)
  have g3x1 : w3.cell? ⟨w.heap.size, 1, none⟩ = some (.int .i64 0) := (hc3 _ _ (by first | omega | (simp; done) | (simp; omega))).trans (by first | (with_reducible assumption) | (simp [go_sem]; done) | (simp [go_sem, *]; done) | assumption)
  have g3x2 : w3.cell? ⟨w.heap.size, 2, none⟩ = some (.bool false) := (hc3 _ _ (by first | omega | (simp; done) | (simp; omega))).trans (by first | (with_reducible assumption) | (simp [go_sem]; done) | (simp [go_sem, *]; done) | assumption)
  have g3x3 : w3.cell? ⟨w.heap.size, 3, none⟩ = some (.int .i64 0) := (hc3 _ _ (by first | omega | (simp; done) | (simp; omega))).trans (by first | (with_reducible assumption) | (simp [go_sem]; done) | (simp [go_sem, *]; done) | assumption)
  go_wp2_with fail
  refine (HN4.out _).mono ?_
  rintro e w' ⟨rfl, rfl⟩
  go_wp2_with fail
  refine (HCo.out _).mono ?_
  rintro e w4 ⟨rfl, hb4⟩
  obtain ⟨hc4, hf4⟩ := bcell hb4
  have hz4 := hb4.size
  try simp at hz4
  have hs4x0 : w.heap.size < w4.heap.size := by omega
  have g4x0 : w4.cell? ⟨w.heap.size, 0, none⟩ = some (.int .i64 0) := (hc4 _ _ (by first | omega | (simp; done) | (simp; omega))).trans (by first | (with_reducible assumption) | (simp [go_sem]; done) | (simp [go_sem, *]; done) | assumption)
  have g4x1 : w4.cell? ⟨w.heap.size, 1, none⟩ = some (.int .i64 0) := (hc4 _ _ (by first | omega | (simp; done) | (simp; omega))).trans (by first | (with_reducible assumption) | (simp [go_sem]; done) | (simp [go_sem, *]; done) | assumption)
  have g4x2 : w4.cell? ⟨w.heap.size, 2, none⟩ = some (.bool false) := (hc4 _ _ (by first | omega | (simp; done) | (simp; omega))).trans (by first | (with_reducible assumption) | (simp [go_sem]; done) | (simp [go_sem, *]; done) | assumption)
  have g4x3 : w4.cell? ⟨w.heap.size, 3, none⟩ = some (.int .i64 0) := (hc4 _ _ (by first | omega | (simp; done) | (simp; omega))).trans (by first | (with_reducible assumption) | (simp [go_sem]; done) | (simp [go_sem, *]; done) | assumption)
  go_wp2_with fail
  refine (HN2.out _).mono ?_
  rintro e w' ⟨rfl, rfl⟩
  go_wp2_with fail
  refine bodyPost_ret (v := .tuple #[.agg #[.int .i64 (0), .int .i64 (0), .bool (false), .int .i64 (0)], .int .i64 (5)]) (by simp [results, Tryd.results33, go_sem, *]) rfl ⟨rfl, ?_⟩
  repeat (first | (with_reducible exact Below.refl _ _) | (with_reducible assumption) | (with_reducible refine bdrew ?_) | (with_reducible refine baa ?_ _) | (with_reducible refine bs ?_ (by first | exact Nat.le_refl _ | omega | (simp; done) | (simp; omega)) _) | (with_reducible refine bt ?_ (by with_reducible assumption)))
set_option maxHeartbeats 4000000 in
theorem text_ReadHeb_range (s : ByteArray) (cn : Int) (cl ok : Bool) (m : Int) (hs : s.size ≤ 1000000) (w : World) (hT : Tab w 8 kevCells) (hL : Tab w 5 lenCells) (hm : MaxAt w m) (hc : IsCode (cutB (cutA (great s))) cn cl ok) (h4 : numOk (cutA (cutA (great s))).data.toList 4 = true) (ho : ok = true) (h2 : numOk (cutB (great s)).data.toList 2 = true) (h0 : ¬ D10.dateE (numVal (cutA (cutA (great s))).data.toList 4) cn cl (numVal (cutB (great s)).data.toList 2) = 0) :
    Calls Tryd.prog 33 #[.string s] w fun e w' => e = .returned (.tuple #[.agg #[.int .i64 (0), .int .i64 (0), .bool (false), .int .i64 (0)], .int .i64 (2)]) ∧ Below w.heap.size w w' := by
  have g1 := greatB_size 109 77 s
  have g2 := greatB_size 108 76 (greatB 109 77 s)
  have c1 := cutA_size (great s)
  have HR1 := Lib.hid (fun w hm => replaceAll_byte 109 77 (by decide) s m w hs hm)
  have HR2 := Lib.hid (fun w hm => replaceAll_byte 108 76 (by decide) (greatB 109 77 s) m w (by omega) hm)
  have HP := Lib.hid (fun w => text_part (great s) w (by unfold great; omega))
  rw [show greatB 108 76 (greatB 109 77 s) = great s from rfl] at HR2
  have zA : (cutA (cutA (great s))).size ≤ 1000000 := by have := cutA_size (cutA (great s)); unfold great at *; omega
  have zB : (cutB (cutA (great s))).size ≤ 1000000 := by have := cutB_size (cutA (great s)); unfold great at *; omega
  have zC : (cutB (great s)).size ≤ 1000000 := by have := cutB_size (great s); unfold great at *; omega
  have HN4 := Lib.hid (fun w => text_number (cutA (cutA (great s))) 4 w (by omega) (by omega))
  have HN2 := Lib.hid (fun w => text_number (cutB (great s)) 2 w (by omega) (by omega))
  have HCo := Lib.hid (fun w => code_Read_any (cutB (cutA (great s))) cn cl ok w zB hc)
  clear hc g1 g2 c1
  have hI := numVal_bd (cutA (cutA (great s))).data.toList 4
  have HCk := Lib.hid (fun w hT hL => heb_Check (numVal (cutA (cutA (great s))).data.toList 4) cn cl (numVal (cutB (great s)).data.toList 2) w ⟨by omega, by omega⟩ hT hL)
  rw [h4] at HN4
  rw [h2] at HN2
  clear h4 h2 hI
  subst ho
  have hne : (D10.dateE (numVal (cutA (cutA (great s))).data.toList 4) cn cl (numVal (cutB (great s)).data.toList 2) != 0) = true := by simpa using h0
  clear h0
  generalize D10.dateE (numVal (cutA (cutA (great s))).data.toList 4) cn cl (numVal (cutB (great s)).data.toList 2) = de at *
  generalize numVal (cutA (cutA (great s))).data.toList 4 = yv at *
  generalize numVal (cutB (great s)).data.toList 2 = dv at *
  try generalize numOk (cutA (cutA (great s))).data.toList 4 = o4 at *
  try generalize numOk (cutB (great s)).data.toList 2 = o2 at *
  generalize greatB 109 77 s = s1 at *
  generalize cutA (cutA (great s)) = tA at *
  generalize cutB (cutA (great s)) = tB at *
  generalize cutB (great s) = tC at *
  generalize great s = s2 at *
  clear zA zB zC
  go_enter Tryd.func33, Tryd.ntmps33
  go_wp2_with fail
  have hmA := MaxAt.below hm (ba w (.cells #[.int .i64 0, .int .i64 0, .bool false, .int .i64 0] 25))
  refine (HR1.out _ hmA).mono ?_
  rintro e w1 ⟨rfl, hb1⟩
  obtain ⟨hc1, hf1⟩ := bcell hb1
  have hz1 := hb1.size
  try simp at hz1
  have hs1x0 : w.heap.size < w1.heap.size := by omega
  have g1x0 : w1.cell? ⟨w.heap.size, 0, none⟩ = some (.int .i64 0) := (hc1 _ _ (by first | omega | (simp; done) | (simp; omega))).trans (by first | (with_reducible assumption) | (simp [go_sem]; done) | (simp [go_sem, *]; done) | assumption)
  have g1x1 : w1.cell? ⟨w.heap.size, 1, none⟩ = some (.int .i64 0) := (hc1 _ _ (by first | omega | (simp; done) | (simp; omega))).trans (by first | (with_reducible assumption) | (simp [go_sem]; done) | (simp [go_sem, *]; done) | assumption)
  have g1x2 : w1.cell? ⟨w.heap.size, 2, none⟩ = some (.bool false) := (hc1 _ _ (by first | omega | (simp; done) | (simp; omega))).trans (by first | (with_reducible assumption) | (simp [go_sem]; done) | (simp [go_sem, *]; done) | assumption)
  have g1x3 : w1.cell? ⟨w.heap.size, 3, none⟩ = some (.int .i64 0) := (hc1 _ _ (by first | omega | (simp; done) | (simp; omega))).trans (by first | (with_reducible assumption) | (simp [go_sem]; done) | (simp [go_sem, *]; done) | assumption)
  go_wp2_with fail
  refine (HR2.out _ (MaxAt.below hmA hb1)).mono ?_
  rintro e w2 ⟨rfl, hb2⟩
  obtain ⟨hc2, hf2⟩ := bcell hb2
  have hz2 := hb2.size
  try simp at hz2
  have hs2x0 : w.heap.size < w2.heap.size := by omega
  have g2x0 : w2.cell? ⟨w.heap.size, 0, none⟩ = some (.int .i64 0) := (hc2 _ _ (by first | omega | (simp; done) | (simp; omega))).trans (by first | (with_reducible assumption) | (simp [go_sem]; done) | (simp [go_sem, *]; done) | assumption)
  have g2x1 : w2.cell? ⟨w.heap.size, 1, none⟩ = some (.int .i64 0) := (hc2 _ _ (by first | omega | (simp; done) | (simp; omega))).trans (by first | (with_reducible assumption) | (simp [go_sem]; done) | (simp [go_sem, *]; done) | assumption)
  have g2x2 : w2.cell? ⟨w.heap.size, 2, none⟩ = some (.bool false) := (hc2 _ _ (by first | omega | (simp; done) | (simp; omega))).trans (by first | (with_reducible assumption) | (simp [go_sem]; done) | (simp [go_sem, *]; done) | assumption)
  have g2x3 : w2.cell? ⟨w.heap.size, 3, none⟩ = some (.int .i64 0) := (hc2 _ _ (by first | omega | (simp; done) | (simp; omega))).trans (by first | (with_reducible assumption) | (simp [go_sem]; done) | (simp [go_sem, *]; done) | assumption)
  go_wp2_with fail
  refine (HP.out _).mono ?_
  rintro e w3 ⟨rfl, hb3⟩
  obtain ⟨hc3, hf3⟩ := bcell hb3
  have hz3 := hb3.size
  try simp at hz3
  have hs3x0 : w.heap.size < w3.heap.size := by omega
  have g3x0 : w3.cell? ⟨w.heap.size, 0, none⟩ = some (.int .i64 0) := (hc3 _ _ (by first | omega | (simp; done) | (simp; omega))).trans (by first | (with_reducible assumption) | (simp [go_sem]; done) | (simp [go_sem, *]; done) | assumption)
  have g3x1 : w3.cell? ⟨w.heap.size, 1, none⟩ = some (.int .i64 0) := (hc3 _ _ (by first | omega | (simp; done) | (simp; omega))).trans (by first | (with_reducible assumption) | (simp [go_sem]; done) | (simp [go_sem, *]; done) | assumption)
  have g3x2 : w3.cell? ⟨w.heap.size, 2, none⟩ = some (.bool false) := (hc3 _ _ (by first | omega | (simp; done) | (simp; omega))).trans (by first | (with_reducible assumption) | (simp [go_sem]; done) | (simp [go_sem, *]; done) | assumption)
  have g3x3 : w3.cell? ⟨w.heap.size, 3, none⟩ = some (.int .i64 0) := (hc3 _ _ (by first | omega | (simp; done) | (simp; omega))).trans (by first | (with_reducible assumption) | (simp [go_sem]; done) | (simp [go_sem, *]; done) | assumption)
  go_wp2_with fail
  refine (HN4.out _).mono ?_
  rintro e w' ⟨rfl, rfl⟩
  go_wp2_with fail
  refine (HCo.out _).mono ?_
  rintro e w4 ⟨rfl, hb4⟩
  obtain ⟨hc4, hf4⟩ := bcell hb4
  have hz4 := hb4.size
  try simp at hz4
  have hs4x0 : w.heap.size < w4.heap.size := by omega
  have g4x0 : w4.cell? ⟨w.heap.size, 0, none⟩ = some (.int .i64 0) := (hc4 _ _ (by first | omega | (simp; done) | (simp; omega))).trans (by first | (with_reducible assumption) | (simp [go_sem]; done) | (simp [go_sem, *]; done) | assumption)
  have g4x1 : w4.cell? ⟨w.heap.size, 1, none⟩ = some (.int .i64 0) := (hc4 _ _ (by first | omega | (simp; done) | (simp; omega))).trans (by first | (with_reducible assumption) | (simp [go_sem]; done) | (simp [go_sem, *]; done) | assumption)
  have g4x2 : w4.cell? ⟨w.heap.size, 2, none⟩ = some (.bool false) := (hc4 _ _ (by first | omega | (simp; done) | (simp; omega))).trans (by first | (with_reducible assumption) | (simp [go_sem]; done) | (simp [go_sem, *]; done) | assumption)
  have g4x3 : w4.cell? ⟨w.heap.size, 3, none⟩ = some (.int .i64 0) := (hc4 _ _ (by first | omega | (simp; done) | (simp; omega))).trans (by first | (with_reducible assumption) | (simp [go_sem]; done) | (simp [go_sem, *]; done) | assumption)
  go_wp2_with fail
  refine (HN2.out _).mono ?_
  rintro e w' ⟨rfl, rfl⟩
  go_wp2_with fail
  have hq5 : w.heap.size < w4.heap.size + 1 + 1 := by omega
  refine (HCk.out _ (Tab.below hT (by repeat (first | (with_reducible exact Below.refl _ _) | (with_reducible assumption) | (with_reducible refine bdrew ?_) | (with_reducible refine baa ?_ _) | (with_reducible refine bs ?_ (by first | exact Nat.le_refl _ | omega | (simp; done) | (simp; omega)) _) | (with_reducible refine bt ?_ (by with_reducible assumption))))) (Tab.below hL (by repeat (first | (with_reducible exact Below.refl _ _) | (with_reducible assumption) | (with_reducible refine bdrew ?_) | (with_reducible refine baa ?_ _) | (with_reducible refine bs ?_ (by first | exact Nat.le_refl _ | omega | (simp; done) | (simp; omega)) _) | (with_reducible refine bt ?_ (by with_reducible assumption)))))).mono ?_
  rintro e w5 ⟨rfl, hb5⟩
  obtain ⟨hc5, hf5⟩ := bcell hb5
  have hz5 := hb5.size
  try simp at hz5
  have hs5x0 : w.heap.size < w5.heap.size := by omega
  have hs5x1 : (w4.heap.size + 1) < w5.heap.size := by omega
  have g5x0 : w5.cell? ⟨w.heap.size, 0, none⟩ = some (.int .i64 0) := (hc5 _ _ (by first | omega | (simp; done) | (simp; omega))).trans (by first | (with_reducible assumption) | (simp [go_sem]; done) | (simp [go_sem, *]; done) | assumption)
  have g5x1 : w5.cell? ⟨w.heap.size, 1, none⟩ = some (.int .i64 0) := (hc5 _ _ (by first | omega | (simp; done) | (simp; omega))).trans (by first | (with_reducible assumption) | (simp [go_sem]; done) | (simp [go_sem, *]; done) | assumption)
  have g5x2 : w5.cell? ⟨w.heap.size, 2, none⟩ = some (.bool false) := (hc5 _ _ (by first | omega | (simp; done) | (simp; omega))).trans (by first | (with_reducible assumption) | (simp [go_sem]; done) | (simp [go_sem, *]; done) | assumption)
  have g5x3 : w5.cell? ⟨w.heap.size, 3, none⟩ = some (.int .i64 0) := (hc5 _ _ (by first | omega | (simp; done) | (simp; omega))).trans (by first | (with_reducible assumption) | (simp [go_sem]; done) | (simp [go_sem, *]; done) | assumption)
  have g5x4 : w5.cell? ⟨(w4.heap.size + 1), 0, none⟩ = some (.int .i64 yv) := (hc5 _ _ (by first | omega | (simp; done) | (simp; omega))).trans (by first | (with_reducible assumption) | (simp [go_sem]; done) | (simp [go_sem, *]; done) | assumption)
  have g5x5 : w5.cell? ⟨(w4.heap.size + 1), 1, none⟩ = some (.int .i64 cn) := (hc5 _ _ (by first | omega | (simp; done) | (simp; omega))).trans (by first | (with_reducible assumption) | (simp [go_sem]; done) | (simp [go_sem, *]; done) | assumption)
  have g5x6 : w5.cell? ⟨(w4.heap.size + 1), 2, none⟩ = some (.bool cl) := (hc5 _ _ (by first | omega | (simp; done) | (simp; omega))).trans (by first | (with_reducible assumption) | (simp [go_sem]; done) | (simp [go_sem, *]; done) | assumption)
  have g5x7 : w5.cell? ⟨(w4.heap.size + 1), 3, none⟩ = some (.int .i64 dv) := (hc5 _ _ (by first | omega | (simp; done) | (simp; omega))).trans (by first | (with_reducible assumption) | (simp [go_sem]; done) | (simp [go_sem, *]; done) | assumption)
  go_wp2_with fail
  clear hc5
  refine bodyPost_ret (v := .tuple #[.agg #[.int .i64 (0), .int .i64 (0), .bool (false), .int .i64 (0)], .int .i64 (2)]) (by simp [results, Tryd.results33, go_sem, *]) rfl ⟨rfl, ?_⟩
  repeat (first | (with_reducible exact Below.refl _ _) | (with_reducible assumption) | (with_reducible refine bdrew ?_) | (with_reducible refine baa ?_ _) | (with_reducible refine bs ?_ (by first | exact Nat.le_refl _ | omega | (simp; done) | (simp; omega)) _) | (with_reducible refine bt ?_ (by with_reducible assumption)))
set_option maxHeartbeats 4000000 in
theorem text_ReadHeb_ok (s : ByteArray) (cn : Int) (cl ok : Bool) (m : Int) (hs : s.size ≤ 1000000) (w : World) (hT : Tab w 8 kevCells) (hL : Tab w 5 lenCells) (hm : MaxAt w m) (hc : IsCode (cutB (cutA (great s))) cn cl ok) (h4 : numOk (cutA (cutA (great s))).data.toList 4 = true) (ho : ok = true) (h2 : numOk (cutB (great s)).data.toList 2 = true) (h0 : D10.dateE (numVal (cutA (cutA (great s))).data.toList 4) cn cl (numVal (cutB (great s)).data.toList 2) = 0) :
    Calls Tryd.prog 33 #[.string s] w fun e w' => e = .returned (.tuple #[.agg #[.int .i64 (numVal (cutA (cutA (great s))).data.toList 4), .int .i64 (cn), .bool (cl), .int .i64 (numVal (cutB (great s)).data.toList 2)], .int .i64 (0)]) ∧ Below w.heap.size w w' := by
  have g1 := greatB_size 109 77 s
  have g2 := greatB_size 108 76 (greatB 109 77 s)
  have c1 := cutA_size (great s)
  have HR1 := Lib.hid (fun w hm => replaceAll_byte 109 77 (by decide) s m w hs hm)
  have HR2 := Lib.hid (fun w hm => replaceAll_byte 108 76 (by decide) (greatB 109 77 s) m w (by omega) hm)
  have HP := Lib.hid (fun w => text_part (great s) w (by unfold great; omega))
  rw [show greatB 108 76 (greatB 109 77 s) = great s from rfl] at HR2
  have zA : (cutA (cutA (great s))).size ≤ 1000000 := by have := cutA_size (cutA (great s)); unfold great at *; omega
  have zB : (cutB (cutA (great s))).size ≤ 1000000 := by have := cutB_size (cutA (great s)); unfold great at *; omega
  have zC : (cutB (great s)).size ≤ 1000000 := by have := cutB_size (great s); unfold great at *; omega
  have HN4 := Lib.hid (fun w => text_number (cutA (cutA (great s))) 4 w (by omega) (by omega))
  have HN2 := Lib.hid (fun w => text_number (cutB (great s)) 2 w (by omega) (by omega))
  have HCo := Lib.hid (fun w => code_Read_any (cutB (cutA (great s))) cn cl ok w zB hc)
  clear hc g1 g2 c1
  have hI := numVal_bd (cutA (cutA (great s))).data.toList 4
  have HCk := Lib.hid (fun w hT hL => heb_Check (numVal (cutA (cutA (great s))).data.toList 4) cn cl (numVal (cutB (great s)).data.toList 2) w ⟨by omega, by omega⟩ hT hL)
  rw [h4] at HN4
  rw [h2] at HN2
  clear h4 h2 hI
  subst ho
  rw [h0] at HCk
  clear h0
  generalize numVal (cutA (cutA (great s))).data.toList 4 = yv at *
  generalize numVal (cutB (great s)).data.toList 2 = dv at *
  try generalize numOk (cutA (cutA (great s))).data.toList 4 = o4 at *
  try generalize numOk (cutB (great s)).data.toList 2 = o2 at *
  generalize greatB 109 77 s = s1 at *
  generalize cutA (cutA (great s)) = tA at *
  generalize cutB (cutA (great s)) = tB at *
  generalize cutB (great s) = tC at *
  generalize great s = s2 at *
  clear zA zB zC
  go_enter Tryd.func33, Tryd.ntmps33
  go_wp2_with fail
  have hmA := MaxAt.below hm (ba w (.cells #[.int .i64 0, .int .i64 0, .bool false, .int .i64 0] 25))
  refine (HR1.out _ hmA).mono ?_
  rintro e w1 ⟨rfl, hb1⟩
  obtain ⟨hc1, hf1⟩ := bcell hb1
  have hz1 := hb1.size
  try simp at hz1
  have hs1x0 : w.heap.size < w1.heap.size := by omega
  have g1x0 : w1.cell? ⟨w.heap.size, 0, none⟩ = some (.int .i64 0) := (hc1 _ _ (by first | omega | (simp; done) | (simp; omega))).trans (by first | (with_reducible assumption) | (simp [go_sem]; done) | (simp [go_sem, *]; done) | assumption)
  have g1x1 : w1.cell? ⟨w.heap.size, 1, none⟩ = some (.int .i64 0) := (hc1 _ _ (by first | omega | (simp; done) | (simp; omega))).trans (by first | (with_reducible assumption) | (simp [go_sem]; done) | (simp [go_sem, *]; done) | assumption)
  have g1x2 : w1.cell? ⟨w.heap.size, 2, none⟩ = some (.bool false) := (hc1 _ _ (by first | omega | (simp; done) | (simp; omega))).trans (by first | (with_reducible assumption) | (simp [go_sem]; done) | (simp [go_sem, *]; done) | assumption)
  have g1x3 : w1.cell? ⟨w.heap.size, 3, none⟩ = some (.int .i64 0) := (hc1 _ _ (by first | omega | (simp; done) | (simp; omega))).trans (by first | (with_reducible assumption) | (simp [go_sem]; done) | (simp [go_sem, *]; done) | assumption)
  go_wp2_with fail
  refine (HR2.out _ (MaxAt.below hmA hb1)).mono ?_
  rintro e w2 ⟨rfl, hb2⟩
  obtain ⟨hc2, hf2⟩ := bcell hb2
  have hz2 := hb2.size
  try simp at hz2
  have hs2x0 : w.heap.size < w2.heap.size := by omega
  have g2x0 : w2.cell? ⟨w.heap.size, 0, none⟩ = some (.int .i64 0) := (hc2 _ _ (by first | omega | (simp; done) | (simp; omega))).trans (by first | (with_reducible assumption) | (simp [go_sem]; done) | (simp [go_sem, *]; done) | assumption)
  have g2x1 : w2.cell? ⟨w.heap.size, 1, none⟩ = some (.int .i64 0) := (hc2 _ _ (by first | omega | (simp; done) | (simp; omega))).trans (by first | (with_reducible assumption) | (simp [go_sem]; done) | (simp [go_sem, *]; done) | assumption)
  have g2x2 : w2.cell? ⟨w.heap.size, 2, none⟩ = some (.bool false) := (hc2 _ _ (by first | omega | (simp; done) | (simp; omega))).trans (by first | (with_reducible assumption) | (simp [go_sem]; done) | (simp [go_sem, *]; done) | assumption)
  have g2x3 : w2.cell? ⟨w.heap.size, 3, none⟩ = some (.int .i64 0) := (hc2 _ _ (by first | omega | (simp; done) | (simp; omega))).trans (by first | (with_reducible assumption) | (simp [go_sem]; done) | (simp [go_sem, *]; done) | assumption)
  go_wp2_with fail
  refine (HP.out _).mono ?_
  rintro e w3 ⟨rfl, hb3⟩
  obtain ⟨hc3, hf3⟩ := bcell hb3
  have hz3 := hb3.size
  try simp at hz3
  have hs3x0 : w.heap.size < w3.heap.size := by omega
  have g3x0 : w3.cell? ⟨w.heap.size, 0, none⟩ = some (.int .i64 0) := (hc3 _ _ (by first | omega | (simp; done) | (simp; omega))).trans (by first | (with_reducible assumption) | (simp [go_sem]; done) | (simp [go_sem, *]; done) | assumption)
  have g3x1 : w3.cell? ⟨w.heap.size, 1, none⟩ = some (.int .i64 0) := (hc3 _ _ (by first | omega | (simp; done) | (simp; omega))).trans (by first | (with_reducible assumption) | (simp [go_sem]; done) | (simp [go_sem, *]; done) | assumption)
  have g3x2 : w3.cell? ⟨w.heap.size, 2, none⟩ = some (.bool false) := (hc3 _ _ (by first | omega | (simp; done) | (simp; omega))).trans (by first | (with_reducible assumption) | (simp [go_sem]; done) | (simp [go_sem, *]; done) | assumption)
  have g3x3 : w3.cell? ⟨w.heap.size, 3, none⟩ = some (.int .i64 0) := (hc3 _ _ (by first | omega | (simp; done) | (simp; omega))).trans (by first | (with_reducible assumption) | (simp [go_sem]; done) | (simp [go_sem, *]; done) | assumption)
  go_wp2_with fail
  refine (HN4.out _).mono ?_
  rintro e w' ⟨rfl, rfl⟩
  go_wp2_with fail
  refine (HCo.out _).mono ?_
  rintro e w4 ⟨rfl, hb4⟩
  obtain ⟨hc4, hf4⟩ := bcell hb4
  have hz4 := hb4.size
  try simp at hz4
  have hs4x0 : w.heap.size < w4.heap.size := by omega
  have g4x0 : w4.cell? ⟨w.heap.size, 0, none⟩ = some (.int .i64 0) := (hc4 _ _ (by first | omega | (simp; done) | (simp; omega))).trans (by first | (with_reducible assumption) | (simp [go_sem]; done) | (simp [go_sem, *]; done) | assumption)
  have g4x1 : w4.cell? ⟨w.heap.size, 1, none⟩ = some (.int .i64 0) := (hc4 _ _ (by first | omega | (simp; done) | (simp; omega))).trans (by first | (with_reducible assumption) | (simp [go_sem]; done) | (simp [go_sem, *]; done) | assumption)
  have g4x2 : w4.cell? ⟨w.heap.size, 2, none⟩ = some (.bool false) := (hc4 _ _ (by first | omega | (simp; done) | (simp; omega))).trans (by first | (with_reducible assumption) | (simp [go_sem]; done) | (simp [go_sem, *]; done) | assumption)
  have g4x3 : w4.cell? ⟨w.heap.size, 3, none⟩ = some (.int .i64 0) := (hc4 _ _ (by first | omega | (simp; done) | (simp; omega))).trans (by first | (with_reducible assumption) | (simp [go_sem]; done) | (simp [go_sem, *]; done) | assumption)
  go_wp2_with fail
  refine (HN2.out _).mono ?_
  rintro e w' ⟨rfl, rfl⟩
  go_wp2_with fail
  have hq5 : w.heap.size < w4.heap.size + 1 + 1 := by omega
  refine (HCk.out _ (Tab.below hT (by repeat (first | (with_reducible exact Below.refl _ _) | (with_reducible assumption) | (with_reducible refine bdrew ?_) | (with_reducible refine baa ?_ _) | (with_reducible refine bs ?_ (by first | exact Nat.le_refl _ | omega | (simp; done) | (simp; omega)) _) | (with_reducible refine bt ?_ (by with_reducible assumption))))) (Tab.below hL (by repeat (first | (with_reducible exact Below.refl _ _) | (with_reducible assumption) | (with_reducible refine bdrew ?_) | (with_reducible refine baa ?_ _) | (with_reducible refine bs ?_ (by first | exact Nat.le_refl _ | omega | (simp; done) | (simp; omega)) _) | (with_reducible refine bt ?_ (by with_reducible assumption)))))).mono ?_
  rintro e w5 ⟨rfl, hb5⟩
  obtain ⟨hc5, hf5⟩ := bcell hb5
  have hz5 := hb5.size
  try simp at hz5
  have hs5x0 : w.heap.size < w5.heap.size := by omega
  have hs5x1 : (w4.heap.size + 1) < w5.heap.size := by omega
  have g5x0 : w5.cell? ⟨w.heap.size, 0, none⟩ = some (.int .i64 0) := (hc5 _ _ (by first | omega | (simp; done) | (simp; omega))).trans (by first | (with_reducible assumption) | (simp [go_sem]; done) | (simp [go_sem, *]; done) | assumption)
  have g5x1 : w5.cell? ⟨w.heap.size, 1, none⟩ = some (.int .i64 0) := (hc5 _ _ (by first | omega | (simp; done) | (simp; omega))).trans (by first | (with_reducible assumption) | (simp [go_sem]; done) | (simp [go_sem, *]; done) | assumption)
  have g5x2 : w5.cell? ⟨w.heap.size, 2, none⟩ = some (.bool false) := (hc5 _ _ (by first | omega | (simp; done) | (simp; omega))).trans (by first | (with_reducible assumption) | (simp [go_sem]; done) | (simp [go_sem, *]; done) | assumption)
  have g5x3 : w5.cell? ⟨w.heap.size, 3, none⟩ = some (.int .i64 0) := (hc5 _ _ (by first | omega | (simp; done) | (simp; omega))).trans (by first | (with_reducible assumption) | (simp [go_sem]; done) | (simp [go_sem, *]; done) | assumption)
  have g5x4 : w5.cell? ⟨(w4.heap.size + 1), 0, none⟩ = some (.int .i64 yv) := (hc5 _ _ (by first | omega | (simp; done) | (simp; omega))).trans (by first | (with_reducible assumption) | (simp [go_sem]; done) | (simp [go_sem, *]; done) | assumption)
  have g5x5 : w5.cell? ⟨(w4.heap.size + 1), 1, none⟩ = some (.int .i64 cn) := (hc5 _ _ (by first | omega | (simp; done) | (simp; omega))).trans (by first | (with_reducible assumption) | (simp [go_sem]; done) | (simp [go_sem, *]; done) | assumption)
  have g5x6 : w5.cell? ⟨(w4.heap.size + 1), 2, none⟩ = some (.bool cl) := (hc5 _ _ (by first | omega | (simp; done) | (simp; omega))).trans (by first | (with_reducible assumption) | (simp [go_sem]; done) | (simp [go_sem, *]; done) | assumption)
  have g5x7 : w5.cell? ⟨(w4.heap.size + 1), 3, none⟩ = some (.int .i64 dv) := (hc5 _ _ (by first | omega | (simp; done) | (simp; omega))).trans (by first | (with_reducible assumption) | (simp [go_sem]; done) | (simp [go_sem, *]; done) | assumption)
  go_wp2_with fail
  clear hc5
  refine bodyPost_ret (v := .tuple #[.agg #[.int .i64 (yv), .int .i64 (cn), .bool (cl), .int .i64 (dv)], .int .i64 (0)]) (by simp [results, Tryd.results33, go_sem, *]) rfl ⟨rfl, ?_⟩
  repeat (first | (with_reducible exact Below.refl _ _) | (with_reducible assumption) | (with_reducible refine bdrew ?_) | (with_reducible refine baa ?_ _) | (with_reducible refine bs ?_ (by first | exact Nat.le_refl _ | omega | (simp; done) | (simp; omega)) _) | (with_reducible refine bt ?_ (by with_reducible assumption)))
def rhE (s : ByteArray) (cn : Int) (cl ok : Bool) : Int := if (numOk (cutA (cutA (great s))).data.toList 4 && (ok && numOk (cutB (great s)).data.toList 2)) = true then (if D10.dateE (numVal (cutA (cutA (great s))).data.toList 4) cn cl (numVal (cutB (great s)).data.toList 2) = 0 then 0 else 2) else 5
def rhY (s : ByteArray) (cn : Int) (cl ok : Bool) : Int := if rhE s cn cl ok = 0 then numVal (cutA (cutA (great s))).data.toList 4 else 0
def rhN (s : ByteArray) (cn : Int) (cl ok : Bool) : Int := if rhE s cn cl ok = 0 then cn else 0
def rhL (s : ByteArray) (cn : Int) (cl ok : Bool) : Bool := if rhE s cn cl ok = 0 then cl else false
def rhD (s : ByteArray) (cn : Int) (cl ok : Bool) : Int := if rhE s cn cl ok = 0 then numVal (cutB (great s)).data.toList 2 else 0
theorem text_ReadHeb (s : ByteArray) (cn : Int) (cl ok : Bool) (m : Int) (hs : s.size ≤ 1000000) (w : World) (hT : Tab w 8 kevCells) (hL : Tab w 5 lenCells) (hm : MaxAt w m) (hc : IsCode (cutB (cutA (great s))) cn cl ok) :
    Calls Tryd.prog 33 #[.string s] w fun e w' => e = .returned (.tuple #[.agg #[.int .i64 (rhY s cn cl ok), .int .i64 (rhN s cn cl ok), .bool (rhL s cn cl ok), .int .i64 (rhD s cn cl ok)], .int .i64 (rhE s cn cl ok)]) ∧ Below w.heap.size w w' := by
  have bad : ∀ E : Int, rhE s cn cl ok = E → ¬ E = 0 → rhY s cn cl ok = 0 ∧ rhN s cn cl ok = 0 ∧ rhL s cn cl ok = false ∧ rhD s cn cl ok = 0 := by
    intro E e h
    have h' : ¬ rhE s cn cl ok = 0 := by rw [e]; exact h
    unfold rhY rhN rhL rhD
    rw [if_neg h', if_neg h', if_neg h', if_neg h']
    exact ⟨rfl, rfl, rfl, rfl⟩
  cases h4 : numOk (cutA (cutA (great s))).data.toList 4 with
  | false =>
    have e : rhE s cn cl ok = 5 := by unfold rhE; rw [h4]; rfl
    obtain ⟨e1, e2, e3, e4⟩ := bad 5 e (by omega)
    rw [e, e1, e2, e3, e4]
    exact text_ReadHeb_y s cn cl ok m hs w hT hL hm hc h4
  | true =>
    cases ho : ok with
    | false =>
      subst ho
      have e : rhE s cn cl false = 5 := by unfold rhE; rw [h4]; rfl
      obtain ⟨e1, e2, e3, e4⟩ := bad 5 e (by omega)
      rw [e, e1, e2, e3, e4]
      exact text_ReadHeb_c s cn cl false m hs w hT hL hm hc h4 rfl
    | true =>
      subst ho
      cases h2 : numOk (cutB (great s)).data.toList 2 with
      | false =>
        have e : rhE s cn cl true = 5 := by unfold rhE; rw [h4, h2]; rfl
        obtain ⟨e1, e2, e3, e4⟩ := bad 5 e (by omega)
        rw [e, e1, e2, e3, e4]
        exact text_ReadHeb_d s cn cl true m hs w hT hL hm hc h4 rfl h2
      | true =>
        by_cases h0 : D10.dateE (numVal (cutA (cutA (great s))).data.toList 4) cn cl (numVal (cutB (great s)).data.toList 2) = 0
        · have e : rhE s cn cl true = 0 := by unfold rhE; rw [h4, h2, if_pos (show (true && (true && true)) = true from rfl), if_pos h0]
          unfold rhY rhN rhL rhD
          rw [if_pos e, if_pos e, if_pos e, if_pos e, e]
          exact text_ReadHeb_ok s cn cl true m hs w hT hL hm hc h4 rfl h2 h0
        · have e : rhE s cn cl true = 2 := by unfold rhE; rw [h4, h2, if_pos (show (true && (true && true)) = true from rfl), if_neg h0]
          obtain ⟨e1, e2, e3, e4⟩ := bad 2 e (by omega)
          rw [e, e1, e2, e3, e4]
          exact text_ReadHeb_range s cn cl true m hs w hT hL hm hc h4 rfl h2 h0
end Go.Proofs.YtmiadhiomingmaaDoor
