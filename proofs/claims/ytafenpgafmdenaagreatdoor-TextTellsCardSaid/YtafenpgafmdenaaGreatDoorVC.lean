/- Merged: Text5, Text6, W13, A13b, A13c, Greg8. -/
import Derived.Test.YtafenpgafmdenaaGreatDoorTB
import Derived.Test.YtafenpgafmdenaaGreatDoorTA
import Derived.Test.YtafenpgafmdenaaGreatDoorFlat
import Derived.LoopTactic
import Derived.RegionTactic
import Derived.Test.YtafenpgafmdenaaGreatDoorW10
import Derived.Outline
/- Layer 13: a Gregorian date, read. -/
namespace Go.Proofs.YtafenpgafmdenaaGreatDoor
open Go.ChangeShapes Go.WideShapes Go.ChangeAt Go.RowKit
set_option linter.unusedVariables false
set_option maxRecDepth 100000
/-- The first part without a dash ahead. -/
def bare (s : ByteArray) : ByteArray := ⟨(Go.Lib.trimPrefix s.data.toList [45]).toArray⟩
def below0 (s : ByteArray) : Bool := Go.Lib.hasPrefix s.data.toList [45]
theorem bare_size (s : ByteArray) : (bare s).size ≤ s.size := by
  show ((Go.Lib.trimPrefix s.data.toList [45]).toArray).size ≤ s.data.size
  unfold Go.Lib.trimPrefix
  split <;> simp
set_option maxHeartbeats 4000000 in
theorem text_ReadCivil_y (s : ByteArray) (hs : s.size ≤ 1000000) (w : World) (hG : Tab w 2 Gr.gregCells) (h4 : numOk (bare (cutA (cutA s))).data.toList 4 = false) :
    Calls Tryz.prog 17 #[.string s] w fun e w' => e = .returned (.tuple #[.agg #[.int .i64 (0), .int .i64 (0), .int .i64 (0)], .int .i64 (5)]) ∧ Below w.heap.size w w' := by
  have z1 := cutA_size s
  have z2 := cutA_size (cutA s)
  have z3 := bare_size (cutA (cutA s))
  have z4 := cutB_size (cutA s)
  have z5 := cutB_size s
  have hyb := numVal_bd (bare (cutA (cutA s))).data.toList 4
  have y0 := hyb.1
  have y1 : numVal (bare (cutA (cutA s))).data.toList 4 < 10000 := hyb.2
  have HP := Lib.hid (fun w => text_part s w hs)
  have HX0 : ∀ w : World, Calls Tryz.prog 52 #[.string (cutA (cutA s)), .string ⟨#[45]⟩] w (fun e w' => e = .returned (.tuple #[.string (bare (cutA (cutA s))), .bool (below0 (cutA (cutA s)))]) ∧ w = w') := fun w => (Tryz.strings_CutPrefix (cutA (cutA s)) ⟨#[45]⟩ w).mono fun _ _ h => ⟨h.1, h.2.symm⟩
  have HX := Lib.hid HX0
  clear HX0
  have HN4 := Lib.hid (fun w => text_number (bare (cutA (cutA s))) 4 w (by omega) (by omega))
  have HNm := Lib.hid (fun w => text_number (cutB (cutA s)) 2 w (by omega) (by omega))
  have HNd := Lib.hid (fun w => text_number (cutB s) 2 w (by omega) (by omega))
  clear z1 z2 z3 z4 z5 hyb
  rw [h4] at HN4
  clear h4
  try generalize numVal (bare (cutA (cutA s))).data.toList 4 = yv at *
  try generalize numVal (cutB (cutA s)).data.toList 2 = mv at *
  try generalize numVal (cutB s).data.toList 2 = dv at *
  try generalize numOk (bare (cutA (cutA s))).data.toList 4 = o4 at *
  try generalize numOk (cutB (cutA s)).data.toList 2 = om at *
  try generalize numOk (cutB s).data.toList 2 = od at *
  try generalize below0 (cutA (cutA s)) = bw at *
  generalize (bare (cutA (cutA s))) = tF at *
  generalize (cutB (cutA s)) = tB at *
  generalize (cutB s) = tC at *
  generalize cutA (cutA s) = tA at *
  go_enter Tryz.func17, Tryz.ntmps17
  go_wp2_with fail
  refine (HP.out _).mono ?_
  rintro e w1 ⟨rfl, hb1⟩
  obtain ⟨hc1, hf1⟩ := bcell hb1
  have hz1 := hb1.size
  try simp at hz1
  have hs1x0 : w.heap.size < w1.heap.size := by omega
  have g1x0 : w1.cell? ⟨w.heap.size, 0, none⟩ = some (.int .i64 (0)) := (hc1 _ _ (by first | omega | (simp; done) | (simp; omega))).trans (by first | (with_reducible assumption) | (simp [go_sem]; done) | (simp [go_sem, *]; done) | assumption)
  have g1x1 : w1.cell? ⟨w.heap.size, 1, none⟩ = some (.int .i64 (0)) := (hc1 _ _ (by first | omega | (simp; done) | (simp; omega))).trans (by first | (with_reducible assumption) | (simp [go_sem]; done) | (simp [go_sem, *]; done) | assumption)
  have g1x2 : w1.cell? ⟨w.heap.size, 2, none⟩ = some (.int .i64 (0)) := (hc1 _ _ (by first | omega | (simp; done) | (simp; omega))).trans (by first | (with_reducible assumption) | (simp [go_sem]; done) | (simp [go_sem, *]; done) | assumption)
  go_wp2_with fail
  refine (HX.out _).mono ?_
  rintro e w' ⟨rfl, rfl⟩
  go_wp2_with fail
  refine (HN4.out _).mono ?_
  rintro e w' ⟨rfl, rfl⟩
  go_wp2_with fail
  refine (HNm.out _).mono ?_
  rintro e w' ⟨rfl, rfl⟩
  go_wp2_with fail
  refine (HNd.out _).mono ?_
  rintro e w' ⟨rfl, rfl⟩
  go_wp2_with fail
  refine bodyPost_ret (v := .tuple #[.agg #[.int .i64 (0), .int .i64 (0), .int .i64 (0)], .int .i64 (5)]) (by simp [results, Tryz.results17, go_sem, *]) rfl ⟨rfl, ?_⟩
  repeat (first | (with_reducible exact Below.refl _ _) | (with_reducible assumption) | (with_reducible refine bdrew ?_) | (with_reducible refine baa ?_ _) | (with_reducible refine bs ?_ (by first | exact Nat.le_refl _ | omega | (simp; done) | (simp; omega)) _) | (with_reducible refine bt ?_ (by with_reducible assumption)))
set_option maxHeartbeats 4000000 in
theorem text_ReadCivil_m (s : ByteArray) (hs : s.size ≤ 1000000) (w : World) (hG : Tab w 2 Gr.gregCells) (h4 : numOk (bare (cutA (cutA s))).data.toList 4 = true) (h5 : numOk (cutB (cutA s)).data.toList 2 = false) :
    Calls Tryz.prog 17 #[.string s] w fun e w' => e = .returned (.tuple #[.agg #[.int .i64 (0), .int .i64 (0), .int .i64 (0)], .int .i64 (5)]) ∧ Below w.heap.size w w' := by
  have z1 := cutA_size s
  have z2 := cutA_size (cutA s)
  have z3 := bare_size (cutA (cutA s))
  have z4 := cutB_size (cutA s)
  have z5 := cutB_size s
  have hyb := numVal_bd (bare (cutA (cutA s))).data.toList 4
  have y0 := hyb.1
  have y1 : numVal (bare (cutA (cutA s))).data.toList 4 < 10000 := hyb.2
  have HP := Lib.hid (fun w => text_part s w hs)
  have HX0 : ∀ w : World, Calls Tryz.prog 52 #[.string (cutA (cutA s)), .string ⟨#[45]⟩] w (fun e w' => e = .returned (.tuple #[.string (bare (cutA (cutA s))), .bool (below0 (cutA (cutA s)))]) ∧ w = w') := fun w => (Tryz.strings_CutPrefix (cutA (cutA s)) ⟨#[45]⟩ w).mono fun _ _ h => ⟨h.1, h.2.symm⟩
  have HX := Lib.hid HX0
  clear HX0
  have HN4 := Lib.hid (fun w => text_number (bare (cutA (cutA s))) 4 w (by omega) (by omega))
  have HNm := Lib.hid (fun w => text_number (cutB (cutA s)) 2 w (by omega) (by omega))
  have HNd := Lib.hid (fun w => text_number (cutB s) 2 w (by omega) (by omega))
  clear z1 z2 z3 z4 z5 hyb
  rw [h4] at HN4
  rw [h5] at HNm
  clear h4 h5
  try generalize numVal (bare (cutA (cutA s))).data.toList 4 = yv at *
  try generalize numVal (cutB (cutA s)).data.toList 2 = mv at *
  try generalize numVal (cutB s).data.toList 2 = dv at *
  try generalize numOk (bare (cutA (cutA s))).data.toList 4 = o4 at *
  try generalize numOk (cutB (cutA s)).data.toList 2 = om at *
  try generalize numOk (cutB s).data.toList 2 = od at *
  try generalize below0 (cutA (cutA s)) = bw at *
  generalize (bare (cutA (cutA s))) = tF at *
  generalize (cutB (cutA s)) = tB at *
  generalize (cutB s) = tC at *
  generalize cutA (cutA s) = tA at *
  go_enter Tryz.func17, Tryz.ntmps17
  go_wp2_with fail
  refine (HP.out _).mono ?_
  rintro e w1 ⟨rfl, hb1⟩
  obtain ⟨hc1, hf1⟩ := bcell hb1
  have hz1 := hb1.size
  try simp at hz1
  have hs1x0 : w.heap.size < w1.heap.size := by omega
  have g1x0 : w1.cell? ⟨w.heap.size, 0, none⟩ = some (.int .i64 (0)) := (hc1 _ _ (by first | omega | (simp; done) | (simp; omega))).trans (by first | (with_reducible assumption) | (simp [go_sem]; done) | (simp [go_sem, *]; done) | assumption)
  have g1x1 : w1.cell? ⟨w.heap.size, 1, none⟩ = some (.int .i64 (0)) := (hc1 _ _ (by first | omega | (simp; done) | (simp; omega))).trans (by first | (with_reducible assumption) | (simp [go_sem]; done) | (simp [go_sem, *]; done) | assumption)
  have g1x2 : w1.cell? ⟨w.heap.size, 2, none⟩ = some (.int .i64 (0)) := (hc1 _ _ (by first | omega | (simp; done) | (simp; omega))).trans (by first | (with_reducible assumption) | (simp [go_sem]; done) | (simp [go_sem, *]; done) | assumption)
  go_wp2_with fail
  refine (HX.out _).mono ?_
  rintro e w' ⟨rfl, rfl⟩
  go_wp2_with fail
  refine (HN4.out _).mono ?_
  rintro e w' ⟨rfl, rfl⟩
  go_wp2_with fail
  refine (HNm.out _).mono ?_
  rintro e w' ⟨rfl, rfl⟩
  go_wp2_with fail
  refine (HNd.out _).mono ?_
  rintro e w' ⟨rfl, rfl⟩
  go_wp2_with fail
  refine bodyPost_ret (v := .tuple #[.agg #[.int .i64 (0), .int .i64 (0), .int .i64 (0)], .int .i64 (5)]) (by simp [results, Tryz.results17, go_sem, *]) rfl ⟨rfl, ?_⟩
  repeat (first | (with_reducible exact Below.refl _ _) | (with_reducible assumption) | (with_reducible refine bdrew ?_) | (with_reducible refine baa ?_ _) | (with_reducible refine bs ?_ (by first | exact Nat.le_refl _ | omega | (simp; done) | (simp; omega)) _) | (with_reducible refine bt ?_ (by with_reducible assumption)))
set_option maxHeartbeats 4000000 in
theorem text_ReadCivil_d (s : ByteArray) (hs : s.size ≤ 1000000) (w : World) (hG : Tab w 2 Gr.gregCells) (h4 : numOk (bare (cutA (cutA s))).data.toList 4 = true) (h5 : numOk (cutB (cutA s)).data.toList 2 = true) (h6 : numOk (cutB s).data.toList 2 = false) :
    Calls Tryz.prog 17 #[.string s] w fun e w' => e = .returned (.tuple #[.agg #[.int .i64 (0), .int .i64 (0), .int .i64 (0)], .int .i64 (5)]) ∧ Below w.heap.size w w' := by
  have z1 := cutA_size s
  have z2 := cutA_size (cutA s)
  have z3 := bare_size (cutA (cutA s))
  have z4 := cutB_size (cutA s)
  have z5 := cutB_size s
  have hyb := numVal_bd (bare (cutA (cutA s))).data.toList 4
  have y0 := hyb.1
  have y1 : numVal (bare (cutA (cutA s))).data.toList 4 < 10000 := hyb.2
  have HP := Lib.hid (fun w => text_part s w hs)
  have HX0 : ∀ w : World, Calls Tryz.prog 52 #[.string (cutA (cutA s)), .string ⟨#[45]⟩] w (fun e w' => e = .returned (.tuple #[.string (bare (cutA (cutA s))), .bool (below0 (cutA (cutA s)))]) ∧ w = w') := fun w => (Tryz.strings_CutPrefix (cutA (cutA s)) ⟨#[45]⟩ w).mono fun _ _ h => ⟨h.1, h.2.symm⟩
  have HX := Lib.hid HX0
  clear HX0
  have HN4 := Lib.hid (fun w => text_number (bare (cutA (cutA s))) 4 w (by omega) (by omega))
  have HNm := Lib.hid (fun w => text_number (cutB (cutA s)) 2 w (by omega) (by omega))
  have HNd := Lib.hid (fun w => text_number (cutB s) 2 w (by omega) (by omega))
  clear z1 z2 z3 z4 z5 hyb
  rw [h4] at HN4
  rw [h5] at HNm
  rw [h6] at HNd
  clear h4 h5 h6
  try generalize numVal (bare (cutA (cutA s))).data.toList 4 = yv at *
  try generalize numVal (cutB (cutA s)).data.toList 2 = mv at *
  try generalize numVal (cutB s).data.toList 2 = dv at *
  try generalize numOk (bare (cutA (cutA s))).data.toList 4 = o4 at *
  try generalize numOk (cutB (cutA s)).data.toList 2 = om at *
  try generalize numOk (cutB s).data.toList 2 = od at *
  try generalize below0 (cutA (cutA s)) = bw at *
  generalize (bare (cutA (cutA s))) = tF at *
  generalize (cutB (cutA s)) = tB at *
  generalize (cutB s) = tC at *
  generalize cutA (cutA s) = tA at *
  go_enter Tryz.func17, Tryz.ntmps17
  go_wp2_with fail
  refine (HP.out _).mono ?_
  rintro e w1 ⟨rfl, hb1⟩
  obtain ⟨hc1, hf1⟩ := bcell hb1
  have hz1 := hb1.size
  try simp at hz1
  have hs1x0 : w.heap.size < w1.heap.size := by omega
  have g1x0 : w1.cell? ⟨w.heap.size, 0, none⟩ = some (.int .i64 (0)) := (hc1 _ _ (by first | omega | (simp; done) | (simp; omega))).trans (by first | (with_reducible assumption) | (simp [go_sem]; done) | (simp [go_sem, *]; done) | assumption)
  have g1x1 : w1.cell? ⟨w.heap.size, 1, none⟩ = some (.int .i64 (0)) := (hc1 _ _ (by first | omega | (simp; done) | (simp; omega))).trans (by first | (with_reducible assumption) | (simp [go_sem]; done) | (simp [go_sem, *]; done) | assumption)
  have g1x2 : w1.cell? ⟨w.heap.size, 2, none⟩ = some (.int .i64 (0)) := (hc1 _ _ (by first | omega | (simp; done) | (simp; omega))).trans (by first | (with_reducible assumption) | (simp [go_sem]; done) | (simp [go_sem, *]; done) | assumption)
  go_wp2_with fail
  refine (HX.out _).mono ?_
  rintro e w' ⟨rfl, rfl⟩
  go_wp2_with fail
  refine (HN4.out _).mono ?_
  rintro e w' ⟨rfl, rfl⟩
  go_wp2_with fail
  refine (HNm.out _).mono ?_
  rintro e w' ⟨rfl, rfl⟩
  go_wp2_with fail
  refine (HNd.out _).mono ?_
  rintro e w' ⟨rfl, rfl⟩
  go_wp2_with fail
  refine bodyPost_ret (v := .tuple #[.agg #[.int .i64 (0), .int .i64 (0), .int .i64 (0)], .int .i64 (5)]) (by simp [results, Tryz.results17, go_sem, *]) rfl ⟨rfl, ?_⟩
  repeat (first | (with_reducible exact Below.refl _ _) | (with_reducible assumption) | (with_reducible refine bdrew ?_) | (with_reducible refine baa ?_ _) | (with_reducible refine bs ?_ (by first | exact Nat.le_refl _ | omega | (simp; done) | (simp; omega)) _) | (with_reducible refine bt ?_ (by with_reducible assumption)))
set_option maxHeartbeats 4000000 in
theorem text_ReadCivil_z (s : ByteArray) (hs : s.size ≤ 1000000) (w : World) (hG : Tab w 2 Gr.gregCells) (h4 : numOk (bare (cutA (cutA s))).data.toList 4 = true) (h5 : numOk (cutB (cutA s)).data.toList 2 = true) (h6 : numOk (cutB s).data.toList 2 = true) (hb : below0 (cutA (cutA s)) = true) (hz : (numVal (bare (cutA (cutA s))).data.toList 4 == 0) = true) :
    Calls Tryz.prog 17 #[.string s] w fun e w' => e = .returned (.tuple #[.agg #[.int .i64 (0), .int .i64 (0), .int .i64 (0)], .int .i64 (5)]) ∧ Below w.heap.size w w' := by
  have z1 := cutA_size s
  have z2 := cutA_size (cutA s)
  have z3 := bare_size (cutA (cutA s))
  have z4 := cutB_size (cutA s)
  have z5 := cutB_size s
  have hyb := numVal_bd (bare (cutA (cutA s))).data.toList 4
  have y0 := hyb.1
  have y1 : numVal (bare (cutA (cutA s))).data.toList 4 < 10000 := hyb.2
  have HP := Lib.hid (fun w => text_part s w hs)
  have HX0 : ∀ w : World, Calls Tryz.prog 52 #[.string (cutA (cutA s)), .string ⟨#[45]⟩] w (fun e w' => e = .returned (.tuple #[.string (bare (cutA (cutA s))), .bool (below0 (cutA (cutA s)))]) ∧ w = w') := fun w => (Tryz.strings_CutPrefix (cutA (cutA s)) ⟨#[45]⟩ w).mono fun _ _ h => ⟨h.1, h.2.symm⟩
  have HX := Lib.hid HX0
  clear HX0
  have HN4 := Lib.hid (fun w => text_number (bare (cutA (cutA s))) 4 w (by omega) (by omega))
  have HNm := Lib.hid (fun w => text_number (cutB (cutA s)) 2 w (by omega) (by omega))
  have HNd := Lib.hid (fun w => text_number (cutB s) 2 w (by omega) (by omega))
  clear z1 z2 z3 z4 z5 hyb
  rw [h4] at HN4
  rw [h5] at HNm
  rw [h6] at HNd
  clear h4 h5 h6
  rw [hb] at HX
  clear hb
  try generalize numVal (bare (cutA (cutA s))).data.toList 4 = yv at *
  try generalize numVal (cutB (cutA s)).data.toList 2 = mv at *
  try generalize numVal (cutB s).data.toList 2 = dv at *
  try generalize numOk (bare (cutA (cutA s))).data.toList 4 = o4 at *
  try generalize numOk (cutB (cutA s)).data.toList 2 = om at *
  try generalize numOk (cutB s).data.toList 2 = od at *
  try generalize below0 (cutA (cutA s)) = bw at *
  generalize (bare (cutA (cutA s))) = tF at *
  generalize (cutB (cutA s)) = tB at *
  generalize (cutB s) = tC at *
  generalize cutA (cutA s) = tA at *
  go_enter Tryz.func17, Tryz.ntmps17
  go_wp2_with fail
  refine (HP.out _).mono ?_
  rintro e w1 ⟨rfl, hb1⟩
  obtain ⟨hc1, hf1⟩ := bcell hb1
  have hz1 := hb1.size
  try simp at hz1
  have hs1x0 : w.heap.size < w1.heap.size := by omega
  have g1x0 : w1.cell? ⟨w.heap.size, 0, none⟩ = some (.int .i64 (0)) := (hc1 _ _ (by first | omega | (simp; done) | (simp; omega))).trans (by first | (with_reducible assumption) | (simp [go_sem]; done) | (simp [go_sem, *]; done) | assumption)
  have g1x1 : w1.cell? ⟨w.heap.size, 1, none⟩ = some (.int .i64 (0)) := (hc1 _ _ (by first | omega | (simp; done) | (simp; omega))).trans (by first | (with_reducible assumption) | (simp [go_sem]; done) | (simp [go_sem, *]; done) | assumption)
  have g1x2 : w1.cell? ⟨w.heap.size, 2, none⟩ = some (.int .i64 (0)) := (hc1 _ _ (by first | omega | (simp; done) | (simp; omega))).trans (by first | (with_reducible assumption) | (simp [go_sem]; done) | (simp [go_sem, *]; done) | assumption)
  go_wp2_with fail
  refine (HX.out _).mono ?_
  rintro e w' ⟨rfl, rfl⟩
  go_wp2_with fail
  refine (HN4.out _).mono ?_
  rintro e w' ⟨rfl, rfl⟩
  go_wp2_with fail
  refine (HNm.out _).mono ?_
  rintro e w' ⟨rfl, rfl⟩
  go_wp2_with fail
  refine (HNd.out _).mono ?_
  rintro e w' ⟨rfl, rfl⟩
  go_wp2_with fail
  refine bodyPost_ret (v := .tuple #[.agg #[.int .i64 (0), .int .i64 (0), .int .i64 (0)], .int .i64 (5)]) (by simp [results, Tryz.results17, go_sem, *]) rfl ⟨rfl, ?_⟩
  repeat (first | (with_reducible exact Below.refl _ _) | (with_reducible assumption) | (with_reducible refine bdrew ?_) | (with_reducible refine baa ?_ _) | (with_reducible refine bs ?_ (by first | exact Nat.le_refl _ | omega | (simp; done) | (simp; omega)) _) | (with_reducible refine bt ?_ (by with_reducible assumption)))
set_option maxHeartbeats 4000000 in
theorem text_ReadCivil_rp (s : ByteArray) (hs : s.size ≤ 1000000) (w : World) (hG : Tab w 2 Gr.gregCells) (h4 : numOk (bare (cutA (cutA s))).data.toList 4 = true) (h5 : numOk (cutB (cutA s)).data.toList 2 = true) (h6 : numOk (cutB s).data.toList 2 = true) (hb : below0 (cutA (cutA s)) = false) (h0 : ¬ Gr.gtE (numVal (bare (cutA (cutA s))).data.toList 4) (numVal (cutB (cutA s)).data.toList 2) (numVal (cutB s).data.toList 2) = 0) :
    Calls Tryz.prog 17 #[.string s] w fun e w' => e = .returned (.tuple #[.agg #[.int .i64 (0), .int .i64 (0), .int .i64 (0)], .int .i64 (2)]) ∧ Below w.heap.size w w' := by
  have z1 := cutA_size s
  have z2 := cutA_size (cutA s)
  have z3 := bare_size (cutA (cutA s))
  have z4 := cutB_size (cutA s)
  have z5 := cutB_size s
  have hyb := numVal_bd (bare (cutA (cutA s))).data.toList 4
  have y0 := hyb.1
  have y1 : numVal (bare (cutA (cutA s))).data.toList 4 < 10000 := hyb.2
  have HP := Lib.hid (fun w => text_part s w hs)
  have HX0 : ∀ w : World, Calls Tryz.prog 52 #[.string (cutA (cutA s)), .string ⟨#[45]⟩] w (fun e w' => e = .returned (.tuple #[.string (bare (cutA (cutA s))), .bool (below0 (cutA (cutA s)))]) ∧ w = w') := fun w => (Tryz.strings_CutPrefix (cutA (cutA s)) ⟨#[45]⟩ w).mono fun _ _ h => ⟨h.1, h.2.symm⟩
  have HX := Lib.hid HX0
  clear HX0
  have HN4 := Lib.hid (fun w => text_number (bare (cutA (cutA s))) 4 w (by omega) (by omega))
  have HNm := Lib.hid (fun w => text_number (cutB (cutA s)) 2 w (by omega) (by omega))
  have HNd := Lib.hid (fun w => text_number (cutB s) 2 w (by omega) (by omega))
  clear z1 z2 z3 z4 z5 hyb
  rw [h4] at HN4
  rw [h5] at HNm
  rw [h6] at HNd
  clear h4 h5 h6
  rw [hb] at HX
  clear hb
  have HG := Lib.hid (fun w hG => greg_ToDay (numVal (bare (cutA (cutA s))).data.toList 4) (numVal (cutB (cutA s)).data.toList 2) (numVal (cutB s).data.toList 2) w hG)
  have hne : (Gr.gtE (numVal (bare (cutA (cutA s))).data.toList 4) (numVal (cutB (cutA s)).data.toList 2) (numVal (cutB s).data.toList 2) != 0) = true := by simpa using h0
  clear h0
  generalize Gr.gtE (numVal (bare (cutA (cutA s))).data.toList 4) (numVal (cutB (cutA s)).data.toList 2) (numVal (cutB s).data.toList 2) = ge at *
  generalize Gr.gtV (numVal (bare (cutA (cutA s))).data.toList 4) (numVal (cutB (cutA s)).data.toList 2) (numVal (cutB s).data.toList 2) = gv at *
  try generalize numVal (bare (cutA (cutA s))).data.toList 4 = yv at *
  try generalize numVal (cutB (cutA s)).data.toList 2 = mv at *
  try generalize numVal (cutB s).data.toList 2 = dv at *
  try generalize numOk (bare (cutA (cutA s))).data.toList 4 = o4 at *
  try generalize numOk (cutB (cutA s)).data.toList 2 = om at *
  try generalize numOk (cutB s).data.toList 2 = od at *
  try generalize below0 (cutA (cutA s)) = bw at *
  generalize (bare (cutA (cutA s))) = tF at *
  generalize (cutB (cutA s)) = tB at *
  generalize (cutB s) = tC at *
  generalize cutA (cutA s) = tA at *
  go_enter Tryz.func17, Tryz.ntmps17
  go_wp2_with fail
  refine (HP.out _).mono ?_
  rintro e w1 ⟨rfl, hb1⟩
  obtain ⟨hc1, hf1⟩ := bcell hb1
  have hz1 := hb1.size
  try simp at hz1
  have hs1x0 : w.heap.size < w1.heap.size := by omega
  have g1x0 : w1.cell? ⟨w.heap.size, 0, none⟩ = some (.int .i64 (0)) := (hc1 _ _ (by first | omega | (simp; done) | (simp; omega))).trans (by first | (with_reducible assumption) | (simp [go_sem]; done) | (simp [go_sem, *]; done) | assumption)
  have g1x1 : w1.cell? ⟨w.heap.size, 1, none⟩ = some (.int .i64 (0)) := (hc1 _ _ (by first | omega | (simp; done) | (simp; omega))).trans (by first | (with_reducible assumption) | (simp [go_sem]; done) | (simp [go_sem, *]; done) | assumption)
  have g1x2 : w1.cell? ⟨w.heap.size, 2, none⟩ = some (.int .i64 (0)) := (hc1 _ _ (by first | omega | (simp; done) | (simp; omega))).trans (by first | (with_reducible assumption) | (simp [go_sem]; done) | (simp [go_sem, *]; done) | assumption)
  go_wp2_with fail
  refine (HX.out _).mono ?_
  rintro e w' ⟨rfl, rfl⟩
  go_wp2_with fail
  refine (HN4.out _).mono ?_
  rintro e w' ⟨rfl, rfl⟩
  go_wp2_with fail
  refine (HNm.out _).mono ?_
  rintro e w' ⟨rfl, rfl⟩
  go_wp2_with fail
  refine (HNd.out _).mono ?_
  rintro e w' ⟨rfl, rfl⟩
  go_wp2_with fail
  have hq5 : w.heap.size < w1.heap.size + 1 := by omega
  refine (HG.out _ (Tab.below hG (by repeat (first | (with_reducible exact Below.refl _ _) | (with_reducible assumption) | (with_reducible refine bdrew ?_) | (with_reducible refine baa ?_ _) | (with_reducible refine bs ?_ (by first | exact Nat.le_refl _ | omega | (simp; done) | (simp; omega)) _) | (with_reducible refine bt ?_ (by with_reducible assumption)))))).mono ?_
  rintro e w2 ⟨rfl, hb2⟩
  obtain ⟨hc2, hf2⟩ := bcell hb2
  have hz2 := hb2.size
  try simp at hz2
  have hs2x0 : w.heap.size < w2.heap.size := by omega
  have hs2x1 : w1.heap.size < w2.heap.size := by omega
  have g2x0 : w2.cell? ⟨w.heap.size, 0, none⟩ = some (.int .i64 (0)) := (hc2 _ _ (by first | omega | (simp; done) | (simp; omega))).trans (by first | (with_reducible assumption) | (simp [go_sem]; done) | (simp [go_sem, *]; done) | assumption)
  have g2x1 : w2.cell? ⟨w.heap.size, 1, none⟩ = some (.int .i64 (0)) := (hc2 _ _ (by first | omega | (simp; done) | (simp; omega))).trans (by first | (with_reducible assumption) | (simp [go_sem]; done) | (simp [go_sem, *]; done) | assumption)
  have g2x2 : w2.cell? ⟨w.heap.size, 2, none⟩ = some (.int .i64 (0)) := (hc2 _ _ (by first | omega | (simp; done) | (simp; omega))).trans (by first | (with_reducible assumption) | (simp [go_sem]; done) | (simp [go_sem, *]; done) | assumption)
  have g2x3 : w2.cell? ⟨w1.heap.size, 0, none⟩ = some (.int .i64 (yv)) := (hc2 _ _ (by first | omega | (simp; done) | (simp; omega))).trans (by first | (with_reducible assumption) | (simp [go_sem]; done) | (simp [go_sem, *]; done) | assumption)
  have g2x4 : w2.cell? ⟨w1.heap.size, 1, none⟩ = some (.int .i64 (mv)) := (hc2 _ _ (by first | omega | (simp; done) | (simp; omega))).trans (by first | (with_reducible assumption) | (simp [go_sem]; done) | (simp [go_sem, *]; done) | assumption)
  have g2x5 : w2.cell? ⟨w1.heap.size, 2, none⟩ = some (.int .i64 (dv)) := (hc2 _ _ (by first | omega | (simp; done) | (simp; omega))).trans (by first | (with_reducible assumption) | (simp [go_sem]; done) | (simp [go_sem, *]; done) | assumption)
  go_wp2_with fail
  clear hc2
  refine bodyPost_ret (v := .tuple #[.agg #[.int .i64 (0), .int .i64 (0), .int .i64 (0)], .int .i64 (2)]) (by simp [results, Tryz.results17, go_sem, *]) rfl ⟨rfl, ?_⟩
  repeat (first | (with_reducible exact Below.refl _ _) | (with_reducible assumption) | (with_reducible refine bdrew ?_) | (with_reducible refine baa ?_ _) | (with_reducible refine bs ?_ (by first | exact Nat.le_refl _ | omega | (simp; done) | (simp; omega)) _) | (with_reducible refine bt ?_ (by with_reducible assumption)))
set_option maxHeartbeats 4000000 in
theorem text_ReadCivil_kp (s : ByteArray) (hs : s.size ≤ 1000000) (w : World) (hG : Tab w 2 Gr.gregCells) (h4 : numOk (bare (cutA (cutA s))).data.toList 4 = true) (h5 : numOk (cutB (cutA s)).data.toList 2 = true) (h6 : numOk (cutB s).data.toList 2 = true) (hb : below0 (cutA (cutA s)) = false) (h0 : Gr.gtE (numVal (bare (cutA (cutA s))).data.toList 4) (numVal (cutB (cutA s)).data.toList 2) (numVal (cutB s).data.toList 2) = 0) :
    Calls Tryz.prog 17 #[.string s] w fun e w' => e = .returned (.tuple #[.agg #[.int .i64 (numVal (bare (cutA (cutA s))).data.toList 4), .int .i64 (numVal (cutB (cutA s)).data.toList 2), .int .i64 (numVal (cutB s).data.toList 2)], .int .i64 (0)]) ∧ Below w.heap.size w w' := by
  have z1 := cutA_size s
  have z2 := cutA_size (cutA s)
  have z3 := bare_size (cutA (cutA s))
  have z4 := cutB_size (cutA s)
  have z5 := cutB_size s
  have hyb := numVal_bd (bare (cutA (cutA s))).data.toList 4
  have y0 := hyb.1
  have y1 : numVal (bare (cutA (cutA s))).data.toList 4 < 10000 := hyb.2
  have HP := Lib.hid (fun w => text_part s w hs)
  have HX0 : ∀ w : World, Calls Tryz.prog 52 #[.string (cutA (cutA s)), .string ⟨#[45]⟩] w (fun e w' => e = .returned (.tuple #[.string (bare (cutA (cutA s))), .bool (below0 (cutA (cutA s)))]) ∧ w = w') := fun w => (Tryz.strings_CutPrefix (cutA (cutA s)) ⟨#[45]⟩ w).mono fun _ _ h => ⟨h.1, h.2.symm⟩
  have HX := Lib.hid HX0
  clear HX0
  have HN4 := Lib.hid (fun w => text_number (bare (cutA (cutA s))) 4 w (by omega) (by omega))
  have HNm := Lib.hid (fun w => text_number (cutB (cutA s)) 2 w (by omega) (by omega))
  have HNd := Lib.hid (fun w => text_number (cutB s) 2 w (by omega) (by omega))
  clear z1 z2 z3 z4 z5 hyb
  rw [h4] at HN4
  rw [h5] at HNm
  rw [h6] at HNd
  clear h4 h5 h6
  rw [hb] at HX
  clear hb
  have HG := Lib.hid (fun w hG => greg_ToDay (numVal (bare (cutA (cutA s))).data.toList 4) (numVal (cutB (cutA s)).data.toList 2) (numVal (cutB s).data.toList 2) w hG)
  rw [h0] at HG
  clear h0
  generalize Gr.gtV (numVal (bare (cutA (cutA s))).data.toList 4) (numVal (cutB (cutA s)).data.toList 2) (numVal (cutB s).data.toList 2) = gv at *
  try generalize numVal (bare (cutA (cutA s))).data.toList 4 = yv at *
  try generalize numVal (cutB (cutA s)).data.toList 2 = mv at *
  try generalize numVal (cutB s).data.toList 2 = dv at *
  try generalize numOk (bare (cutA (cutA s))).data.toList 4 = o4 at *
  try generalize numOk (cutB (cutA s)).data.toList 2 = om at *
  try generalize numOk (cutB s).data.toList 2 = od at *
  try generalize below0 (cutA (cutA s)) = bw at *
  generalize (bare (cutA (cutA s))) = tF at *
  generalize (cutB (cutA s)) = tB at *
  generalize (cutB s) = tC at *
  generalize cutA (cutA s) = tA at *
  go_enter Tryz.func17, Tryz.ntmps17
  go_wp2_with fail
  refine (HP.out _).mono ?_
  rintro e w1 ⟨rfl, hb1⟩
  obtain ⟨hc1, hf1⟩ := bcell hb1
  have hz1 := hb1.size
  try simp at hz1
  have hs1x0 : w.heap.size < w1.heap.size := by omega
  have g1x0 : w1.cell? ⟨w.heap.size, 0, none⟩ = some (.int .i64 (0)) := (hc1 _ _ (by first | omega | (simp; done) | (simp; omega))).trans (by first | (with_reducible assumption) | (simp [go_sem]; done) | (simp [go_sem, *]; done) | assumption)
  have g1x1 : w1.cell? ⟨w.heap.size, 1, none⟩ = some (.int .i64 (0)) := (hc1 _ _ (by first | omega | (simp; done) | (simp; omega))).trans (by first | (with_reducible assumption) | (simp [go_sem]; done) | (simp [go_sem, *]; done) | assumption)
  have g1x2 : w1.cell? ⟨w.heap.size, 2, none⟩ = some (.int .i64 (0)) := (hc1 _ _ (by first | omega | (simp; done) | (simp; omega))).trans (by first | (with_reducible assumption) | (simp [go_sem]; done) | (simp [go_sem, *]; done) | assumption)
  go_wp2_with fail
  refine (HX.out _).mono ?_
  rintro e w' ⟨rfl, rfl⟩
  go_wp2_with fail
  refine (HN4.out _).mono ?_
  rintro e w' ⟨rfl, rfl⟩
  go_wp2_with fail
  refine (HNm.out _).mono ?_
  rintro e w' ⟨rfl, rfl⟩
  go_wp2_with fail
  refine (HNd.out _).mono ?_
  rintro e w' ⟨rfl, rfl⟩
  go_wp2_with fail
  have hq5 : w.heap.size < w1.heap.size + 1 := by omega
  refine (HG.out _ (Tab.below hG (by repeat (first | (with_reducible exact Below.refl _ _) | (with_reducible assumption) | (with_reducible refine bdrew ?_) | (with_reducible refine baa ?_ _) | (with_reducible refine bs ?_ (by first | exact Nat.le_refl _ | omega | (simp; done) | (simp; omega)) _) | (with_reducible refine bt ?_ (by with_reducible assumption)))))).mono ?_
  rintro e w2 ⟨rfl, hb2⟩
  obtain ⟨hc2, hf2⟩ := bcell hb2
  have hz2 := hb2.size
  try simp at hz2
  have hs2x0 : w.heap.size < w2.heap.size := by omega
  have hs2x1 : w1.heap.size < w2.heap.size := by omega
  have g2x0 : w2.cell? ⟨w.heap.size, 0, none⟩ = some (.int .i64 (0)) := (hc2 _ _ (by first | omega | (simp; done) | (simp; omega))).trans (by first | (with_reducible assumption) | (simp [go_sem]; done) | (simp [go_sem, *]; done) | assumption)
  have g2x1 : w2.cell? ⟨w.heap.size, 1, none⟩ = some (.int .i64 (0)) := (hc2 _ _ (by first | omega | (simp; done) | (simp; omega))).trans (by first | (with_reducible assumption) | (simp [go_sem]; done) | (simp [go_sem, *]; done) | assumption)
  have g2x2 : w2.cell? ⟨w.heap.size, 2, none⟩ = some (.int .i64 (0)) := (hc2 _ _ (by first | omega | (simp; done) | (simp; omega))).trans (by first | (with_reducible assumption) | (simp [go_sem]; done) | (simp [go_sem, *]; done) | assumption)
  have g2x3 : w2.cell? ⟨w1.heap.size, 0, none⟩ = some (.int .i64 (yv)) := (hc2 _ _ (by first | omega | (simp; done) | (simp; omega))).trans (by first | (with_reducible assumption) | (simp [go_sem]; done) | (simp [go_sem, *]; done) | assumption)
  have g2x4 : w2.cell? ⟨w1.heap.size, 1, none⟩ = some (.int .i64 (mv)) := (hc2 _ _ (by first | omega | (simp; done) | (simp; omega))).trans (by first | (with_reducible assumption) | (simp [go_sem]; done) | (simp [go_sem, *]; done) | assumption)
  have g2x5 : w2.cell? ⟨w1.heap.size, 2, none⟩ = some (.int .i64 (dv)) := (hc2 _ _ (by first | omega | (simp; done) | (simp; omega))).trans (by first | (with_reducible assumption) | (simp [go_sem]; done) | (simp [go_sem, *]; done) | assumption)
  go_wp2_with fail
  clear hc2
  refine bodyPost_ret (v := .tuple #[.agg #[.int .i64 (yv), .int .i64 (mv), .int .i64 (dv)], .int .i64 (0)]) (by simp [results, Tryz.results17, go_sem, *]) rfl ⟨rfl, ?_⟩
  repeat (first | (with_reducible exact Below.refl _ _) | (with_reducible assumption) | (with_reducible refine bdrew ?_) | (with_reducible refine baa ?_ _) | (with_reducible refine bs ?_ (by first | exact Nat.le_refl _ | omega | (simp; done) | (simp; omega)) _) | (with_reducible refine bt ?_ (by with_reducible assumption)))
set_option maxHeartbeats 4000000 in
theorem text_ReadCivil_rn (s : ByteArray) (hs : s.size ≤ 1000000) (w : World) (hG : Tab w 2 Gr.gregCells) (h4 : numOk (bare (cutA (cutA s))).data.toList 4 = true) (h5 : numOk (cutB (cutA s)).data.toList 2 = true) (h6 : numOk (cutB s).data.toList 2 = true) (hb : below0 (cutA (cutA s)) = true) (hz : (numVal (bare (cutA (cutA s))).data.toList 4 == 0) = false) (h0 : ¬ Gr.gtE (-(numVal (bare (cutA (cutA s))).data.toList 4)) (numVal (cutB (cutA s)).data.toList 2) (numVal (cutB s).data.toList 2) = 0) :
    Calls Tryz.prog 17 #[.string s] w fun e w' => e = .returned (.tuple #[.agg #[.int .i64 (0), .int .i64 (0), .int .i64 (0)], .int .i64 (2)]) ∧ Below w.heap.size w w' := by
  have z1 := cutA_size s
  have z2 := cutA_size (cutA s)
  have z3 := bare_size (cutA (cutA s))
  have z4 := cutB_size (cutA s)
  have z5 := cutB_size s
  have hyb := numVal_bd (bare (cutA (cutA s))).data.toList 4
  have y0 := hyb.1
  have y1 : numVal (bare (cutA (cutA s))).data.toList 4 < 10000 := hyb.2
  have HP := Lib.hid (fun w => text_part s w hs)
  have HX0 : ∀ w : World, Calls Tryz.prog 52 #[.string (cutA (cutA s)), .string ⟨#[45]⟩] w (fun e w' => e = .returned (.tuple #[.string (bare (cutA (cutA s))), .bool (below0 (cutA (cutA s)))]) ∧ w = w') := fun w => (Tryz.strings_CutPrefix (cutA (cutA s)) ⟨#[45]⟩ w).mono fun _ _ h => ⟨h.1, h.2.symm⟩
  have HX := Lib.hid HX0
  clear HX0
  have HN4 := Lib.hid (fun w => text_number (bare (cutA (cutA s))) 4 w (by omega) (by omega))
  have HNm := Lib.hid (fun w => text_number (cutB (cutA s)) 2 w (by omega) (by omega))
  have HNd := Lib.hid (fun w => text_number (cutB s) 2 w (by omega) (by omega))
  clear z1 z2 z3 z4 z5 hyb
  rw [h4] at HN4
  rw [h5] at HNm
  rw [h6] at HNd
  clear h4 h5 h6
  rw [hb] at HX
  clear hb
  have HG := Lib.hid (fun w hG => greg_ToDay (-(numVal (bare (cutA (cutA s))).data.toList 4)) (numVal (cutB (cutA s)).data.toList 2) (numVal (cutB s).data.toList 2) w hG)
  have hne : (Gr.gtE (-(numVal (bare (cutA (cutA s))).data.toList 4)) (numVal (cutB (cutA s)).data.toList 2) (numVal (cutB s).data.toList 2) != 0) = true := by simpa using h0
  clear h0
  generalize Gr.gtE (-(numVal (bare (cutA (cutA s))).data.toList 4)) (numVal (cutB (cutA s)).data.toList 2) (numVal (cutB s).data.toList 2) = ge at *
  generalize Gr.gtV (-(numVal (bare (cutA (cutA s))).data.toList 4)) (numVal (cutB (cutA s)).data.toList 2) (numVal (cutB s).data.toList 2) = gv at *
  try generalize numVal (bare (cutA (cutA s))).data.toList 4 = yv at *
  try generalize numVal (cutB (cutA s)).data.toList 2 = mv at *
  try generalize numVal (cutB s).data.toList 2 = dv at *
  try generalize numOk (bare (cutA (cutA s))).data.toList 4 = o4 at *
  try generalize numOk (cutB (cutA s)).data.toList 2 = om at *
  try generalize numOk (cutB s).data.toList 2 = od at *
  try generalize below0 (cutA (cutA s)) = bw at *
  generalize (bare (cutA (cutA s))) = tF at *
  generalize (cutB (cutA s)) = tB at *
  generalize (cutB s) = tC at *
  generalize cutA (cutA s) = tA at *
  go_enter Tryz.func17, Tryz.ntmps17
  go_wp2_with fail
  refine (HP.out _).mono ?_
  rintro e w1 ⟨rfl, hb1⟩
  obtain ⟨hc1, hf1⟩ := bcell hb1
  have hz1 := hb1.size
  try simp at hz1
  have hs1x0 : w.heap.size < w1.heap.size := by omega
  have g1x0 : w1.cell? ⟨w.heap.size, 0, none⟩ = some (.int .i64 (0)) := (hc1 _ _ (by first | omega | (simp; done) | (simp; omega))).trans (by first | (with_reducible assumption) | (simp [go_sem]; done) | (simp [go_sem, *]; done) | assumption)
  have g1x1 : w1.cell? ⟨w.heap.size, 1, none⟩ = some (.int .i64 (0)) := (hc1 _ _ (by first | omega | (simp; done) | (simp; omega))).trans (by first | (with_reducible assumption) | (simp [go_sem]; done) | (simp [go_sem, *]; done) | assumption)
  have g1x2 : w1.cell? ⟨w.heap.size, 2, none⟩ = some (.int .i64 (0)) := (hc1 _ _ (by first | omega | (simp; done) | (simp; omega))).trans (by first | (with_reducible assumption) | (simp [go_sem]; done) | (simp [go_sem, *]; done) | assumption)
  go_wp2_with fail
  refine (HX.out _).mono ?_
  rintro e w' ⟨rfl, rfl⟩
  go_wp2_with fail
  refine (HN4.out _).mono ?_
  rintro e w' ⟨rfl, rfl⟩
  go_wp2_with fail
  refine (HNm.out _).mono ?_
  rintro e w' ⟨rfl, rfl⟩
  go_wp2_with fail
  refine (HNd.out _).mono ?_
  rintro e w' ⟨rfl, rfl⟩
  go_wp2_with fail
  have hq5 : w.heap.size < w1.heap.size + 1 := by omega
  refine (HG.out _ (Tab.below hG (by repeat (first | (with_reducible exact Below.refl _ _) | (with_reducible assumption) | (with_reducible refine bdrew ?_) | (with_reducible refine baa ?_ _) | (with_reducible refine bs ?_ (by first | exact Nat.le_refl _ | omega | (simp; done) | (simp; omega)) _) | (with_reducible refine bt ?_ (by with_reducible assumption)))))).mono ?_
  rintro e w2 ⟨rfl, hb2⟩
  obtain ⟨hc2, hf2⟩ := bcell hb2
  have hz2 := hb2.size
  try simp at hz2
  have hs2x0 : w.heap.size < w2.heap.size := by omega
  have hs2x1 : w1.heap.size < w2.heap.size := by omega
  have g2x0 : w2.cell? ⟨w.heap.size, 0, none⟩ = some (.int .i64 (0)) := (hc2 _ _ (by first | omega | (simp; done) | (simp; omega))).trans (by first | (with_reducible assumption) | (simp [go_sem]; done) | (simp [go_sem, *]; done) | assumption)
  have g2x1 : w2.cell? ⟨w.heap.size, 1, none⟩ = some (.int .i64 (0)) := (hc2 _ _ (by first | omega | (simp; done) | (simp; omega))).trans (by first | (with_reducible assumption) | (simp [go_sem]; done) | (simp [go_sem, *]; done) | assumption)
  have g2x2 : w2.cell? ⟨w.heap.size, 2, none⟩ = some (.int .i64 (0)) := (hc2 _ _ (by first | omega | (simp; done) | (simp; omega))).trans (by first | (with_reducible assumption) | (simp [go_sem]; done) | (simp [go_sem, *]; done) | assumption)
  have g2x3 : w2.cell? ⟨w1.heap.size, 0, none⟩ = some (.int .i64 (-yv)) := (hc2 _ _ (by first | omega | (simp; done) | (simp; omega))).trans (by first | (with_reducible assumption) | (simp [go_sem]; done) | (simp [go_sem, *]; done) | assumption)
  have g2x4 : w2.cell? ⟨w1.heap.size, 1, none⟩ = some (.int .i64 (mv)) := (hc2 _ _ (by first | omega | (simp; done) | (simp; omega))).trans (by first | (with_reducible assumption) | (simp [go_sem]; done) | (simp [go_sem, *]; done) | assumption)
  have g2x5 : w2.cell? ⟨w1.heap.size, 2, none⟩ = some (.int .i64 (dv)) := (hc2 _ _ (by first | omega | (simp; done) | (simp; omega))).trans (by first | (with_reducible assumption) | (simp [go_sem]; done) | (simp [go_sem, *]; done) | assumption)
  go_wp2_with fail
  clear hc2
  refine bodyPost_ret (v := .tuple #[.agg #[.int .i64 (0), .int .i64 (0), .int .i64 (0)], .int .i64 (2)]) (by simp [results, Tryz.results17, go_sem, *]) rfl ⟨rfl, ?_⟩
  repeat (first | (with_reducible exact Below.refl _ _) | (with_reducible assumption) | (with_reducible refine bdrew ?_) | (with_reducible refine baa ?_ _) | (with_reducible refine bs ?_ (by first | exact Nat.le_refl _ | omega | (simp; done) | (simp; omega)) _) | (with_reducible refine bt ?_ (by with_reducible assumption)))
set_option maxHeartbeats 4000000 in
theorem text_ReadCivil_kn (s : ByteArray) (hs : s.size ≤ 1000000) (w : World) (hG : Tab w 2 Gr.gregCells) (h4 : numOk (bare (cutA (cutA s))).data.toList 4 = true) (h5 : numOk (cutB (cutA s)).data.toList 2 = true) (h6 : numOk (cutB s).data.toList 2 = true) (hb : below0 (cutA (cutA s)) = true) (hz : (numVal (bare (cutA (cutA s))).data.toList 4 == 0) = false) (h0 : Gr.gtE (-(numVal (bare (cutA (cutA s))).data.toList 4)) (numVal (cutB (cutA s)).data.toList 2) (numVal (cutB s).data.toList 2) = 0) :
    Calls Tryz.prog 17 #[.string s] w fun e w' => e = .returned (.tuple #[.agg #[.int .i64 (-(numVal (bare (cutA (cutA s))).data.toList 4)), .int .i64 (numVal (cutB (cutA s)).data.toList 2), .int .i64 (numVal (cutB s).data.toList 2)], .int .i64 (0)]) ∧ Below w.heap.size w w' := by
  have z1 := cutA_size s
  have z2 := cutA_size (cutA s)
  have z3 := bare_size (cutA (cutA s))
  have z4 := cutB_size (cutA s)
  have z5 := cutB_size s
  have hyb := numVal_bd (bare (cutA (cutA s))).data.toList 4
  have y0 := hyb.1
  have y1 : numVal (bare (cutA (cutA s))).data.toList 4 < 10000 := hyb.2
  have HP := Lib.hid (fun w => text_part s w hs)
  have HX0 : ∀ w : World, Calls Tryz.prog 52 #[.string (cutA (cutA s)), .string ⟨#[45]⟩] w (fun e w' => e = .returned (.tuple #[.string (bare (cutA (cutA s))), .bool (below0 (cutA (cutA s)))]) ∧ w = w') := fun w => (Tryz.strings_CutPrefix (cutA (cutA s)) ⟨#[45]⟩ w).mono fun _ _ h => ⟨h.1, h.2.symm⟩
  have HX := Lib.hid HX0
  clear HX0
  have HN4 := Lib.hid (fun w => text_number (bare (cutA (cutA s))) 4 w (by omega) (by omega))
  have HNm := Lib.hid (fun w => text_number (cutB (cutA s)) 2 w (by omega) (by omega))
  have HNd := Lib.hid (fun w => text_number (cutB s) 2 w (by omega) (by omega))
  clear z1 z2 z3 z4 z5 hyb
  rw [h4] at HN4
  rw [h5] at HNm
  rw [h6] at HNd
  clear h4 h5 h6
  rw [hb] at HX
  clear hb
  have HG := Lib.hid (fun w hG => greg_ToDay (-(numVal (bare (cutA (cutA s))).data.toList 4)) (numVal (cutB (cutA s)).data.toList 2) (numVal (cutB s).data.toList 2) w hG)
  rw [h0] at HG
  clear h0
  generalize Gr.gtV (-(numVal (bare (cutA (cutA s))).data.toList 4)) (numVal (cutB (cutA s)).data.toList 2) (numVal (cutB s).data.toList 2) = gv at *
  try generalize numVal (bare (cutA (cutA s))).data.toList 4 = yv at *
  try generalize numVal (cutB (cutA s)).data.toList 2 = mv at *
  try generalize numVal (cutB s).data.toList 2 = dv at *
  try generalize numOk (bare (cutA (cutA s))).data.toList 4 = o4 at *
  try generalize numOk (cutB (cutA s)).data.toList 2 = om at *
  try generalize numOk (cutB s).data.toList 2 = od at *
  try generalize below0 (cutA (cutA s)) = bw at *
  generalize (bare (cutA (cutA s))) = tF at *
  generalize (cutB (cutA s)) = tB at *
  generalize (cutB s) = tC at *
  generalize cutA (cutA s) = tA at *
  go_enter Tryz.func17, Tryz.ntmps17
  go_wp2_with fail
  refine (HP.out _).mono ?_
  rintro e w1 ⟨rfl, hb1⟩
  obtain ⟨hc1, hf1⟩ := bcell hb1
  have hz1 := hb1.size
  try simp at hz1
  have hs1x0 : w.heap.size < w1.heap.size := by omega
  have g1x0 : w1.cell? ⟨w.heap.size, 0, none⟩ = some (.int .i64 (0)) := (hc1 _ _ (by first | omega | (simp; done) | (simp; omega))).trans (by first | (with_reducible assumption) | (simp [go_sem]; done) | (simp [go_sem, *]; done) | assumption)
  have g1x1 : w1.cell? ⟨w.heap.size, 1, none⟩ = some (.int .i64 (0)) := (hc1 _ _ (by first | omega | (simp; done) | (simp; omega))).trans (by first | (with_reducible assumption) | (simp [go_sem]; done) | (simp [go_sem, *]; done) | assumption)
  have g1x2 : w1.cell? ⟨w.heap.size, 2, none⟩ = some (.int .i64 (0)) := (hc1 _ _ (by first | omega | (simp; done) | (simp; omega))).trans (by first | (with_reducible assumption) | (simp [go_sem]; done) | (simp [go_sem, *]; done) | assumption)
  go_wp2_with fail
  refine (HX.out _).mono ?_
  rintro e w' ⟨rfl, rfl⟩
  go_wp2_with fail
  refine (HN4.out _).mono ?_
  rintro e w' ⟨rfl, rfl⟩
  go_wp2_with fail
  refine (HNm.out _).mono ?_
  rintro e w' ⟨rfl, rfl⟩
  go_wp2_with fail
  refine (HNd.out _).mono ?_
  rintro e w' ⟨rfl, rfl⟩
  go_wp2_with fail
  have hq5 : w.heap.size < w1.heap.size + 1 := by omega
  refine (HG.out _ (Tab.below hG (by repeat (first | (with_reducible exact Below.refl _ _) | (with_reducible assumption) | (with_reducible refine bdrew ?_) | (with_reducible refine baa ?_ _) | (with_reducible refine bs ?_ (by first | exact Nat.le_refl _ | omega | (simp; done) | (simp; omega)) _) | (with_reducible refine bt ?_ (by with_reducible assumption)))))).mono ?_
  rintro e w2 ⟨rfl, hb2⟩
  obtain ⟨hc2, hf2⟩ := bcell hb2
  have hz2 := hb2.size
  try simp at hz2
  have hs2x0 : w.heap.size < w2.heap.size := by omega
  have hs2x1 : w1.heap.size < w2.heap.size := by omega
  have g2x0 : w2.cell? ⟨w.heap.size, 0, none⟩ = some (.int .i64 (0)) := (hc2 _ _ (by first | omega | (simp; done) | (simp; omega))).trans (by first | (with_reducible assumption) | (simp [go_sem]; done) | (simp [go_sem, *]; done) | assumption)
  have g2x1 : w2.cell? ⟨w.heap.size, 1, none⟩ = some (.int .i64 (0)) := (hc2 _ _ (by first | omega | (simp; done) | (simp; omega))).trans (by first | (with_reducible assumption) | (simp [go_sem]; done) | (simp [go_sem, *]; done) | assumption)
  have g2x2 : w2.cell? ⟨w.heap.size, 2, none⟩ = some (.int .i64 (0)) := (hc2 _ _ (by first | omega | (simp; done) | (simp; omega))).trans (by first | (with_reducible assumption) | (simp [go_sem]; done) | (simp [go_sem, *]; done) | assumption)
  have g2x3 : w2.cell? ⟨w1.heap.size, 0, none⟩ = some (.int .i64 (-yv)) := (hc2 _ _ (by first | omega | (simp; done) | (simp; omega))).trans (by first | (with_reducible assumption) | (simp [go_sem]; done) | (simp [go_sem, *]; done) | assumption)
  have g2x4 : w2.cell? ⟨w1.heap.size, 1, none⟩ = some (.int .i64 (mv)) := (hc2 _ _ (by first | omega | (simp; done) | (simp; omega))).trans (by first | (with_reducible assumption) | (simp [go_sem]; done) | (simp [go_sem, *]; done) | assumption)
  have g2x5 : w2.cell? ⟨w1.heap.size, 2, none⟩ = some (.int .i64 (dv)) := (hc2 _ _ (by first | omega | (simp; done) | (simp; omega))).trans (by first | (with_reducible assumption) | (simp [go_sem]; done) | (simp [go_sem, *]; done) | assumption)
  go_wp2_with fail
  clear hc2
  refine bodyPost_ret (v := .tuple #[.agg #[.int .i64 (-yv), .int .i64 (mv), .int .i64 (dv)], .int .i64 (0)]) (by simp [results, Tryz.results17, go_sem, *]) rfl ⟨rfl, ?_⟩
  repeat (first | (with_reducible exact Below.refl _ _) | (with_reducible assumption) | (with_reducible refine bdrew ?_) | (with_reducible refine baa ?_ _) | (with_reducible refine bs ?_ (by first | exact Nat.le_refl _ | omega | (simp; done) | (simp; omega)) _) | (with_reducible refine bt ?_ (by with_reducible assumption)))
end Go.Proofs.YtafenpgafmdenaaGreatDoor
/- Layer 13: a Gregorian date's text. -/
namespace Go.Proofs.YtafenpgafmdenaaGreatDoor
open Go.ChangeShapes Go.WideShapes Go.ChangeAt Go.RowKit
set_option linter.unusedVariables false
set_option maxRecDepth 100000
def sgn (y : Int) : ByteArray := if y < 0 then ⟨#[45]⟩ else ⟨#[]⟩
def absV (y : Int) : Int := if y < 0 then -y else y
def civTxt (y m d : Int) : ByteArray := sgn y ++ digs (absV y) [1000, 100, 10, 1] ++ ⟨#[45]⟩ ++ digs m [10, 1] ++ ⟨#[45]⟩ ++ digs d [10, 1]
theorem Gr.gt_in {y m d : Int} (h : Gr.gtE y m d = 0) : -4000 ≤ y ∧ y ≤ 7000 ∧ 1 ≤ m ∧ m ≤ 12 ∧ 1 ≤ d ∧ d ≤ 31 := by
  unfold Gr.gtE at h
  split at h
  · omega
  split at h
  · omega
  split at h
  · omega
  · have : Gr.days y m ≤ 31 := by
      have hm : m = 1 ∨ m = 2 ∨ m = 3 ∨ m = 4 ∨ m = 5 ∨ m = 6 ∨ m = 7 ∨ m = 8 ∨ m = 9 ∨ m = 10 ∨ m = 11 ∨ m = 12 := by omega
      unfold Gr.days
      generalize Gr.leap y = lp
      rcases hm with rfl | rfl | rfl | rfl | rfl | rfl | rfl | rfl | rfl | rfl | rfl | rfl <;> cases lp <;> decide
    omega
set_option maxHeartbeats 4000000 in
theorem text_Civil_err (y m d : Int) (gv er : Int) (w : World) (hG : Tab w 2 Gr.gregCells) (hP : Tab w 1 powCells) (HG : Hid (∀ w : World, Tab w 2 Gr.gregCells → Calls Tryz.prog 43 #[.agg #[.int .i64 (y), .int .i64 (m), .int .i64 (d)]] w fun e w' => e = .returned (.tuple #[.int .i64 gv, .int .i64 (er)]) ∧ Below w.heap.size w w')) (h0 : (er != 0) = true) :
    Calls Tryz.prog 13 #[.agg #[.int .i64 (y), .int .i64 (m), .int .i64 (d)]] w fun e w' => e = .returned (.tuple #[.string ByteArray.empty, .int .i64 (er)]) ∧ Below w.heap.size w w' := by
  go_enter Tryz.func13, Tryz.ntmps13
  go_wp2_with fail
  refine (HG.out _ (Tab.below hG (by repeat (first | (with_reducible exact Below.refl _ _) | (with_reducible assumption) | (with_reducible refine bdrew ?_) | (with_reducible refine baa ?_ _) | (with_reducible refine bs ?_ (by first | exact Nat.le_refl _ | omega | (simp; done) | (simp; omega)) _) | (with_reducible refine bt ?_ (by with_reducible assumption)))))).mono ?_
  rintro e w1 ⟨rfl, hb1⟩
  obtain ⟨hc1, hf1⟩ := bcell hb1
  have hz1 := hb1.size
  try simp at hz1
  have hs1x0 : w.heap.size < w1.heap.size := by omega
  have g1x0 : w1.cell? ⟨w.heap.size, 0, none⟩ = some (.int .i64 (y)) := (hc1 _ _ (by first | omega | (simp; done) | (simp; omega))).trans (by first | (with_reducible assumption) | (simp [go_sem]; done) | (simp [go_sem, *]; done) | assumption)
  have g1x1 : w1.cell? ⟨w.heap.size, 1, none⟩ = some (.int .i64 (m)) := (hc1 _ _ (by first | omega | (simp; done) | (simp; omega))).trans (by first | (with_reducible assumption) | (simp [go_sem]; done) | (simp [go_sem, *]; done) | assumption)
  have g1x2 : w1.cell? ⟨w.heap.size, 2, none⟩ = some (.int .i64 (d)) := (hc1 _ _ (by first | omega | (simp; done) | (simp; omega))).trans (by first | (with_reducible assumption) | (simp [go_sem]; done) | (simp [go_sem, *]; done) | assumption)
  go_wp2_with fail
  go_ret2
  refine ⟨rfl, ?_⟩
  repeat (first | (with_reducible exact Below.refl _ _) | (with_reducible assumption) | (with_reducible refine bdrew ?_) | (with_reducible refine baa ?_ _) | (with_reducible refine bs ?_ (by first | exact Nat.le_refl _ | omega | (simp; done) | (simp; omega)) _) | (with_reducible refine bt ?_ (by with_reducible assumption)))
set_option maxHeartbeats 4000000 in
theorem text_Civil_pos (y m d : Int) (gv : Int) (ty tm td : ByteArray) (w : World) (hG : Tab w 2 Gr.gregCells) (hP : Tab w 1 powCells) (HG : Hid (∀ w : World, Tab w 2 Gr.gregCells → Calls Tryz.prog 43 #[.agg #[.int .i64 (y), .int .i64 (m), .int .i64 (d)]] w fun e w' => e = .returned (.tuple #[.int .i64 gv, .int .i64 (0)]) ∧ Below w.heap.size w w')) (HY : Hid (∀ w : World, Tab w 1 powCells → Calls Tryz.prog 40 #[.int .i64 (y), .int .i64 4] w fun e w' => e = .returned (.string ty) ∧ Below w.heap.size w w')) (HM : Hid (∀ w : World, Tab w 1 powCells → Calls Tryz.prog 40 #[.int .i64 (m), .int .i64 2] w fun e w' => e = .returned (.string tm) ∧ Below w.heap.size w w')) (HD : Hid (∀ w : World, Tab w 1 powCells → Calls Tryz.prog 40 #[.int .i64 (d), .int .i64 2] w fun e w' => e = .returned (.string td) ∧ Below w.heap.size w w')) (s4 : ty.size ≤ 4) (s2 : tm.size ≤ 2) (s3 : td.size ≤ 2) (h1 : 0 ≤ y) (h2 : y ≤ 7000) (hmx : max y (-y) = y) :
    Calls Tryz.prog 13 #[.agg #[.int .i64 (y), .int .i64 (m), .int .i64 (d)]] w fun e w' => e = .returned (.tuple #[.string (⟨#[]⟩ ++ ty ++ ⟨#[45]⟩ ++ tm ++ ⟨#[45]⟩ ++ td), .int .i64 (0)]) ∧ Below w.heap.size w w' := by
  go_enter Tryz.func13, Tryz.ntmps13
  go_wp2_with fail
  refine (HG.out _ (Tab.below hG (by repeat (first | (with_reducible exact Below.refl _ _) | (with_reducible assumption) | (with_reducible refine bdrew ?_) | (with_reducible refine baa ?_ _) | (with_reducible refine bs ?_ (by first | exact Nat.le_refl _ | omega | (simp; done) | (simp; omega)) _) | (with_reducible refine bt ?_ (by with_reducible assumption)))))).mono ?_
  rintro e w1 ⟨rfl, hb1⟩
  obtain ⟨hc1, hf1⟩ := bcell hb1
  have hz1 := hb1.size
  try simp at hz1
  have hs1x0 : w.heap.size < w1.heap.size := by omega
  have g1x0 : w1.cell? ⟨w.heap.size, 0, none⟩ = some (.int .i64 (y)) := (hc1 _ _ (by first | omega | (simp; done) | (simp; omega))).trans (by first | (with_reducible assumption) | (simp [go_sem]; done) | (simp [go_sem, *]; done) | assumption)
  have g1x1 : w1.cell? ⟨w.heap.size, 1, none⟩ = some (.int .i64 (m)) := (hc1 _ _ (by first | omega | (simp; done) | (simp; omega))).trans (by first | (with_reducible assumption) | (simp [go_sem]; done) | (simp [go_sem, *]; done) | assumption)
  have g1x2 : w1.cell? ⟨w.heap.size, 2, none⟩ = some (.int .i64 (d)) := (hc1 _ _ (by first | omega | (simp; done) | (simp; omega))).trans (by first | (with_reducible assumption) | (simp [go_sem]; done) | (simp [go_sem, *]; done) | assumption)
  go_wp2_with fail
  have hW1 : Below w.heap.size w w1 := by repeat (first | (with_reducible exact Below.refl _ _) | (with_reducible assumption) | (with_reducible refine bdrew ?_) | (with_reducible refine baa ?_ _) | (with_reducible refine bs ?_ (by first | exact Nat.le_refl _ | omega | (simp; done) | (simp; omega)) _) | (with_reducible refine bt ?_ (by with_reducible assumption)))
  refine wp_region_class (by kernel_rfl) (by kernel_rfl) (fun hall => ?_)
  repeat (first | go_big_quiet_skip | (go_big_quiet_want; first | (refine quiet_load1 _ _ _ rfl rfl ?_ ?_ ?_; (focus (intro _; simp; done)); (focus (first | assumption | omega | (simp; done) | (simp; omega))); apply Exists.intro; refine ⟨?_, ?_⟩; assumption; go_simp; go_big_quiet_on) | (refine quiet_load2 _ _ _ _ rfl rfl ?_ ?_ ?_ ?_; (focus (intro _; simp; done)); (focus (intro _; simp; done)); (focus (first | assumption | omega | (simp; done) | (simp; omega))); apply Exists.intro; apply Exists.intro; refine ⟨?_, ?_, ?_⟩; assumption; assumption; go_simp; go_big_quiet_on) | (refine quiet_load3 _ _ _ _ rfl rfl ?_ ?_ ?_ ?_; (focus (intro _; simp; done)); (focus (intro _; simp; done)); (focus (first | assumption | omega | (simp; done) | (simp; omega))); apply Exists.intro; apply Exists.intro; apply Exists.intro; refine ⟨?_, ?_, ?_, ?_⟩; assumption; assumption; assumption; go_simp; go_big_quiet_on) | (refine quiet_load4 _ _ _ _ rfl rfl ?_ ?_ ?_ ?_; (focus (intro _; simp; done)); (focus (intro _; simp; done)); (focus (first | assumption | omega | (simp; done) | (simp; omega))); apply Exists.intro; apply Exists.intro; apply Exists.intro; apply Exists.intro; refine ⟨?_, ?_, ?_, ?_, ?_⟩; assumption; assumption; assumption; assumption; go_simp; go_big_quiet_on) | (go_big_quiet_op; first | go_big_quiet_on | (apply Exists.intro; refine ⟨fun x hx => ?_, ?_⟩; (first | (with_reducible exact call_below hx (HY.out x (Tab.below hP (bt hW1 hx)))) | (with_reducible exact call_below hx (HM.out x (Tab.below hP (bt hW1 hx)))) | (with_reducible exact call_below hx (HD.out x (Tab.below hP (bt hW1 hx)))) | exact call_below hx (HY.out x (Tab.below hP (bt hW1 hx))) | exact call_below hx (HM.out x (Tab.below hP (bt hW1 hx))) | exact call_below hx (HD.out x (Tab.below hP (bt hW1 hx)))); go_big_quiet_on))))
  refine wpQuiet_nil ?_
  clear hall
  intro x3 hx3
  go_wp2_with fail
  go_ret2
  refine ⟨by first | rfl | simp, bt hW1 hx3⟩
set_option maxHeartbeats 4000000 in
theorem text_Civil_neg (y m d : Int) (gv : Int) (ty tm td : ByteArray) (w : World) (hG : Tab w 2 Gr.gregCells) (hP : Tab w 1 powCells) (HG : Hid (∀ w : World, Tab w 2 Gr.gregCells → Calls Tryz.prog 43 #[.agg #[.int .i64 (y), .int .i64 (m), .int .i64 (d)]] w fun e w' => e = .returned (.tuple #[.int .i64 gv, .int .i64 (0)]) ∧ Below w.heap.size w w')) (HY : Hid (∀ w : World, Tab w 1 powCells → Calls Tryz.prog 40 #[.int .i64 (-y), .int .i64 4] w fun e w' => e = .returned (.string ty) ∧ Below w.heap.size w w')) (HM : Hid (∀ w : World, Tab w 1 powCells → Calls Tryz.prog 40 #[.int .i64 (m), .int .i64 2] w fun e w' => e = .returned (.string tm) ∧ Below w.heap.size w w')) (HD : Hid (∀ w : World, Tab w 1 powCells → Calls Tryz.prog 40 #[.int .i64 (d), .int .i64 2] w fun e w' => e = .returned (.string td) ∧ Below w.heap.size w w')) (s4 : ty.size ≤ 4) (s2 : tm.size ≤ 2) (s3 : td.size ≤ 2) (h1 : y < 0) (h2 : -4000 ≤ y) (hmx : max y (-y) = -y) :
    Calls Tryz.prog 13 #[.agg #[.int .i64 (y), .int .i64 (m), .int .i64 (d)]] w fun e w' => e = .returned (.tuple #[.string (⟨#[45]⟩ ++ ty ++ ⟨#[45]⟩ ++ tm ++ ⟨#[45]⟩ ++ td), .int .i64 (0)]) ∧ Below w.heap.size w w' := by
  go_enter Tryz.func13, Tryz.ntmps13
  go_wp2_with fail
  refine (HG.out _ (Tab.below hG (by repeat (first | (with_reducible exact Below.refl _ _) | (with_reducible assumption) | (with_reducible refine bdrew ?_) | (with_reducible refine baa ?_ _) | (with_reducible refine bs ?_ (by first | exact Nat.le_refl _ | omega | (simp; done) | (simp; omega)) _) | (with_reducible refine bt ?_ (by with_reducible assumption)))))).mono ?_
  rintro e w1 ⟨rfl, hb1⟩
  obtain ⟨hc1, hf1⟩ := bcell hb1
  have hz1 := hb1.size
  try simp at hz1
  have hs1x0 : w.heap.size < w1.heap.size := by omega
  have g1x0 : w1.cell? ⟨w.heap.size, 0, none⟩ = some (.int .i64 (y)) := (hc1 _ _ (by first | omega | (simp; done) | (simp; omega))).trans (by first | (with_reducible assumption) | (simp [go_sem]; done) | (simp [go_sem, *]; done) | assumption)
  have g1x1 : w1.cell? ⟨w.heap.size, 1, none⟩ = some (.int .i64 (m)) := (hc1 _ _ (by first | omega | (simp; done) | (simp; omega))).trans (by first | (with_reducible assumption) | (simp [go_sem]; done) | (simp [go_sem, *]; done) | assumption)
  have g1x2 : w1.cell? ⟨w.heap.size, 2, none⟩ = some (.int .i64 (d)) := (hc1 _ _ (by first | omega | (simp; done) | (simp; omega))).trans (by first | (with_reducible assumption) | (simp [go_sem]; done) | (simp [go_sem, *]; done) | assumption)
  go_wp2_with fail
  have hW1 : Below w.heap.size w w1 := by repeat (first | (with_reducible exact Below.refl _ _) | (with_reducible assumption) | (with_reducible refine bdrew ?_) | (with_reducible refine baa ?_ _) | (with_reducible refine bs ?_ (by first | exact Nat.le_refl _ | omega | (simp; done) | (simp; omega)) _) | (with_reducible refine bt ?_ (by with_reducible assumption)))
  refine wp_region_class (by kernel_rfl) (by kernel_rfl) (fun hall => ?_)
  repeat (first | go_big_quiet_skip | (go_big_quiet_want; first | (refine quiet_load1 _ _ _ rfl rfl ?_ ?_ ?_; (focus (intro _; simp; done)); (focus (first | assumption | omega | (simp; done) | (simp; omega))); apply Exists.intro; refine ⟨?_, ?_⟩; assumption; go_simp; go_big_quiet_on) | (refine quiet_load2 _ _ _ _ rfl rfl ?_ ?_ ?_ ?_; (focus (intro _; simp; done)); (focus (intro _; simp; done)); (focus (first | assumption | omega | (simp; done) | (simp; omega))); apply Exists.intro; apply Exists.intro; refine ⟨?_, ?_, ?_⟩; assumption; assumption; go_simp; go_big_quiet_on) | (refine quiet_load3 _ _ _ _ rfl rfl ?_ ?_ ?_ ?_; (focus (intro _; simp; done)); (focus (intro _; simp; done)); (focus (first | assumption | omega | (simp; done) | (simp; omega))); apply Exists.intro; apply Exists.intro; apply Exists.intro; refine ⟨?_, ?_, ?_, ?_⟩; assumption; assumption; assumption; go_simp; go_big_quiet_on) | (refine quiet_load4 _ _ _ _ rfl rfl ?_ ?_ ?_ ?_; (focus (intro _; simp; done)); (focus (intro _; simp; done)); (focus (first | assumption | omega | (simp; done) | (simp; omega))); apply Exists.intro; apply Exists.intro; apply Exists.intro; apply Exists.intro; refine ⟨?_, ?_, ?_, ?_, ?_⟩; assumption; assumption; assumption; assumption; go_simp; go_big_quiet_on) | (go_big_quiet_op; first | go_big_quiet_on | (apply Exists.intro; refine ⟨fun x hx => ?_, ?_⟩; (first | (with_reducible exact call_below hx (HY.out x (Tab.below hP (bt hW1 hx)))) | (with_reducible exact call_below hx (HM.out x (Tab.below hP (bt hW1 hx)))) | (with_reducible exact call_below hx (HD.out x (Tab.below hP (bt hW1 hx)))) | exact call_below hx (HY.out x (Tab.below hP (bt hW1 hx))) | exact call_below hx (HM.out x (Tab.below hP (bt hW1 hx))) | exact call_below hx (HD.out x (Tab.below hP (bt hW1 hx)))); go_big_quiet_on))))
  refine wpQuiet_nil ?_
  clear hall
  intro x3 hx3
  go_wp2_with fail
  go_ret2
  refine ⟨by first | rfl | simp, bt hW1 hx3⟩
def civV (y m d : Int) : ByteArray := if Gr.gtE y m d = 0 then civTxt y m d else ByteArray.empty
theorem text_Civil (y m d : Int) (w : World) (hG : Tab w 2 Gr.gregCells) (hP : Tab w 1 powCells) :
    Calls Tryz.prog 13 #[.agg #[.int .i64 (y), .int .i64 (m), .int .i64 (d)]] w fun e w' => e = .returned (.tuple #[.string (civV y m d), .int .i64 (Gr.gtE y m d)]) ∧ Below w.heap.size w w' := by
  have HG := Lib.hid (fun w hG => greg_ToDay y m d w hG)
  unfold civV
  by_cases h0 : Gr.gtE y m d = 0
  · obtain ⟨b1, b2, b3, b4, b5, b6⟩ := Gr.gt_in h0
    rw [h0] at HG
    rw [if_pos h0, h0]
    have HM := Lib.hid (fun w hP => text_digits_2 m (by omega) (by omega) w hP)
    have HD := Lib.hid (fun w hP => text_digits_2 d (by omega) (by omega) w hP)
    unfold civTxt sgn absV
    by_cases c : y < 0
    · have HY := Lib.hid (fun w hP => text_digits_4 (-y) (by omega) (by omega) w hP)
      rw [if_pos c, if_pos c]
      exact text_Civil_neg y m d _ _ _ _ w hG hP HG HY HM HD (by simp [digs, ByteArray.size]) (by simp [digs, ByteArray.size]) (by simp [digs, ByteArray.size]) c b1 (by omega)
    · have HY := Lib.hid (fun w hP => text_digits_4 y (by omega) (by omega) w hP)
      rw [if_neg c, if_neg c]
      exact text_Civil_pos y m d _ _ _ _ w hG hP HG HY HM HD (by simp [digs, ByteArray.size]) (by simp [digs, ByteArray.size]) (by simp [digs, ByteArray.size]) (by omega) b2 (by omega)
  · rw [if_neg h0]
    exact text_Civil_err y m d _ _ w hG hP HG (by simpa using h0)
def rcYv (s : ByteArray) : Int := if below0 (cutA (cutA s)) = true then -(numVal (bare (cutA (cutA s))).data.toList 4) else numVal (bare (cutA (cutA s))).data.toList 4
def rcOk (s : ByteArray) : Bool := (numOk (bare (cutA (cutA s))).data.toList 4 && (numOk (cutB (cutA s)).data.toList 2 && numOk (cutB s).data.toList 2)) && !(below0 (cutA (cutA s)) && (numVal (bare (cutA (cutA s))).data.toList 4 == 0))
def rcE (s : ByteArray) : Int := if rcOk s = true then (if Gr.gtE (rcYv s) (numVal (cutB (cutA s)).data.toList 2) (numVal (cutB s).data.toList 2) = 0 then 0 else 2) else 5
def rcY (s : ByteArray) : Int := if rcE s = 0 then rcYv s else 0
def rcM (s : ByteArray) : Int := if rcE s = 0 then numVal (cutB (cutA s)).data.toList 2 else 0
def rcD (s : ByteArray) : Int := if rcE s = 0 then numVal (cutB s).data.toList 2 else 0
theorem text_ReadCivil (s : ByteArray) (hs : s.size ≤ 1000000) (w : World) (hG : Tab w 2 Gr.gregCells) :
    Calls Tryz.prog 17 #[.string s] w fun e w' => e = .returned (.tuple #[.agg #[.int .i64 (rcY s), .int .i64 (rcM s), .int .i64 (rcD s)], .int .i64 (rcE s)]) ∧ Below w.heap.size w w' := by
  have bad : ∀ E : Int, rcE s = E → ¬ E = 0 → rcY s = 0 ∧ rcM s = 0 ∧ rcD s = 0 := by
    intro E e h
    have h' : ¬ rcE s = 0 := by rw [e]; exact h
    unfold rcY rcM rcD
    rw [if_neg h', if_neg h', if_neg h']
    exact ⟨rfl, rfl, rfl⟩
  cases h4 : numOk (bare (cutA (cutA s))).data.toList 4 with
  | false =>
    have e : rcE s = 5 := by unfold rcE rcOk; rw [h4]; rfl
    obtain ⟨e1, e2, e3⟩ := bad 5 e (by omega)
    rw [e, e1, e2, e3]
    exact text_ReadCivil_y s hs w hG h4
  | true =>
    cases h5 : numOk (cutB (cutA s)).data.toList 2 with
    | false =>
      have e : rcE s = 5 := by unfold rcE rcOk; rw [h4, h5]; rfl
      obtain ⟨e1, e2, e3⟩ := bad 5 e (by omega)
      rw [e, e1, e2, e3]
      exact text_ReadCivil_m s hs w hG h4 h5
    | true =>
      cases h6 : numOk (cutB s).data.toList 2 with
      | false =>
        have e : rcE s = 5 := by unfold rcE rcOk; rw [h4, h5, h6]; rfl
        obtain ⟨e1, e2, e3⟩ := bad 5 e (by omega)
        rw [e, e1, e2, e3]
        exact text_ReadCivil_d s hs w hG h4 h5 h6
      | true =>
        cases hb : below0 (cutA (cutA s)) with
        | false =>
          have ok : rcOk s = true := by unfold rcOk; rw [h4, h5, h6, hb]; rfl
          have yv : rcYv s = numVal (bare (cutA (cutA s))).data.toList 4 := by unfold rcYv; rw [hb]; rfl
          by_cases h0 : Gr.gtE (numVal (bare (cutA (cutA s))).data.toList 4) (numVal (cutB (cutA s)).data.toList 2) (numVal (cutB s).data.toList 2) = 0
          · have e : rcE s = 0 := by unfold rcE; rw [if_pos ok, yv, if_pos h0]
            unfold rcY rcM rcD
            rw [if_pos e, if_pos e, if_pos e, e, yv]
            exact text_ReadCivil_kp s hs w hG h4 h5 h6 hb h0
          · have e : rcE s = 2 := by unfold rcE; rw [if_pos ok, yv, if_neg h0]
            obtain ⟨e1, e2, e3⟩ := bad 2 e (by omega)
            rw [e, e1, e2, e3]
            exact text_ReadCivil_rp s hs w hG h4 h5 h6 hb h0
        | true =>
          cases hz : (numVal (bare (cutA (cutA s))).data.toList 4 == 0) with
          | true =>
            have e : rcE s = 5 := by unfold rcE rcOk; rw [h4, h5, h6, hb, hz]; rfl
            obtain ⟨e1, e2, e3⟩ := bad 5 e (by omega)
            rw [e, e1, e2, e3]
            exact text_ReadCivil_z s hs w hG h4 h5 h6 hb hz
          | false =>
            have ok : rcOk s = true := by unfold rcOk; rw [h4, h5, h6, hb, hz]; rfl
            have yv : rcYv s = -(numVal (bare (cutA (cutA s))).data.toList 4) := by unfold rcYv; rw [hb]; rfl
            by_cases h0 : Gr.gtE (-(numVal (bare (cutA (cutA s))).data.toList 4)) (numVal (cutB (cutA s)).data.toList 2) (numVal (cutB s).data.toList 2) = 0
            · have e : rcE s = 0 := by unfold rcE; rw [if_pos ok, yv, if_pos h0]
              unfold rcY rcM rcD
              rw [if_pos e, if_pos e, if_pos e, e, yv]
              exact text_ReadCivil_kn s hs w hG h4 h5 h6 hb hz h0
            · have e : rcE s = 2 := by unfold rcE; rw [if_pos ok, yv, if_neg h0]
              obtain ⟨e1, e2, e3⟩ := bad 2 e (by omega)
              rw [e, e1, e2, e3]
              exact text_ReadCivil_rn s hs w hG h4 h5 h6 hb hz h0
end Go.Proofs.YtafenpgafmdenaaGreatDoor
/- Layer 13: its laws. -/
namespace Go.Proofs.YtafenpgafmdenaaGreatDoor
open Go.ChangeShapes Go.WideShapes Go.ChangeAt Go.RowKit
set_option linter.unusedVariables false
set_option maxRecDepth 100000
theorem readHeb_a (w : World) (hT : Tab w 8 kevCells) (hL : Tab w 6 lenCells) (m : Int) (hm : MaxAt w m) :
    Calls Tryz.prog 15 #[.string ⟨#[53, 55, 56, 52, 45, 109, 48, 53, 76, 45, 51, 48]⟩] w fun e w' => e = .returned (.tuple #[.agg #[.int .i64 (5784), .int .i64 (5), .bool (true), .int .i64 (30)], .int .i64 (0)]) ∧ Below w.heap.size w w' := by
  have h := text_ReadHeb ⟨#[53, 55, 56, 52, 45, 109, 48, 53, 76, 45, 51, 48]⟩ 5 true true m (by decide) w hT hL hm (.inl ⟨rfl, by decide +kernel, by decide +kernel⟩)
  rwa [show rhE ⟨#[53, 55, 56, 52, 45, 109, 48, 53, 76, 45, 51, 48]⟩ 5 true true = 0 by decide +kernel, show rhY ⟨#[53, 55, 56, 52, 45, 109, 48, 53, 76, 45, 51, 48]⟩ 5 true true = 5784 by decide +kernel, show rhN ⟨#[53, 55, 56, 52, 45, 109, 48, 53, 76, 45, 51, 48]⟩ 5 true true = 5 by decide +kernel, show rhL ⟨#[53, 55, 56, 52, 45, 109, 48, 53, 76, 45, 51, 48]⟩ 5 true true = true by decide +kernel, show rhD ⟨#[53, 55, 56, 52, 45, 109, 48, 53, 76, 45, 51, 48]⟩ 5 true true = 30 by decide +kernel] at h
theorem readCivil_a (w : World) (hG : Tab w 2 Gr.gregCells) :
    Calls Tryz.prog 17 #[.string ⟨#[45, 51, 55, 54, 48, 45, 48, 57, 45, 48, 55]⟩] w fun e w' => e = .returned (.tuple #[.agg #[.int .i64 (-3760), .int .i64 (9), .int .i64 (7)], .int .i64 (0)]) ∧ Below w.heap.size w w' := by
  have h := text_ReadCivil_kn ⟨#[45, 51, 55, 54, 48, 45, 48, 57, 45, 48, 55]⟩ (by decide) w hG (by decide +kernel) (by decide +kernel) (by decide +kernel) (by decide +kernel) (by decide +kernel) (by decide +kernel)
  rwa [show numVal (bare (cutA (cutA ⟨#[45, 51, 55, 54, 48, 45, 48, 57, 45, 48, 55]⟩))).data.toList 4 = 3760 by decide +kernel, show numVal (cutB (cutA ⟨#[45, 51, 55, 54, 48, 45, 48, 57, 45, 48, 55]⟩)).data.toList 2 = 9 by decide +kernel, show numVal (cutB ⟨#[45, 51, 55, 54, 48, 45, 48, 57, 45, 48, 55]⟩).data.toList 2 = 7 by decide +kernel] at h
theorem heb_a (w : World) (hT : Tab w 8 kevCells) (hL : Tab w 6 lenCells) (hP : Tab w 1 powCells) :
    Calls Tryz.prog 11 #[.agg #[.int .i64 (5784), .int .i64 (5), .bool (true), .int .i64 (30)]] w fun e w' => e = .returned (.tuple #[.string ⟨#[53, 55, 56, 52, 45, 77, 48, 53, 76, 45, 51, 48]⟩, .int .i64 0]) ∧ Below w.heap.size w w' := by
  have h := text_Heb 5784 5 true 30 w ⟨by omega, by omega⟩ hT hL hP
  rwa [show D10.dateE 5784 5 true 30 = 0 by decide +kernel, show hebV 5784 5 true 30 = ⟨#[53, 55, 56, 52, 45, 77, 48, 53, 76, 45, 51, 48]⟩ by decide +kernel] at h
set_option maxHeartbeats 2000000 in
theorem awake13 (w : World) (hT : Tab w 8 kevCells) (hL : Tab w 6 lenCells) (hP : Tab w 1 powCells) (hG : Tab w 2 Gr.gregCells) (m : Int) (hm : MaxAt w m) : Calls Tryz.prog 10 #[] w fun e w' => e = .returned (.bool true) ∧ Below w.heap.size w w' := by
  go_enter Tryz.func10, Tryz.ntmps10
  go_wp2_with fail
  refine (readHeb_a _ (Tab.below hT (by repeat (first | (with_reducible exact Below.refl _ _) | (with_reducible assumption) | (with_reducible refine bdrew ?_) | (with_reducible refine baa ?_ _) | (with_reducible refine bs ?_ (by first | exact Nat.le_refl _ | omega | (simp; done) | (simp; omega)) _) | (with_reducible refine bt ?_ (by with_reducible assumption))))) (Tab.below hL (by repeat (first | (with_reducible exact Below.refl _ _) | (with_reducible assumption) | (with_reducible refine bdrew ?_) | (with_reducible refine baa ?_ _) | (with_reducible refine bs ?_ (by first | exact Nat.le_refl _ | omega | (simp; done) | (simp; omega)) _) | (with_reducible refine bt ?_ (by with_reducible assumption))))) m (MaxAt.below hm (by repeat (first | (with_reducible exact Below.refl _ _) | (with_reducible assumption) | (with_reducible refine bdrew ?_) | (with_reducible refine baa ?_ _) | (with_reducible refine bs ?_ (by first | exact Nat.le_refl _ | omega | (simp; done) | (simp; omega)) _) | (with_reducible refine bt ?_ (by with_reducible assumption)))))).mono ?_
  rintro e w1 ⟨rfl, hb1⟩
  obtain ⟨hc1, hf1⟩ := bcell hb1
  have hz1 := hb1.size
  try simp at hz1
  go_wp2_with fail
  refine (readCivil_a _ (Tab.below hG (by repeat (first | (with_reducible exact Below.refl _ _) | (with_reducible assumption) | (with_reducible refine bdrew ?_) | (with_reducible refine baa ?_ _) | (with_reducible refine bs ?_ (by first | exact Nat.le_refl _ | omega | (simp; done) | (simp; omega)) _) | (with_reducible refine bt ?_ (by with_reducible assumption)))))).mono ?_
  rintro e w2 ⟨rfl, hb2⟩
  obtain ⟨hc2, hf2⟩ := bcell hb2
  have hz2 := hb2.size
  try simp at hz2
  have hl2w1 : w1.heap.size < w2.heap.size := by omega
  have hm2w1 : w1.heap.size ≤ w2.heap.size := by omega
  have g2x0 : w2.cell? ⟨w1.heap.size, 0, none⟩ = some (.int .i64 (5784)) := (hc2 _ _ (by first | omega | (simp; done) | (simp; omega))).trans (by first | (with_reducible assumption) | (simp [go_sem]; done) | (simp [go_sem, *]; done) | assumption)
  have g2x1 : w2.cell? ⟨w1.heap.size, 1, none⟩ = some (.int .i64 (5)) := (hc2 _ _ (by first | omega | (simp; done) | (simp; omega))).trans (by first | (with_reducible assumption) | (simp [go_sem]; done) | (simp [go_sem, *]; done) | assumption)
  have g2x2 : w2.cell? ⟨w1.heap.size, 2, none⟩ = some (.bool (true)) := (hc2 _ _ (by first | omega | (simp; done) | (simp; omega))).trans (by first | (with_reducible assumption) | (simp [go_sem]; done) | (simp [go_sem, *]; done) | assumption)
  have g2x3 : w2.cell? ⟨w1.heap.size, 3, none⟩ = some (.int .i64 (30)) := (hc2 _ _ (by first | omega | (simp; done) | (simp; omega))).trans (by first | (with_reducible assumption) | (simp [go_sem]; done) | (simp [go_sem, *]; done) | assumption)
  go_wp2_with fail
  refine (heb_a _ (Tab.below hT (by repeat (first | (with_reducible exact Below.refl _ _) | (with_reducible assumption) | (with_reducible refine bdrew ?_) | (with_reducible refine baa ?_ _) | (with_reducible refine bs ?_ (by first | exact Nat.le_refl _ | omega | (simp; done) | (simp; omega)) _) | (with_reducible refine bt ?_ (by with_reducible assumption))))) (Tab.below hL (by repeat (first | (with_reducible exact Below.refl _ _) | (with_reducible assumption) | (with_reducible refine bdrew ?_) | (with_reducible refine baa ?_ _) | (with_reducible refine bs ?_ (by first | exact Nat.le_refl _ | omega | (simp; done) | (simp; omega)) _) | (with_reducible refine bt ?_ (by with_reducible assumption))))) (Tab.below hP (by repeat (first | (with_reducible exact Below.refl _ _) | (with_reducible assumption) | (with_reducible refine bdrew ?_) | (with_reducible refine baa ?_ _) | (with_reducible refine bs ?_ (by first | exact Nat.le_refl _ | omega | (simp; done) | (simp; omega)) _) | (with_reducible refine bt ?_ (by with_reducible assumption)))))).mono ?_
  rintro e w3 ⟨rfl, hb3⟩
  obtain ⟨hc3, hf3⟩ := bcell hb3
  have hz3 := hb3.size
  try simp at hz3
  have hl3w1 : w1.heap.size < w3.heap.size := by omega
  have hm3w1 : w1.heap.size ≤ w3.heap.size := by omega
  have hl3w2 : w2.heap.size < w3.heap.size := by omega
  have hm3w2 : w2.heap.size ≤ w3.heap.size := by omega
  have g3x0 : w3.cell? ⟨w1.heap.size, 0, none⟩ = some (.int .i64 (5784)) := (hc3 _ _ (by first | omega | (simp; done) | (simp; omega))).trans (by first | (with_reducible assumption) | (simp [go_sem]; done) | (simp [go_sem, *]; done) | assumption)
  have g3x1 : w3.cell? ⟨w1.heap.size, 1, none⟩ = some (.int .i64 (5)) := (hc3 _ _ (by first | omega | (simp; done) | (simp; omega))).trans (by first | (with_reducible assumption) | (simp [go_sem]; done) | (simp [go_sem, *]; done) | assumption)
  have g3x2 : w3.cell? ⟨w1.heap.size, 2, none⟩ = some (.bool (true)) := (hc3 _ _ (by first | omega | (simp; done) | (simp; omega))).trans (by first | (with_reducible assumption) | (simp [go_sem]; done) | (simp [go_sem, *]; done) | assumption)
  have g3x3 : w3.cell? ⟨w1.heap.size, 3, none⟩ = some (.int .i64 (30)) := (hc3 _ _ (by first | omega | (simp; done) | (simp; omega))).trans (by first | (with_reducible assumption) | (simp [go_sem]; done) | (simp [go_sem, *]; done) | assumption)
  have g3x4 : w3.cell? ⟨w2.heap.size, 0, none⟩ = some (.int .i64 (-3760)) := (hc3 _ _ (by first | omega | (simp; done) | (simp; omega))).trans (by first | (with_reducible assumption) | (simp [go_sem]; done) | (simp [go_sem, *]; done) | assumption)
  have g3x5 : w3.cell? ⟨w2.heap.size, 1, none⟩ = some (.int .i64 (9)) := (hc3 _ _ (by first | omega | (simp; done) | (simp; omega))).trans (by first | (with_reducible assumption) | (simp [go_sem]; done) | (simp [go_sem, *]; done) | assumption)
  have g3x6 : w3.cell? ⟨w2.heap.size, 2, none⟩ = some (.int .i64 (7)) := (hc3 _ _ (by first | omega | (simp; done) | (simp; omega))).trans (by first | (with_reducible assumption) | (simp [go_sem]; done) | (simp [go_sem, *]; done) | assumption)
  go_wp2_with fail
  go_ret
  refine ⟨by first | rfl | (simp [*]; done), ?_⟩
  repeat (first | (with_reducible exact Below.refl _ _) | (with_reducible assumption) | (with_reducible refine bdrew ?_) | (with_reducible refine baa ?_ _) | (with_reducible refine bs ?_ (by first | exact Nat.le_refl _ | omega | (simp; done) | (simp; omega)) _) | (with_reducible refine bt ?_ (by with_reducible assumption)))
end Go.Proofs.YtafenpgafmdenaaGreatDoor
/- Layer 13: texts and dates, there and back. -/
namespace Go.Proofs.YtafenpgafmdenaaGreatDoor
open Go.ChangeShapes Go.WideShapes Go.ChangeAt Go.RowKit
set_option linter.unusedVariables false
set_option maxRecDepth 100000
namespace D13
theorem ext {a b : ByteArray} (h : a.data.toList = b.data.toList) : a = b := by
  cases a; cases b
  simp only [ByteArray.mk.injEq]
  exact Array.toList_inj.1 h
theorem split_last : ∀ l : List UInt8, (∃ b c, l = b ++ 45 :: c ∧ ∀ x ∈ c, ¬ x = 45) ∨ (∀ x ∈ l, ¬ x = 45)
  | [] => .inr (by simp)
  | x :: l => by
    rcases split_last l with ⟨b, c, rfl, h⟩ | h
    · exact .inl ⟨x :: b, c, rfl, h⟩
    · by_cases e : x = 45
      · exact .inl ⟨[], l, by rw [e]; rfl, h⟩
      · exact .inr (by simpa [e] using h)
theorem get_at (s : ByteArray) (i : Nat) (h : i < s.data.toList.length) : s.data[i]! = s.data.toList[i] := by
  rw [getElem!_pos s.data i (by simpa using h)]
  simp
theorem last_some {s : ByteArray} {b c : List UInt8} (e : s.data.toList = b ++ 45 :: c) (h : ∀ x ∈ c, ¬ x = 45) : Go.Lib.lastIndexByte s 45 = (b.length : Int) := by
  have hsz : s.size = b.length + 1 + c.length := by
    have : s.data.toList.length = s.size := by simp
    rw [← this, e]; simp; omega
  have hl : s.data.toList.length = s.size := by simp
  have hat : s.data.toList[b.length]'(by omega) = 45 := by simp [e]
  rcases Go.Lib.lastIndexByte_spec s 45 with ⟨_, g⟩ | ⟨i, hi, g, g1, g2⟩
  · have := g b.length (by omega)
    rw [get_at _ _ (by omega), hat] at this
    exact absurd rfl this
  · rw [g]
    rcases Nat.lt_trichotomy i b.length with q | q | q
    · have := g2 b.length q (by omega)
      rw [get_at _ _ (by omega), hat] at this
      exact absurd rfl this
    · rw [q]
    · rw [get_at _ _ (by omega)] at g1
      have hx : s.data.toList[i]'(by omega) ∈ c := by
        simp only [e]
        rw [List.getElem_append_right (by omega)]
        obtain ⟨j, hj⟩ : ∃ j, i - b.length = j + 1 := ⟨i - b.length - 1, by omega⟩
        simp only [hj, List.getElem_cons_succ]
        exact List.getElem_mem _
      exact absurd (by rw [← UInt8.toNat_inj]; show _ = 45; omega) (h _ hx)
theorem last_none {s : ByteArray} (h : ∀ x ∈ s.data.toList, ¬ x = 45) : Go.Lib.lastIndexByte s 45 = -1 := by
  have hl : s.data.toList.length = s.size := by simp
  rcases Go.Lib.lastIndexByte_spec s 45 with ⟨e, _⟩ | ⟨i, hi, e, e1, e2⟩
  · exact e
  · rw [get_at _ _ (by omega)] at e1
    have hx : s.data.toList[i]'(by omega) = 45 := by rw [← UInt8.toNat_inj]; show _ = 45; omega
    exact absurd hx (h _ (List.getElem_mem _))
theorem ext_take (s : ByteArray) (i j : Nat) : (s.extract i j).data.toList = (s.data.toList.take j).drop i := by
  simp [List.drop_take]
theorem cut_dash {s : ByteArray} {b c : List UInt8} (e : s.data.toList = b ++ 45 :: c) (h : ∀ x ∈ c, ¬ x = 45) : (cutA s).data.toList = b ∧ (cutB s).data.toList = c := by
  have hi := last_some e h
  have hl : s.data.toList.length = s.size := by simp
  unfold cutA cutB
  rw [hi, if_neg (by omega), if_neg (by omega), Int.toNat_natCast, ext_take, ext_take, ← hl, List.take_length, e]
  simp
theorem cut_no {s : ByteArray} (h : ∀ x ∈ s.data.toList, ¬ x = 45) : (cutA s).data.toList = [] ∧ cutB s = s := by
  unfold cutA cutB
  rw [last_none h, if_pos (by omega), if_pos (by omega)]
  exact ⟨rfl, rfl⟩
theorem dig_ne {x : UInt8} (h : isDig x = true) : ¬ x = 45 ∧ ¬ x = 76 ∧ ¬ x = 77 ∧ ¬ x = 108 ∧ ¬ x = 109 := by
  refine ⟨?_, ?_, ?_, ?_, ?_⟩ <;> (rintro rfl; revert h; decide)
/-- What stands in a text that is read: three parts. -/
theorem three {X : ByteArray} (h4 : numOk (cutA (cutA X)).data.toList 4 = true) (h2 : numOk (cutB X).data.toList 2 = true) : X.data.toList = (cutA (cutA X)).data.toList ++ 45 :: ((cutB (cutA X)).data.toList ++ 45 :: (cutB X).data.toList) := by
  have no : ∀ {t : ByteArray}, t.data.toList = [] → numOk (cutA t).data.toList 4 = false := fun {t} h => by
    rw [(cut_no (s := t) (by rw [h]; simp)).1]; rfl
  rcases split_last X.data.toList with ⟨b, c, e, h⟩ | h
  · obtain ⟨a1, a2⟩ := cut_dash e h
    rcases split_last b with ⟨b', c', e', h'⟩ | h'
    · obtain ⟨a3, a4⟩ := cut_dash (s := cutA X) (a1.trans e') h'
      rw [a3, a4, a2, e, e']
      simp
    · rw [(cut_no (s := cutA X) (by rw [a1]; exact h')).1] at h4
      cases h4
  · rw [no (cut_no h).1] at h4
    cases h4
theorem B_dig (n p : Int) : isDig (B n p) = true ∧ ((B n p).toNat : Int) = 48 + n / p % 10 := by
  have h := digB_bd n p
  unfold B
  have e : (UInt8.ofNat (digB n p).toNat).toNat = (digB n p).toNat := by simp; omega
  refine ⟨by unfold isDig; rw [e]; simp; omega, ?_⟩
  rw [e]; unfold digB at h ⊢; omega
theorem digs4_list (n : Int) : (digs n [1000, 100, 10, 1]).data.toList = [B n 1000, B n 100, B n 10, B n 1] := by simp [digs, B]
theorem digs2_list (n : Int) : (digs n [10, 1]).data.toList = [B n 10, B n 1] := by simp [digs, B]
theorem digs4_ok {n : Int} (h0 : 0 ≤ n) (h1 : n ≤ 9999) : numOk (digs n [1000, 100, 10, 1]).data.toList 4 = true ∧ numVal (digs n [1000, 100, 10, 1]).data.toList 4 = n := by
  have a := B_dig n 1000; have b := B_dig n 100; have c := B_dig n 10; have d := B_dig n 1
  have ok : numOk (digs n [1000, 100, 10, 1]).data.toList 4 = true := by rw [digs4_list]; simp [numOk, a.1, b.1, c.1, d.1]
  refine ⟨ok, ?_⟩
  unfold numVal
  rw [if_pos ok, digs4_list]
  simp only [numFold, List.foldl_cons, List.foldl_nil]
  omega
theorem digs2_ok {n : Int} (h0 : 0 ≤ n) (h1 : n ≤ 99) : numOk (digs n [10, 1]).data.toList 2 = true ∧ numVal (digs n [10, 1]).data.toList 2 = n := by
  have c := B_dig n 10; have d := B_dig n 1
  have ok : numOk (digs n [10, 1]).data.toList 2 = true := by rw [digs2_list]; simp [numOk, c.1, d.1]
  refine ⟨ok, ?_⟩
  unfold numVal
  rw [if_pos ok, digs2_list]
  simp only [numFold, List.foldl_cons, List.foldl_nil]
  omega
theorem dig_bd {x : UInt8} (h : isDig x = true) : 48 ≤ (x.toNat : Int) ∧ (x.toNat : Int) ≤ 57 := by
  unfold isDig at h
  simp only [Bool.and_eq_true, decide_eq_true_eq] at h
  omega
theorem B_of {n p : Int} {x : UInt8} (h : 48 + n / p % 10 = (x.toNat : Int)) : B n p = x := by
  rw [← UInt8.toNat_inj]
  have := (B_dig n p).2
  omega
theorem digs4_back {l : List UInt8} (h : numOk l 4 = true) : (digs (numVal l 4) [1000, 100, 10, 1]).data.toList = l := by
  have hv : numVal l 4 = numFold l := by unfold numVal; rw [if_pos h]
  rw [hv]
  unfold numOk at h
  simp only [Bool.and_eq_true, decide_eq_true_eq] at h
  match l, h with
  | [a, b, c, d], ⟨_, h⟩ =>
    simp only [List.all_cons, List.all_nil, Bool.and_true, Bool.and_eq_true] at h
    have ha := dig_bd h.1; have hb := dig_bd h.2.1; have hc := dig_bd h.2.2.1; have hd := dig_bd h.2.2.2
    rw [digs4_list]
    simp only [numFold, List.foldl_cons, List.foldl_nil]
    rw [B_of (x := a) (by omega), B_of (x := b) (by omega), B_of (x := c) (by omega), B_of (x := d) (by omega)]
theorem digs2_back {l : List UInt8} (h : numOk l 2 = true) : (digs (numVal l 2) [10, 1]).data.toList = l := by
  have hv : numVal l 2 = numFold l := by unfold numVal; rw [if_pos h]
  rw [hv]
  unfold numOk at h
  simp only [Bool.and_eq_true, decide_eq_true_eq] at h
  match l, h with
  | [c, d], ⟨_, h⟩ =>
    simp only [List.all_cons, List.all_nil, Bool.and_true, Bool.and_eq_true] at h
    have hc := dig_bd h.1; have hd := dig_bd h.2
    rw [digs2_list]
    simp only [numFold, List.foldl_cons, List.foldl_nil]
    rw [B_of (x := c) (by omega), B_of (x := d) (by omega)]
/-! Hebrew dates. -/
def g (x : UInt8) : UInt8 := Rep.sub 108 76 (Rep.sub 109 77 x)
theorem great_list (s : ByteArray) : (great s).data.toList = s.data.toList.map g := by
  show ((((s.data.toList.map (Rep.sub 109 77)).toArray).toList.map (Rep.sub 108 76)).toArray).toList = _
  simp [g, Function.comp_def]
theorem g_same {x : UInt8} (h1 : ¬ x = 108) (h2 : ¬ x = 109) : g x = x := by simp [g, Rep.sub, h1, h2]
theorem g_back {x v : UInt8} (h : g x = v) (h1 : ¬ v = 76) (h2 : ¬ v = 77) : x = v := by
  unfold g Rep.sub at h
  by_cases c : x = 109
  · rw [if_pos c, if_neg (by decide)] at h; exact absurd h.symm h2
  · rw [if_neg c] at h
    by_cases c2 : x = 108
    · rw [if_pos c2] at h; exact absurd h.symm h1
    · rw [if_neg c2] at h; exact h
theorem code_bytes {n : Int} {l : Bool} (h : Cal.right n l = true) : ∀ x ∈ (codeTxt n l).data.toList, ¬ x = 45 ∧ ¬ x = 108 ∧ ¬ x = 109 := by
  have hr : 1 ≤ n ∧ n ≤ 12 := by simp [Cal.right] at h; omega
  have hn : n = 1 ∨ n = 2 ∨ n = 3 ∨ n = 4 ∨ n = 5 ∨ n = 6 ∨ n = 7 ∨ n = 8 ∨ n = 9 ∨ n = 10 ∨ n = 11 ∨ n = 12 := by omega
  rcases hn with rfl | rfl | rfl | rfl | rfl | rfl | rfl | rfl | rfl | rfl | rfl | rfl <;> cases l <;> first | (exfalso; revert h; decide) | decide +kernel
theorem heb_parts (y n : Int) (l : Bool) (d : Int) (h : Cal.right n l = true) : (hebTxt y n l d).data.toList = (digs y [1000, 100, 10, 1]).data.toList ++ 45 :: ((codeTxt n l).data.toList ++ 45 :: (digs d [10, 1]).data.toList) := by
  unfold hebTxt txtV
  rw [h]
  simp
theorem heb_date {y n d : Int} {l : Bool} (h : D10.dateE y n l d = 0) : Cal.right n l = true ∧ 1 ≤ y ∧ y ≤ 9999 ∧ 1 ≤ d ∧ d ≤ 30 := by
  obtain ⟨⟨a1, a2, a3, a4, a5, a6⟩, a7⟩ := D10.date_valid h
  have a8 := (D10.len_bd y _ a1 a2 a3 a4).2
  have r1 : Cal.right n l = true := by simp [Cal.plOk] at a7; exact a7.1
  exact ⟨r1, a1, a2, a5, by omega⟩
theorem read_heb {y n d : Int} {l : Bool} (h : D10.dateE y n l d = 0) :
    IsCode (cutB (cutA (great (hebTxt y n l d)))) n l true ∧ rhE (hebTxt y n l d) n l true = 0 ∧ rhY (hebTxt y n l d) n l true = y ∧ rhN (hebTxt y n l d) n l true = n ∧ rhL (hebTxt y n l d) n l true = l ∧ rhD (hebTxt y n l d) n l true = d := by
  obtain ⟨r1, y1, y2, d1, d2⟩ := heb_date h
  have hp := heb_parts y n l d r1
  have q4 := digs4_ok (n := y) (by omega) y2
  have q2 := digs2_ok (n := d) (by omega) (by omega)
  have n4 : ∀ x ∈ (digs y [1000, 100, 10, 1]).data.toList, isDig x = true := by
    have := q4.1; unfold numOk at this; simp only [Bool.and_eq_true] at this; exact List.all_eq_true.1 this.2
  have n2 : ∀ x ∈ (digs d [10, 1]).data.toList, isDig x = true := by
    have := q2.1; unfold numOk at this; simp only [Bool.and_eq_true] at this; exact List.all_eq_true.1 this.2
  have nc := code_bytes r1
  have hg : great (hebTxt y n l d) = hebTxt y n l d := by
    apply ext
    rw [great_list]
    refine (List.map_congr_left (g := id) ?_).trans (List.map_id _)
    intro x hx
    show g x = x
    rw [hp] at hx
    simp only [List.mem_append, List.mem_cons] at hx
    rcases hx with hx | rfl | hx | rfl | hx
    · exact g_same (dig_ne (n4 x hx)).2.2.2.1 (dig_ne (n4 x hx)).2.2.2.2
    · rfl
    · exact g_same (nc x hx).2.1 (nc x hx).2.2
    · rfl
    · exact g_same (dig_ne (n2 x hx)).2.2.2.1 (dig_ne (n2 x hx)).2.2.2.2
  obtain ⟨a1, a2⟩ := cut_dash (s := hebTxt y n l d) (b := (digs y [1000, 100, 10, 1]).data.toList ++ 45 :: (codeTxt n l).data.toList) (c := (digs d [10, 1]).data.toList) (by rw [hp]; simp) (fun x hx => (dig_ne (n2 x hx)).1)
  obtain ⟨a3, a4⟩ := cut_dash (s := cutA (hebTxt y n l d)) a1 (fun x hx => (nc x hx).1)
  have e : rhE (hebTxt y n l d) n l true = 0 := by
    unfold rhE
    rw [hg, a2, a3, q4.1, q4.2, q2.1, q2.2, h]
    rfl
  refine ⟨.inl ⟨rfl, r1, by rw [hg]; exact (ext a4).symm⟩, e, ?_, ?_, ?_, ?_⟩
  · unfold rhY; rw [if_pos e, hg, a3, q4.2]
  · unfold rhN; rw [if_pos e]
  · unfold rhL; rw [if_pos e]
  · unfold rhD; rw [if_pos e, hg, a2, q2.2]
/-- What is read has just that text, but for small letters. -/
theorem heb_back {s : ByteArray} {n : Int} {l ok : Bool} (hc : IsCode (cutB (cutA (great s))) n l ok) (h : rhE s n l ok = 0) :
    D10.dateE (rhY s n l ok) (rhN s n l ok) (rhL s n l ok) (rhD s n l ok) = 0 ∧ hebTxt (rhY s n l ok) (rhN s n l ok) (rhL s n l ok) (rhD s n l ok) = great s := by
  have h' := h
  unfold rhE at h'
  by_cases c : (numOk (cutA (cutA (great s))).data.toList 4 && (ok && numOk (cutB (great s)).data.toList 2)) = true
  · rw [if_pos c] at h'
    simp only [Bool.and_eq_true] at c
    obtain ⟨c4, rfl, c2⟩ := c
    by_cases hd : D10.dateE (numVal (cutA (cutA (great s))).data.toList 4) n l (numVal (cutB (great s)).data.toList 2) = 0
    · have ey : rhY s n l true = numVal (cutA (cutA (great s))).data.toList 4 := if_pos h
      have en : rhN s n l true = n := if_pos h
      have el : rhL s n l true = l := if_pos h
      have ed : rhD s n l true = numVal (cutB (great s)).data.toList 2 := if_pos h
      rw [ey, en, el, ed]
      refine ⟨hd, ext ?_⟩
      rcases hc with ⟨_, r, e⟩ | ⟨g0, _⟩
      · rw [heb_parts _ _ _ _ r, digs4_back c4, digs2_back c2, e]
        exact (three c4 c2).symm
      · cases g0
    · rw [if_neg hd] at h'; omega
  · rw [if_neg c] at h'; omega
theorem heb_ends {s t : ByteArray} {y n d : Int} {l : Bool} (hr : Cal.right n l = true) (e : hebTxt y n l d = great s) (ht : t = great s) : t.size = s.size ∧ 11 ≤ s.size ∧ t.extract 0 4 = s.extract 0 4 ∧ t.extract (s.size - 3) s.size = s.extract (s.size - 3) s.size := by
  have hp := heb_parts y n l d hr
  rw [e, great_list, digs4_list, digs2_list] at hp
  have hl : s.data.toList.length = s.size := by simp
  have hts : t.size = s.size := by rw [ht]; unfold great; rw [greatB_size, greatB_size]
  have cl : 3 ≤ (codeTxt n l).data.toList.length := by
    have hr2 : 1 ≤ n ∧ n ≤ 12 := right_bd hr
    unfold codeTxt
    cases l <;> simp
  have hlen := congrArg List.length hp
  simp only [List.length_map, List.length_append, List.length_cons, List.length_nil] at hlen
  have tl : t.data.toList = s.data.toList.map g := by rw [ht]; exact great_list s
  refine ⟨hts, by omega, ext ?_, ext ?_⟩
  · rw [ext_take, ext_take, tl]
    have e1 : (s.data.toList.map g).take 4 = [B y 1000, B y 100, B y 10, B y 1] := by rw [hp]; rfl
    simp only [List.drop_zero]
    rw [← List.map_take] at e1 ⊢
    have : ∀ (L M : List UInt8), L.map g = M → (∀ v ∈ M, ¬ v = 76 ∧ ¬ v = 77) → L.map g = L := by
      intro L
      induction L with
      | nil => intro M _ _; rfl
      | cons x L ih =>
        intro M hM hv
        cases M with
        | nil => simp at hM
        | cons v M =>
          simp only [List.map_cons, List.cons.injEq] at hM
          have hx := g_back hM.1 (hv v List.mem_cons_self).1 (hv v List.mem_cons_self).2
          simp only [List.map_cons]
          rw [ih M hM.2 (fun u hu => hv u (List.mem_cons_of_mem _ hu)), hM.1, hx]
    refine this _ _ e1 (fun v hv => ?_)
    simp only [List.mem_cons, List.not_mem_nil, or_false] at hv
    rcases hv with rfl | rfl | rfl | rfl <;> exact ⟨(dig_ne (B_dig _ _).1).2.1, (dig_ne (B_dig _ _).1).2.2.1⟩
  · rw [ext_take, ext_take, tl]
    have hk : s.size - 3 = ([B y 1000, B y 100, B y 10, B y 1] ++ 45 :: (codeTxt n l).data.toList).length := by
      simp only [List.length_append, List.length_cons, List.length_nil]; omega
    have e1 : (s.data.toList.map g).drop (s.size - 3) = [45, B d 10, B d 1] := by
      rw [hp, hk]
      rw [show [B y 1000, B y 100, B y 10, B y 1] ++ 45 :: ((codeTxt n l).data.toList ++ 45 :: [B d 10, B d 1]) = ([B y 1000, B y 100, B y 10, B y 1] ++ 45 :: (codeTxt n l).data.toList) ++ [45, B d 10, B d 1] by simp]
      exact List.drop_left
    rw [List.take_of_length_le (by simp), List.take_of_length_le (by simp)]
    rw [← List.map_drop] at e1 ⊢
    have : ∀ (L M : List UInt8), L.map g = M → (∀ v ∈ M, ¬ v = 76 ∧ ¬ v = 77) → L.map g = L := by
      intro L
      induction L with
      | nil => intro M _ _; rfl
      | cons x L ih =>
        intro M hM hv
        cases M with
        | nil => simp at hM
        | cons v M =>
          simp only [List.map_cons, List.cons.injEq] at hM
          have hx := g_back hM.1 (hv v List.mem_cons_self).1 (hv v List.mem_cons_self).2
          simp only [List.map_cons]
          rw [ih M hM.2 (fun u hu => hv u (List.mem_cons_of_mem _ hu)), hM.1, hx]
    refine this _ _ e1 (fun v hv => ?_)
    simp only [List.mem_cons, List.not_mem_nil, or_false] at hv
    rcases hv with rfl | rfl | rfl
    · exact ⟨by decide, by decide⟩
    · exact ⟨(dig_ne (B_dig _ _).1).2.1, (dig_ne (B_dig _ _).1).2.2.1⟩
    · exact ⟨(dig_ne (B_dig _ _).1).2.1, (dig_ne (B_dig _ _).1).2.2.1⟩
end D13
end Go.Proofs.YtafenpgafmdenaaGreatDoor
/- Layer 13: Gregorian dates' texts, there and back. -/
namespace Go.Proofs.YtafenpgafmdenaaGreatDoor
open Go.ChangeShapes Go.WideShapes Go.ChangeAt Go.RowKit
set_option linter.unusedVariables false
set_option maxRecDepth 100000
namespace D13
theorem nil_cut {t : ByteArray} (h : t.data.toList = []) : (cutA t).data.toList = [] := (cut_no (s := t) (by rw [h]; simp)).1
theorem three' {X : ByteArray} (hne : ¬ (cutA (cutA X)).data.toList = []) : X.data.toList = (cutA (cutA X)).data.toList ++ 45 :: ((cutB (cutA X)).data.toList ++ 45 :: (cutB X).data.toList) := by
  rcases split_last X.data.toList with ⟨b, c, e, h⟩ | h
  · obtain ⟨a1, a2⟩ := cut_dash e h
    rcases split_last b with ⟨b', c', e', h'⟩ | h'
    · obtain ⟨a3, a4⟩ := cut_dash (s := cutA X) (a1.trans e') h'
      rw [a3, a4, a2, e, e']
      simp
    · exact absurd (cut_no (s := cutA X) (by rw [a1]; exact h')).1 hne
  · exact absurd (nil_cut (cut_no h).1) hne
theorem num_bd4 (l : List UInt8) : 0 ≤ numVal l 4 ∧ numVal l 4 ≤ 9999 := by
  unfold numVal
  split
  · rename_i h
    unfold numOk at h
    simp only [Bool.and_eq_true, decide_eq_true_eq] at h
    match l, h with
    | [a, b, c, d], ⟨_, h⟩ =>
      simp only [List.all_cons, List.all_nil, Bool.and_true, Bool.and_eq_true] at h
      have ha := dig_bd h.1; have hb := dig_bd h.2.1; have hc := dig_bd h.2.2.1; have hd := dig_bd h.2.2.2
      simp only [numFold, List.foldl_cons, List.foldl_nil]
      omega
  · omega
theorem bare_of {t : ByteArray} : (below0 t = true ∧ t.data.toList = 45 :: (bare t).data.toList) ∨ (below0 t = false ∧ (bare t).data.toList = t.data.toList) := by
  show (Go.Lib.hasPrefix t.data.toList [45] = true ∧ t.data.toList = 45 :: ((Go.Lib.trimPrefix t.data.toList [45]).toArray).toList) ∨ (Go.Lib.hasPrefix t.data.toList [45] = false ∧ ((Go.Lib.trimPrefix t.data.toList [45]).toArray).toList = t.data.toList)
  unfold Go.Lib.trimPrefix Go.Lib.hasPrefix
  generalize t.data.toList = l
  match l with
  | [] => right; simp [List.isPrefixOf]
  | x :: l =>
    by_cases h : x = 45
    · left; subst h; simp [List.isPrefixOf]
    · right
      have h' : (45 == x) = false := by simp; exact fun e => h e.symm
      simp [List.isPrefixOf, h']
theorem bare_dash {t : ByteArray} {l : List UInt8} (h : t.data.toList = 45 :: l) : below0 t = true ∧ (bare t).data.toList = l := by
  rcases bare_of (t := t) with ⟨a, b⟩ | ⟨a, b⟩
  · rw [h] at b; exact ⟨a, (List.cons.inj b).2.symm⟩
  · exfalso
    have : below0 t = true := by
      show Go.Lib.hasPrefix t.data.toList [45] = true
      rw [h]; simp [Go.Lib.hasPrefix, List.isPrefixOf]
    rw [this] at a; cases a
theorem bare_dig {t : ByteArray} {x : UInt8} {l : List UInt8} (h : t.data.toList = x :: l) (hx : ¬ x = 45) : below0 t = false ∧ (bare t).data.toList = x :: l := by
  rcases bare_of (t := t) with ⟨a, b⟩ | ⟨a, b⟩
  · rw [h] at b; exact absurd (List.cons.inj b).1 hx
  · exact ⟨a, b.trans h⟩
def sgnL (y : Int) : List UInt8 := if y < 0 then [45] else []
theorem civ_parts (y m d : Int) : (civTxt y m d).data.toList = (sgnL y ++ (digs (absV y) [1000, 100, 10, 1]).data.toList) ++ 45 :: ((digs m [10, 1]).data.toList ++ 45 :: (digs d [10, 1]).data.toList) := by
  unfold civTxt sgn sgnL
  by_cases c : y < 0
  · rw [if_pos c, if_pos c]; simp
  · rw [if_neg c, if_neg c]; simp
theorem all_dig {l : List UInt8} {M : Nat} (h : numOk l M = true) : ∀ x ∈ l, isDig x = true := by
  unfold numOk at h; simp only [Bool.and_eq_true] at h; exact List.all_eq_true.1 h.2
theorem civ_size {y m d : Int} : (civTxt y m d).size ≤ 100 := by
  have h := congrArg List.length (civ_parts y m d)
  rw [digs4_list, digs2_list, digs2_list] at h
  have hl : (civTxt y m d).data.toList.length = (civTxt y m d).size := by simp
  rw [hl] at h
  have : (sgnL y).length ≤ 1 := by unfold sgnL; split <;> simp
  simp at h
  omega
theorem heb_size {y n d : Int} {l : Bool} (hr : Cal.right n l = true) : (hebTxt y n l d).size ≤ 100 := by
  have h := congrArg List.length (heb_parts y n l d hr)
  rw [digs4_list, digs2_list] at h
  have hl : (hebTxt y n l d).data.toList.length = (hebTxt y n l d).size := by simp
  rw [hl] at h
  have : (codeTxt n l).data.toList.length ≤ 4 := by unfold codeTxt; cases l <;> simp
  simp only [List.length_append, List.length_cons, List.length_nil] at h
  omega
theorem read_civ {y m d : Int} (h : Gr.gtE y m d = 0) : rcE (civTxt y m d) = 0 ∧ rcY (civTxt y m d) = y ∧ rcM (civTxt y m d) = m ∧ rcD (civTxt y m d) = d := by
  obtain ⟨b1, b2, b3, b4, b5, b6⟩ := Gr.gt_in h
  have ha : 0 ≤ absV y ∧ absV y ≤ 7000 := by unfold absV; split <;> omega
  have q4 := digs4_ok (n := absV y) ha.1 (by omega)
  have qm := digs2_ok (n := m) (by omega) (by omega)
  have qd := digs2_ok (n := d) (by omega) (by omega)
  have hp := civ_parts y m d
  obtain ⟨a1, a2⟩ := cut_dash (s := civTxt y m d) (b := (sgnL y ++ (digs (absV y) [1000, 100, 10, 1]).data.toList) ++ 45 :: (digs m [10, 1]).data.toList) (c := (digs d [10, 1]).data.toList) (by rw [hp]; simp) (fun x hx => (dig_ne (all_dig qd.1 x hx)).1)
  obtain ⟨a3, a4⟩ := cut_dash (s := cutA (civTxt y m d)) a1 (fun x hx => (dig_ne (all_dig qm.1 x hx)).1)
  have hE : rcOk (civTxt y m d) = true ∧ rcYv (civTxt y m d) = y := by
    by_cases c : y < 0
    · have e1 : sgnL y = [45] := if_pos c
      have e2 : absV y = -y := if_pos c
      rw [e1] at a3
      obtain ⟨f1, f2⟩ := bare_dash (l := (digs (absV y) [1000, 100, 10, 1]).data.toList) a3
      unfold rcOk rcYv
      rw [f1, f2, a2, a4, q4.1, q4.2, qm.1, qd.1, e2]
      refine ⟨?_, by rw [if_pos rfl]; omega⟩
      have : (-y == 0) = false := by simp; omega
      rw [this]; rfl
    · have e1 : sgnL y = [] := if_neg c
      have e2 : absV y = y := if_neg c
      rw [e1, List.nil_append] at a3
      have f := bare_dig (t := cutA (cutA (civTxt y m d))) (x := B (absV y) 1000) (l := [B (absV y) 100, B (absV y) 10, B (absV y) 1]) (by rw [a3, digs4_list]) (dig_ne (B_dig _ _).1).1
      rw [← digs4_list] at f
      unfold rcOk rcYv
      rw [f.1, f.2, a2, a4, q4.1, q4.2, qm.1, qd.1, e2]
      exact ⟨rfl, if_neg (by simp)⟩
  have e0 : rcE (civTxt y m d) = 0 := by
    unfold rcE
    rw [if_pos hE.1, hE.2, a2, a4, qm.2, qd.2, if_pos h]
  refine ⟨e0, ?_, ?_, ?_⟩
  · unfold rcY; rw [if_pos e0, hE.2]
  · unfold rcM; rw [if_pos e0, a4, qm.2]
  · unfold rcD; rw [if_pos e0, a2, qd.2]
theorem civ_back {s : ByteArray} (h : rcE s = 0) : Gr.gtE (rcY s) (rcM s) (rcD s) = 0 ∧ civTxt (rcY s) (rcM s) (rcD s) = s := by
  have h' := h
  unfold rcE at h'
  by_cases ok : rcOk s = true
  · rw [if_pos ok] at h'
    by_cases h0 : Gr.gtE (rcYv s) (numVal (cutB (cutA s)).data.toList 2) (numVal (cutB s).data.toList 2) = 0
    · have ey : rcY s = rcYv s := if_pos h
      have em : rcM s = numVal (cutB (cutA s)).data.toList 2 := if_pos h
      have ed : rcD s = numVal (cutB s).data.toList 2 := if_pos h
      rw [ey, em, ed]
      refine ⟨h0, ext ?_⟩
      unfold rcOk at ok
      simp only [Bool.and_eq_true] at ok
      obtain ⟨⟨o4, om, od⟩, oz⟩ := ok
      have b4 := num_bd4 (bare (cutA (cutA s))).data.toList
      have ne4 : ¬ (bare (cutA (cutA s))).data.toList = [] := by
        intro e; rw [e] at o4; revert o4; decide
      rw [civ_parts, digs2_back om, digs2_back od]
      rcases bare_of (t := cutA (cutA s)) with ⟨f1, f2⟩ | ⟨f1, f2⟩
      · have ne : ¬ (cutA (cutA s)).data.toList = [] := by rw [f2]; simp
        rw [f1] at oz
        have nz : ¬ numVal (bare (cutA (cutA s))).data.toList 4 = 0 := by
          intro e; rw [e] at oz; revert oz; decide
        have yv : rcYv s = -(numVal (bare (cutA (cutA s))).data.toList 4) := by unfold rcYv; rw [if_pos f1]
        have e1 : sgnL (rcYv s) = [45] := if_pos (by rw [yv]; omega)
        have e2 : absV (rcYv s) = numVal (bare (cutA (cutA s))).data.toList 4 := by
          unfold absV; rw [if_pos (by rw [yv]; omega), yv]; omega
        rw [e1, e2, digs4_back o4]
        rw [three' ne, f2]
        rfl
      · have ne : ¬ (cutA (cutA s)).data.toList = [] := by rw [← f2]; exact ne4
        have yv : rcYv s = numVal (bare (cutA (cutA s))).data.toList 4 := by unfold rcYv; rw [f1]; exact if_neg (by simp)
        have e1 : sgnL (rcYv s) = [] := if_neg (by rw [yv]; omega)
        have e2 : absV (rcYv s) = numVal (bare (cutA (cutA s))).data.toList 4 := by
          unfold absV; rw [if_neg (by rw [yv]; omega), yv]
        rw [e1, e2, digs4_back o4, List.nil_append]
        rw [three' ne, f2]
    · rw [if_neg h0] at h'; omega
  · rw [if_neg ok] at h'; omega
theorem rcE_cases (s : ByteArray) : rcE s = 0 ∨ rcE s = 5 ∨ rcE s = 2 := by
  unfold rcE; split
  · split <;> simp
  · simp
theorem rhE_cases (s : ByteArray) (n : Int) (l ok : Bool) : rhE s n l ok = 0 ∨ rhE s n l ok = 5 ∨ rhE s n l ok = 2 := by
  unfold rhE; split
  · split <;> simp
  · simp
theorem rhY_bd (s : ByteArray) (n : Int) (l ok : Bool) : I64 (rhY s n l ok) := by
  have := num_bd4 (cutA (cutA (great s))).data.toList
  unfold rhY I64; split <;> omega
end D13
end Go.Proofs.YtafenpgafmdenaaGreatDoor
/- Layer 11: the document's days of Gregorian dates, and dates of days. -/
namespace Go.Proofs.YtafenpgafmdenaaGreatDoor
open Go.ChangeShapes Go.WideShapes Go.ChangeAt Go.RowKit
set_option linter.unusedVariables false
set_option maxRecDepth 100000
set_option maxHeartbeats 1000000 in
theorem ref11_ToDay_y1 (y m d : Int) (w : World) (h : y < -4000) :
    Calls Tryz.prog 44 #[.agg #[.int .i64 y, .int .i64 m, .int .i64 d]] w fun e w' => e = .returned (.tuple #[.int .i64 (0), .int .i64 2]) ∧ Below w.heap.size w w' := by
  go_enter Tryz.func44, Tryz.ntmps44
  go_wp2_with fail
  go_ret2
  exact ⟨rfl, ba _ _⟩
set_option maxHeartbeats 1000000 in
theorem ref11_ToDay_y2 (y m d : Int) (w : World) (h1 : -4000 ≤ y) (h : 7000 < y) :
    Calls Tryz.prog 44 #[.agg #[.int .i64 y, .int .i64 m, .int .i64 d]] w fun e w' => e = .returned (.tuple #[.int .i64 (0), .int .i64 2]) ∧ Below w.heap.size w w' := by
  go_enter Tryz.func44, Tryz.ntmps44
  go_wp2_with fail
  go_ret2
  exact ⟨rfl, ba _ _⟩
set_option maxHeartbeats 1000000 in
theorem ref11_ToDay_m1 (y m d : Int) (w : World) (h1 : -4000 ≤ y) (h2 : y ≤ 7000) (h : m < 1) :
    Calls Tryz.prog 44 #[.agg #[.int .i64 y, .int .i64 m, .int .i64 d]] w fun e w' => e = .returned (.tuple #[.int .i64 (0), .int .i64 3]) ∧ Below w.heap.size w w' := by
  go_enter Tryz.func44, Tryz.ntmps44
  go_wp2_with fail
  go_ret2
  exact ⟨rfl, ba _ _⟩
set_option maxHeartbeats 1000000 in
theorem ref11_ToDay_m2 (y m d : Int) (w : World) (h1 : -4000 ≤ y) (h2 : y ≤ 7000) (h3 : 1 ≤ m) (h : 12 < m) :
    Calls Tryz.prog 44 #[.agg #[.int .i64 y, .int .i64 m, .int .i64 d]] w fun e w' => e = .returned (.tuple #[.int .i64 (0), .int .i64 3]) ∧ Below w.heap.size w w' := by
  go_enter Tryz.func44, Tryz.ntmps44
  go_wp2_with fail
  go_ret2
  exact ⟨rfl, ba _ _⟩
set_option maxHeartbeats 1000000 in
theorem ref11_ToDay_d1 (y m d : Int) (w : World) (h1 : -4000 ≤ y) (h2 : y ≤ 7000) (h3 : 1 ≤ m) (h4 : m ≤ 12) (h : d < 1) :
    Calls Tryz.prog 44 #[.agg #[.int .i64 y, .int .i64 m, .int .i64 d]] w fun e w' => e = .returned (.tuple #[.int .i64 (0), .int .i64 4]) ∧ Below w.heap.size w w' := by
  have g1 : decide (d < 1) = true := by simpa using h
  go_enter Tryz.func44, Tryz.ntmps44
  go_wp2_with fail
  refine settle (fun W => W.cell? ⟨w.heap.size, 0, none⟩ = some (.int .i64 y) ∧ W.cell? ⟨w.heap.size, 1, none⟩ = some (.int .i64 m) ∧ W.cell? ⟨w.heap.size, 2, none⟩ = some (.int .i64 d) ∧ w.heap.size < W.heap.size ∧ Below w.heap.size w W) ⟨by simp [go_sem], by simp [go_sem], by simp [go_sem], by simp, ba _ _⟩ ?_
  rintro W0 ⟨c0, c1, c2, cs, hB0⟩
  refine wp_region_class (by kernel_rfl) (by kernel_rfl) (fun hall => ?_)
  repeat (first | go_big_quiet_skip | (go_big_quiet_want; first | (refine quiet_load1 _ _ _ rfl rfl ?_ ?_ ?_; (focus (intro _; simp; done)); (focus (first | assumption | omega | (simp; done) | (simp; omega))); apply Exists.intro; refine ⟨?_, ?_⟩; assumption; go_simp; go_big_quiet_on) | (refine quiet_load2 _ _ _ _ rfl rfl ?_ ?_ ?_ ?_; (focus (intro _; simp; done)); (focus (intro _; simp; done)); (focus (first | assumption | omega | (simp; done) | (simp; omega))); apply Exists.intro; apply Exists.intro; refine ⟨?_, ?_, ?_⟩; assumption; assumption; go_simp; go_big_quiet_on) | (refine quiet_load3 _ _ _ _ rfl rfl ?_ ?_ ?_ ?_; (focus (intro _; simp; done)); (focus (intro _; simp; done)); (focus (first | assumption | omega | (simp; done) | (simp; omega))); apply Exists.intro; apply Exists.intro; apply Exists.intro; refine ⟨?_, ?_, ?_, ?_⟩; assumption; assumption; assumption; go_simp; go_big_quiet_on) | (refine quiet_load4 _ _ _ _ rfl rfl ?_ ?_ ?_ ?_; (focus (intro _; simp; done)); (focus (intro _; simp; done)); (focus (first | assumption | omega | (simp; done) | (simp; omega))); apply Exists.intro; apply Exists.intro; apply Exists.intro; apply Exists.intro; refine ⟨?_, ?_, ?_, ?_, ?_⟩; assumption; assumption; assumption; assumption; go_simp; go_big_quiet_on) | (go_big_quiet_op; first | go_big_quiet_on | (apply Exists.intro; refine ⟨fun x hx => ?_, ?_⟩; (first | fail); go_big_quiet_on))))
  refine wpQuiet_nil ?_
  clear hall
  intro x1 hx1
  go_wp2_with fail
  go_ret2
  exact ⟨rfl, bt hB0 hx1⟩
set_option maxHeartbeats 1000000 in
theorem ref11_ToDay_d2 (y m d : Int) (w : World) (h1 : -4000 ≤ y) (h2 : y ≤ 7000) (h3 : 1 ≤ m) (h4 : m ≤ 12) (h5 : 1 ≤ d) (h : Gr.days y m < d) :
    Calls Tryz.prog 44 #[.agg #[.int .i64 y, .int .i64 m, .int .i64 d]] w fun e w' => e = .returned (.tuple #[.int .i64 (0), .int .i64 4]) ∧ Below w.heap.size w w' := by
  have HD := Lib.hid (fun i w => ref11_Days y i w ⟨by omega, by omega⟩)
  have g1 : decide (d < 1) = false := by simp; omega
  generalize hN : Gr.days y m = N at *
  have HDm := Lib.hid (fun w => (hN ▸ HD.out m w : Calls Tryz.prog 93 #[.int .i64 y, .int .i64 m] w fun e w' => e = .returned (.int .i64 N) ∧ Below w.heap.size w w'))
  clear hN
  go_enter Tryz.func44, Tryz.ntmps44
  go_wp2_with fail
  refine settle (fun W => W.cell? ⟨w.heap.size, 0, none⟩ = some (.int .i64 y) ∧ W.cell? ⟨w.heap.size, 1, none⟩ = some (.int .i64 m) ∧ W.cell? ⟨w.heap.size, 2, none⟩ = some (.int .i64 d) ∧ w.heap.size < W.heap.size ∧ Below w.heap.size w W) ⟨by simp [go_sem], by simp [go_sem], by simp [go_sem], by simp, ba _ _⟩ ?_
  rintro W0 ⟨c0, c1, c2, cs, hB0⟩
  refine wp_region_class (by kernel_rfl) (by kernel_rfl) (fun hall => ?_)
  repeat (first | go_big_quiet_skip | (go_big_quiet_want; first | (refine quiet_load1 _ _ _ rfl rfl ?_ ?_ ?_; (focus (intro _; simp; done)); (focus (first | assumption | omega | (simp; done) | (simp; omega))); apply Exists.intro; refine ⟨?_, ?_⟩; assumption; go_simp; go_big_quiet_on) | (refine quiet_load2 _ _ _ _ rfl rfl ?_ ?_ ?_ ?_; (focus (intro _; simp; done)); (focus (intro _; simp; done)); (focus (first | assumption | omega | (simp; done) | (simp; omega))); apply Exists.intro; apply Exists.intro; refine ⟨?_, ?_, ?_⟩; assumption; assumption; go_simp; go_big_quiet_on) | (refine quiet_load3 _ _ _ _ rfl rfl ?_ ?_ ?_ ?_; (focus (intro _; simp; done)); (focus (intro _; simp; done)); (focus (first | assumption | omega | (simp; done) | (simp; omega))); apply Exists.intro; apply Exists.intro; apply Exists.intro; refine ⟨?_, ?_, ?_, ?_⟩; assumption; assumption; assumption; go_simp; go_big_quiet_on) | (refine quiet_load4 _ _ _ _ rfl rfl ?_ ?_ ?_ ?_; (focus (intro _; simp; done)); (focus (intro _; simp; done)); (focus (first | assumption | omega | (simp; done) | (simp; omega))); apply Exists.intro; apply Exists.intro; apply Exists.intro; apply Exists.intro; refine ⟨?_, ?_, ?_, ?_, ?_⟩; assumption; assumption; assumption; assumption; go_simp; go_big_quiet_on) | (go_big_quiet_op; first | go_big_quiet_on | (apply Exists.intro; refine ⟨fun x hx => ?_, ?_⟩; (first | exact call_below hx (HDm.out x)); go_big_quiet_on))))
  refine wpQuiet_nil ?_
  clear hall
  intro x1 hx1
  go_wp2_with fail
  go_ret2
  exact ⟨rfl, bt hB0 hx1⟩
set_option maxHeartbeats 1000000 in
theorem ref11_ToDay_ok_in (y m d : Int) (w : World) (h1 : -4000 ≤ y) (h2 : y ≤ 7000) (h3 : 1 ≤ m) (h4 : m ≤ 12) (h5 : 1 ≤ d) (h : d ≤ Gr.days y m) (b1 : -1373427 ≤ Gr.dayOf y m d) (b2 : Gr.dayOf y m d ≤ 2278650) :
    Calls Tryz.prog 44 #[.agg #[.int .i64 y, .int .i64 m, .int .i64 d]] w fun e w' => e = .returned (.tuple #[.int .i64 (Gr.dayOf y m d), .int .i64 0]) ∧ Below w.heap.size w w' := by
  have HD := Lib.hid (fun i w => ref11_Days y i w ⟨by omega, by omega⟩)
  have HC0 := fun w => ref11_in (Gr.dayOf y m d) w
  rw [show (decide (-1373427 ≤ Gr.dayOf y m d) && decide (Gr.dayOf y m d ≤ 2278650)) = true by simp [b1, b2]] at HC0
  have HC := Lib.hid HC0
  clear HC0 b1 b2
  obtain ⟨M, hM, hM2⟩ : ∃ M : Nat, m = (M : Int) + 1 ∧ M < 12 := ⟨(m - 1).toNat, by omega, by omega⟩
  subst hM
  obtain ⟨N, hN, hN1, hN2, hN3⟩ := Gr.ml_at y M hM2
  have hab := Gr.ahead_bd y h1 h2
  have HA := Lib.hid (fun w => ref11_ahead y w (by omega) (by omega))
  have hat := Lib.hid (Gr.ml_at y)
  have htk := Lib.hid (Gr.take_bd y)
  have hdo : Gr.dayOf y ((M : Int) + 1) d = Gr.ahead y + d + ((Gr.ml y).take M).sum := by unfold Gr.dayOf Gr.before; rw [show ((M : Int) + 1 - 1).toNat = M by omega]
  rw [hdo] at HC
  rw [hN1] at h
  have HDm := Lib.hid (fun w => (hN1 ▸ HD.out ((M : Int) + 1) w : Calls Tryz.prog 93 #[.int .i64 y, .int .i64 ((M : Int) + 1)] w fun e w' => e = .returned (.int .i64 N) ∧ Below w.heap.size w w'))
  clear hN1 hN
  rw [hdo]
  clear hdo
  generalize Gr.ahead y = A at *
  have g1 : decide (d < 1) = false := by simp; omega
  go_enter Tryz.func44, Tryz.ntmps44
  go_wp2_with fail
  refine settle (fun W => W.cell? ⟨w.heap.size, 0, none⟩ = some (.int .i64 y) ∧ W.cell? ⟨w.heap.size, 1, none⟩ = some (.int .i64 ((M : Int) + 1)) ∧ W.cell? ⟨w.heap.size, 2, none⟩ = some (.int .i64 d) ∧ w.heap.size < W.heap.size ∧ Below w.heap.size w W) ⟨by simp [go_sem], by simp [go_sem], by simp [go_sem], by simp, ba _ _⟩ ?_
  rintro W0 ⟨c0, c1, c2, cs, hB0⟩
  refine wp_region_class (by kernel_rfl) (by kernel_rfl) (fun hall => ?_)
  repeat (first | go_big_quiet_skip | (go_big_quiet_want; first | (refine quiet_load1 _ _ _ rfl rfl ?_ ?_ ?_; (focus (intro _; simp; done)); (focus (first | assumption | omega | (simp; done) | (simp; omega))); apply Exists.intro; refine ⟨?_, ?_⟩; assumption; go_simp; go_big_quiet_on) | (refine quiet_load2 _ _ _ _ rfl rfl ?_ ?_ ?_ ?_; (focus (intro _; simp; done)); (focus (intro _; simp; done)); (focus (first | assumption | omega | (simp; done) | (simp; omega))); apply Exists.intro; apply Exists.intro; refine ⟨?_, ?_, ?_⟩; assumption; assumption; go_simp; go_big_quiet_on) | (refine quiet_load3 _ _ _ _ rfl rfl ?_ ?_ ?_ ?_; (focus (intro _; simp; done)); (focus (intro _; simp; done)); (focus (first | assumption | omega | (simp; done) | (simp; omega))); apply Exists.intro; apply Exists.intro; apply Exists.intro; refine ⟨?_, ?_, ?_, ?_⟩; assumption; assumption; assumption; go_simp; go_big_quiet_on) | (refine quiet_load4 _ _ _ _ rfl rfl ?_ ?_ ?_ ?_; (focus (intro _; simp; done)); (focus (intro _; simp; done)); (focus (first | assumption | omega | (simp; done) | (simp; omega))); apply Exists.intro; apply Exists.intro; apply Exists.intro; apply Exists.intro; refine ⟨?_, ?_, ?_, ?_, ?_⟩; assumption; assumption; assumption; assumption; go_simp; go_big_quiet_on) | (go_big_quiet_op; first | go_big_quiet_on | (apply Exists.intro; refine ⟨fun x hx => ?_, ?_⟩; (first | exact call_below hx (HDm.out x)); go_big_quiet_on))))
  refine wpQuiet_nil ?_
  clear hall
  intro x1 hx1
  have k0 := (hx1.cell (p := ⟨w.heap.size, 0, none⟩) cs).trans c0
  have k1 := (hx1.cell (p := ⟨w.heap.size, 1, none⟩) cs).trans c1
  have k2 := (hx1.cell (p := ⟨w.heap.size, 2, none⟩) cs).trans c2
  have ks : w.heap.size < x1.heap.size := Nat.lt_of_lt_of_le cs hx1.size
  have hB1 : Below w.heap.size w x1 := bt hB0 hx1
  clear c0 c1 c2 cs
  go_wp2_with fail
  refine wp_region_class (by kernel_rfl) (by kernel_rfl) (fun hall => ?_)
  repeat (first | go_big_quiet_skip | (go_big_quiet_want; first | (refine quiet_load1 _ _ _ rfl rfl ?_ ?_ ?_; (focus (intro _; simp; done)); (focus (first | assumption | omega | (simp; done) | (simp; omega))); apply Exists.intro; refine ⟨?_, ?_⟩; assumption; go_simp; go_big_quiet_on) | (refine quiet_load2 _ _ _ _ rfl rfl ?_ ?_ ?_ ?_; (focus (intro _; simp; done)); (focus (intro _; simp; done)); (focus (first | assumption | omega | (simp; done) | (simp; omega))); apply Exists.intro; apply Exists.intro; refine ⟨?_, ?_, ?_⟩; assumption; assumption; go_simp; go_big_quiet_on) | (refine quiet_load3 _ _ _ _ rfl rfl ?_ ?_ ?_ ?_; (focus (intro _; simp; done)); (focus (intro _; simp; done)); (focus (first | assumption | omega | (simp; done) | (simp; omega))); apply Exists.intro; apply Exists.intro; apply Exists.intro; refine ⟨?_, ?_, ?_, ?_⟩; assumption; assumption; assumption; go_simp; go_big_quiet_on) | (refine quiet_load4 _ _ _ _ rfl rfl ?_ ?_ ?_ ?_; (focus (intro _; simp; done)); (focus (intro _; simp; done)); (focus (first | assumption | omega | (simp; done) | (simp; omega))); apply Exists.intro; apply Exists.intro; apply Exists.intro; apply Exists.intro; refine ⟨?_, ?_, ?_, ?_, ?_⟩; assumption; assumption; assumption; assumption; go_simp; go_big_quiet_on) | (go_big_quiet_op; first | go_big_quiet_on | (apply Exists.intro; refine ⟨fun x hx => ?_, ?_⟩; (first | exact call_same hx (HA.out x)); go_big_quiet_on))))
  refine wpQuiet_nil ?_
  clear hall
  intro x2 hx2
  have c0 := (hx2.cell (p := ⟨w.heap.size, 0, none⟩) ks).trans k0
  have c1 := (hx2.cell (p := ⟨w.heap.size, 1, none⟩) ks).trans k1
  have cs : w.heap.size < x2.heap.size := Nat.lt_of_lt_of_le ks hx2.size
  have hB2 : Below w.heap.size w x2 := bt hB1 hx2
  clear k0 k1 k2 ks hx1 hx2
  go_wp2_with fail
  go_loopw [4, 5] (fun s i wr => ∃ j : Nat, j ≤ M ∧ i = .int .i64 ((j : Int) + 1) ∧ s = .int .i64 (A + d + ((Gr.ml y).take j).sum) ∧ wr.cell? ⟨w.heap.size, 0, none⟩ = some (.int .i64 y) ∧ wr.cell? ⟨w.heap.size, 1, none⟩ = some (.int .i64 ((M : Int) + 1)) ∧ w.heap.size < wr.heap.size ∧ Below w.heap.size w wr) (fun _ i _ => M + 1 - (intOf i).toNat)
  case atStart => exact ⟨0, by omega, rfl, by simp, c0, c1, cs, hB2⟩
  case round =>
    obtain ⟨j, hj, rfl, rfl, e0, e1, es, hB⟩ := hrel
    clear c0 c1 cs hB2 hB1 hB0
    have tb := htk.out j (by omega)
    by_cases c : j < M
    · obtain ⟨x, x1', x2', x3, x4⟩ := hat.out j (by omega)
      have tn := sum_take (Gr.ml y) j x x1'
      have HDj := Lib.hid (fun w => (x2' ▸ HD.out ((j : Int) + 1) w : Calls Tryz.prog 93 #[.int .i64 y, .int .i64 ((j : Int) + 1)] w fun e w' => e = .returned (.int .i64 x) ∧ Below w.heap.size w w'))
      have HS := Lib.hid tn
      clear tn x1' x2'
      generalize hS : ((Gr.ml y).take j).sum = S at *
      go_wp2_with fail
      refine (HDj.out _).mono ?_
      rintro e w5 ⟨rfl, hb5⟩
      have e0' := (hb5.cell (p := ⟨w.heap.size, 0, none⟩) es).trans e0
      have e1' := (hb5.cell (p := ⟨w.heap.size, 1, none⟩) es).trans e1
      have es' := Nat.lt_of_lt_of_le es hb5.size
      have hB5 := bt hB hb5
      go_wp2_with fail
      go_roundw
      case rel => exact ⟨j + 1, by omega, by simp, by rw [HS.out]; simp; omega, e0', e1', es', hB5⟩
      case measure => simp [intOf]; omega
    · obtain rfl : j = M := by omega
      clear c
      generalize hS : ((Gr.ml y).take j).sum = S at *
      go_wp2_with fail
      refine (HC.out _).mono ?_
      rintro e w5 ⟨rfl, hb5⟩
      go_wp2_with fail
      subst hS
      go_ret2
      exact ⟨rfl, bt hB hb5⟩
set_option maxHeartbeats 1000000 in
theorem ref11_ToDay_ok_out (y m d : Int) (w : World) (h1 : -4000 ≤ y) (h2 : y ≤ 7000) (h3 : 1 ≤ m) (h4 : m ≤ 12) (h5 : 1 ≤ d) (h : d ≤ Gr.days y m) (b : Gr.dayOf y m d < -1373427 ∨ 2278650 < Gr.dayOf y m d) :
    Calls Tryz.prog 44 #[.agg #[.int .i64 y, .int .i64 m, .int .i64 d]] w fun e w' => e = .returned (.tuple #[.int .i64 (0), .int .i64 2]) ∧ Below w.heap.size w w' := by
  have HD := Lib.hid (fun i w => ref11_Days y i w ⟨by omega, by omega⟩)
  have HC0 := fun w => ref11_in (Gr.dayOf y m d) w
  rw [show (decide (-1373427 ≤ Gr.dayOf y m d) && decide (Gr.dayOf y m d ≤ 2278650)) = false by simp only [Bool.and_eq_false_iff, decide_eq_false_iff_not]; omega] at HC0
  have HC := Lib.hid HC0
  clear HC0 b
  obtain ⟨M, hM, hM2⟩ : ∃ M : Nat, m = (M : Int) + 1 ∧ M < 12 := ⟨(m - 1).toNat, by omega, by omega⟩
  subst hM
  obtain ⟨N, hN, hN1, hN2, hN3⟩ := Gr.ml_at y M hM2
  have hab := Gr.ahead_bd y h1 h2
  have HA := Lib.hid (fun w => ref11_ahead y w (by omega) (by omega))
  have hat := Lib.hid (Gr.ml_at y)
  have htk := Lib.hid (Gr.take_bd y)
  have hdo : Gr.dayOf y ((M : Int) + 1) d = Gr.ahead y + d + ((Gr.ml y).take M).sum := by unfold Gr.dayOf Gr.before; rw [show ((M : Int) + 1 - 1).toNat = M by omega]
  rw [hdo] at HC
  rw [hN1] at h
  have HDm := Lib.hid (fun w => (hN1 ▸ HD.out ((M : Int) + 1) w : Calls Tryz.prog 93 #[.int .i64 y, .int .i64 ((M : Int) + 1)] w fun e w' => e = .returned (.int .i64 N) ∧ Below w.heap.size w w'))
  clear hN1 hN
  clear hdo
  generalize Gr.ahead y = A at *
  have g1 : decide (d < 1) = false := by simp; omega
  go_enter Tryz.func44, Tryz.ntmps44
  go_wp2_with fail
  refine settle (fun W => W.cell? ⟨w.heap.size, 0, none⟩ = some (.int .i64 y) ∧ W.cell? ⟨w.heap.size, 1, none⟩ = some (.int .i64 ((M : Int) + 1)) ∧ W.cell? ⟨w.heap.size, 2, none⟩ = some (.int .i64 d) ∧ w.heap.size < W.heap.size ∧ Below w.heap.size w W) ⟨by simp [go_sem], by simp [go_sem], by simp [go_sem], by simp, ba _ _⟩ ?_
  rintro W0 ⟨c0, c1, c2, cs, hB0⟩
  refine wp_region_class (by kernel_rfl) (by kernel_rfl) (fun hall => ?_)
  repeat (first | go_big_quiet_skip | (go_big_quiet_want; first | (refine quiet_load1 _ _ _ rfl rfl ?_ ?_ ?_; (focus (intro _; simp; done)); (focus (first | assumption | omega | (simp; done) | (simp; omega))); apply Exists.intro; refine ⟨?_, ?_⟩; assumption; go_simp; go_big_quiet_on) | (refine quiet_load2 _ _ _ _ rfl rfl ?_ ?_ ?_ ?_; (focus (intro _; simp; done)); (focus (intro _; simp; done)); (focus (first | assumption | omega | (simp; done) | (simp; omega))); apply Exists.intro; apply Exists.intro; refine ⟨?_, ?_, ?_⟩; assumption; assumption; go_simp; go_big_quiet_on) | (refine quiet_load3 _ _ _ _ rfl rfl ?_ ?_ ?_ ?_; (focus (intro _; simp; done)); (focus (intro _; simp; done)); (focus (first | assumption | omega | (simp; done) | (simp; omega))); apply Exists.intro; apply Exists.intro; apply Exists.intro; refine ⟨?_, ?_, ?_, ?_⟩; assumption; assumption; assumption; go_simp; go_big_quiet_on) | (refine quiet_load4 _ _ _ _ rfl rfl ?_ ?_ ?_ ?_; (focus (intro _; simp; done)); (focus (intro _; simp; done)); (focus (first | assumption | omega | (simp; done) | (simp; omega))); apply Exists.intro; apply Exists.intro; apply Exists.intro; apply Exists.intro; refine ⟨?_, ?_, ?_, ?_, ?_⟩; assumption; assumption; assumption; assumption; go_simp; go_big_quiet_on) | (go_big_quiet_op; first | go_big_quiet_on | (apply Exists.intro; refine ⟨fun x hx => ?_, ?_⟩; (first | exact call_below hx (HDm.out x)); go_big_quiet_on))))
  refine wpQuiet_nil ?_
  clear hall
  intro x1 hx1
  have k0 := (hx1.cell (p := ⟨w.heap.size, 0, none⟩) cs).trans c0
  have k1 := (hx1.cell (p := ⟨w.heap.size, 1, none⟩) cs).trans c1
  have k2 := (hx1.cell (p := ⟨w.heap.size, 2, none⟩) cs).trans c2
  have ks : w.heap.size < x1.heap.size := Nat.lt_of_lt_of_le cs hx1.size
  have hB1 : Below w.heap.size w x1 := bt hB0 hx1
  clear c0 c1 c2 cs
  go_wp2_with fail
  refine wp_region_class (by kernel_rfl) (by kernel_rfl) (fun hall => ?_)
  repeat (first | go_big_quiet_skip | (go_big_quiet_want; first | (refine quiet_load1 _ _ _ rfl rfl ?_ ?_ ?_; (focus (intro _; simp; done)); (focus (first | assumption | omega | (simp; done) | (simp; omega))); apply Exists.intro; refine ⟨?_, ?_⟩; assumption; go_simp; go_big_quiet_on) | (refine quiet_load2 _ _ _ _ rfl rfl ?_ ?_ ?_ ?_; (focus (intro _; simp; done)); (focus (intro _; simp; done)); (focus (first | assumption | omega | (simp; done) | (simp; omega))); apply Exists.intro; apply Exists.intro; refine ⟨?_, ?_, ?_⟩; assumption; assumption; go_simp; go_big_quiet_on) | (refine quiet_load3 _ _ _ _ rfl rfl ?_ ?_ ?_ ?_; (focus (intro _; simp; done)); (focus (intro _; simp; done)); (focus (first | assumption | omega | (simp; done) | (simp; omega))); apply Exists.intro; apply Exists.intro; apply Exists.intro; refine ⟨?_, ?_, ?_, ?_⟩; assumption; assumption; assumption; go_simp; go_big_quiet_on) | (refine quiet_load4 _ _ _ _ rfl rfl ?_ ?_ ?_ ?_; (focus (intro _; simp; done)); (focus (intro _; simp; done)); (focus (first | assumption | omega | (simp; done) | (simp; omega))); apply Exists.intro; apply Exists.intro; apply Exists.intro; apply Exists.intro; refine ⟨?_, ?_, ?_, ?_, ?_⟩; assumption; assumption; assumption; assumption; go_simp; go_big_quiet_on) | (go_big_quiet_op; first | go_big_quiet_on | (apply Exists.intro; refine ⟨fun x hx => ?_, ?_⟩; (first | exact call_same hx (HA.out x)); go_big_quiet_on))))
  refine wpQuiet_nil ?_
  clear hall
  intro x2 hx2
  have c0 := (hx2.cell (p := ⟨w.heap.size, 0, none⟩) ks).trans k0
  have c1 := (hx2.cell (p := ⟨w.heap.size, 1, none⟩) ks).trans k1
  have cs : w.heap.size < x2.heap.size := Nat.lt_of_lt_of_le ks hx2.size
  have hB2 : Below w.heap.size w x2 := bt hB1 hx2
  clear k0 k1 k2 ks hx1 hx2
  go_wp2_with fail
  go_loopw [4, 5] (fun s i wr => ∃ j : Nat, j ≤ M ∧ i = .int .i64 ((j : Int) + 1) ∧ s = .int .i64 (A + d + ((Gr.ml y).take j).sum) ∧ wr.cell? ⟨w.heap.size, 0, none⟩ = some (.int .i64 y) ∧ wr.cell? ⟨w.heap.size, 1, none⟩ = some (.int .i64 ((M : Int) + 1)) ∧ w.heap.size < wr.heap.size ∧ Below w.heap.size w wr) (fun _ i _ => M + 1 - (intOf i).toNat)
  case atStart => exact ⟨0, by omega, rfl, by simp, c0, c1, cs, hB2⟩
  case round =>
    obtain ⟨j, hj, rfl, rfl, e0, e1, es, hB⟩ := hrel
    clear c0 c1 cs hB2 hB1 hB0
    have tb := htk.out j (by omega)
    by_cases c : j < M
    · obtain ⟨x, x1', x2', x3, x4⟩ := hat.out j (by omega)
      have tn := sum_take (Gr.ml y) j x x1'
      have HDj := Lib.hid (fun w => (x2' ▸ HD.out ((j : Int) + 1) w : Calls Tryz.prog 93 #[.int .i64 y, .int .i64 ((j : Int) + 1)] w fun e w' => e = .returned (.int .i64 x) ∧ Below w.heap.size w w'))
      have HS := Lib.hid tn
      clear tn x1' x2'
      generalize hS : ((Gr.ml y).take j).sum = S at *
      go_wp2_with fail
      refine (HDj.out _).mono ?_
      rintro e w5 ⟨rfl, hb5⟩
      have e0' := (hb5.cell (p := ⟨w.heap.size, 0, none⟩) es).trans e0
      have e1' := (hb5.cell (p := ⟨w.heap.size, 1, none⟩) es).trans e1
      have es' := Nat.lt_of_lt_of_le es hb5.size
      have hB5 := bt hB hb5
      go_wp2_with fail
      go_roundw
      case rel => exact ⟨j + 1, by omega, by simp, by rw [HS.out]; simp; omega, e0', e1', es', hB5⟩
      case measure => simp [intOf]; omega
    · obtain rfl : j = M := by omega
      clear c
      generalize hS : ((Gr.ml y).take j).sum = S at *
      go_wp2_with fail
      refine (HC.out _).mono ?_
      rintro e w5 ⟨rfl, hb5⟩
      go_wp2_with fail
      subst hS
      go_ret2
      exact ⟨rfl, bt hB hb5⟩
theorem ref11_ToDay (y m d : Int) (w : World) :
    Calls Tryz.prog 44 #[.agg #[.int .i64 y, .int .i64 m, .int .i64 d]] w fun e w' => e = .returned (.tuple #[.int .i64 (Gr.gtV y m d), .int .i64 (Gr.gtE y m d)]) ∧ Below w.heap.size w w' := by
  by_cases c1 : y < -4000 ∨ 7000 < y
  · have e : Gr.gtE y m d = 2 := by unfold Gr.gtE; rw [if_pos c1]
    rw [show Gr.gtV y m d = 0 by unfold Gr.gtV; rw [e, if_neg (by omega)], e]
    by_cases h : y < -4000
    · exact ref11_ToDay_y1 y m d w h
    · exact ref11_ToDay_y2 y m d w (by omega) (by omega)
  by_cases c2 : m < 1 ∨ 12 < m
  · have e : Gr.gtE y m d = 3 := by unfold Gr.gtE; rw [if_neg c1, if_pos c2]
    rw [show Gr.gtV y m d = 0 by unfold Gr.gtV; rw [e, if_neg (by omega)], e]
    by_cases h : m < 1
    · exact ref11_ToDay_m1 y m d w (by omega) (by omega) h
    · exact ref11_ToDay_m2 y m d w (by omega) (by omega) (by omega) (by omega)
  by_cases c3 : d < 1 ∨ Gr.days y m < d
  · have e : Gr.gtE y m d = 4 := by unfold Gr.gtE; rw [if_neg c1, if_neg c2, if_pos c3]
    rw [show Gr.gtV y m d = 0 by unfold Gr.gtV; rw [e, if_neg (by omega)], e]
    by_cases h : d < 1
    · exact ref11_ToDay_d1 y m d w (by omega) (by omega) (by omega) (by omega) h
    · exact ref11_ToDay_d2 y m d w (by omega) (by omega) (by omega) (by omega) (by omega) (by omega)
  by_cases c4 : Gr.dayOf y m d < -1373427 ∨ 2278650 < Gr.dayOf y m d
  · have e : Gr.gtE y m d = 2 := by unfold Gr.gtE; rw [if_neg c1, if_neg c2, if_neg c3, if_pos c4]
    rw [show Gr.gtV y m d = 0 by unfold Gr.gtV; rw [e, if_neg (by omega)], e]
    exact ref11_ToDay_ok_out y m d w (by omega) (by omega) (by omega) (by omega) (by omega) (by omega) c4
  · have e : Gr.gtE y m d = 0 := by unfold Gr.gtE; rw [if_neg c1, if_neg c2, if_neg c3, if_neg c4]
    rw [show Gr.gtV y m d = Gr.dayOf y m d by unfold Gr.gtV; rw [e, if_pos rfl], e]
    exact ref11_ToDay_ok_in y m d w (by omega) (by omega) (by omega) (by omega) (by omega) (by omega) (by omega) (by omega)
namespace Gr
theorem ahead_up (y : Int) : ahead (y + 1) = ahead y + long y := by
  unfold ahead long leap
  by_cases a : y % 4 = 0 <;> by_cases b : y % 100 = 0 <;> by_cases c : y % 400 = 0 <;> simp [a, b, c] <;> omega
theorem long_bd (y : Int) : 365 ≤ long y ∧ long y ≤ 366 := by unfold long; split <;> omega
theorem ahead_mono (y : Int) : ∀ n : Nat, ahead y + 365 * n ≤ ahead (y + n)
  | 0 => by simp
  | n + 1 => by
    have ih := ahead_mono y n
    have := ahead_up (y + n)
    have := long_bd (y + n)
    rw [show y + ((n + 1 : Nat) : Int) = y + n + 1 by omega]
    omega
theorem ahead_le (y z : Int) (h : y ≤ z) : ahead y + 365 * (z - y) ≤ ahead z := by
  have := ahead_mono y (z - y).toNat
  rw [show y + ((z - y).toNat : Int) = z by omega] at this
  omega
theorem gY_spec (D : Int) : ahead (gY D) < D ∧ D ≤ ahead (gY D + 1) ∧ D = ahead (gY D) + leftV (D - 1) + 1 := by
  obtain ⟨a, b, c⟩ := year_spec (D - 1)
  have := ahead_up (yearV (D - 1))
  unfold gY
  omega
theorem gY_near (D : Int) (h1 : -1373427 ≤ D) (h2 : D ≤ 2278650) : D / 366 - 20 ≤ gY D := by
  obtain ⟨_, a, _⟩ := gY_spec D
  unfold ahead at a
  omega
theorem gY_step (D y : Int) (h : y ≤ gY D) : decide (ahead (y + 1) + 1 ≤ D) = decide (y < gY D) := by
  obtain ⟨a, b, _⟩ := gY_spec D
  by_cases c : y < gY D
  · have := ahead_le (y + 1) (gY D) (by omega)
    rw [decide_eq_true c, decide_eq_true (by omega)]
  · obtain rfl : y = gY D := by omega
    rw [decide_eq_false c, decide_eq_false (by omega)]
end Gr
end Go.Proofs.YtafenpgafmdenaaGreatDoor
