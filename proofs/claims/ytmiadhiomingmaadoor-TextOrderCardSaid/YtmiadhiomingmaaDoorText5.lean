/- Layer 13: a Gregorian date, read. -/
import Derived.Test.YtmiadhiomingmaaDoorText4
import Derived.Test.YtmiadhiomingmaaDoorGreg7
import Derived.Test.YtmiadhiomingmaaDoorFlat
import Derived.LoopTactic
namespace Go.Proofs.YtmiadhiomingmaaDoor
open Go.ChangeShapes Go.WideShapes Go.ChangeAt Go.RowKit
set_option linter.unusedVariables false
set_option maxRecDepth 100000
/-- The first part without a dash ahead. -/
def bare (s : ByteArray) : ByteArray := ⟨(Go.Lib.trimPrefix s.data.toList [45]).toArray⟩
def below0 (s : ByteArray) : Bool := Go.Lib.hasPrefix s.data.toList [45]
theorem bare_size (s : ByteArray) : (bare s).size ≤ s.size := by
  show ((Go.Lib.trimPrefix s.data.toList [45]).toArray).size ≤ s.data.size
  unfold Go.Lib.trimPrefix
  split <;> simp
set_option maxHeartbeats 4000000 in
theorem text_ReadCivil_y (s : ByteArray) (hs : s.size ≤ 1000000) (w : World) (hG : Tab w 3 Gr.gregCells) (h4 : numOk (bare (cutA (cutA s))).data.toList 4 = false) :
    Calls Tryd.prog 34 #[.string s] w fun e w' => e = .returned (.tuple #[.agg #[.int .i64 (0), .int .i64 (0), .int .i64 (0)], .int .i64 (5)]) ∧ Below w.heap.size w w' := by
  have z1 := cutA_size s
  have z2 := cutA_size (cutA s)
  have z3 := bare_size (cutA (cutA s))
  have z4 := cutB_size (cutA s)
  have z5 := cutB_size s
  have hyb := numVal_bd (bare (cutA (cutA s))).data.toList 4
  have y0 := hyb.1
  have y1 : numVal (bare (cutA (cutA s))).data.toList 4 < 10000 := hyb.2
  have HP := Lib.hid (fun w => text_part s w hs)
  have HX0 : ∀ w : World, Calls Tryd.prog 69 #[.string (cutA (cutA s)), .string ⟨#[45]⟩] w (fun e w' => e = .returned (.tuple #[.string (bare (cutA (cutA s))), .bool (below0 (cutA (cutA s)))]) ∧ w = w') := fun w => (Tryd.strings_CutPrefix (cutA (cutA s)) ⟨#[45]⟩ w).mono fun _ _ h => ⟨h.1, h.2.symm⟩
  have HX := Lib.hid HX0
  clear HX0
  have HN4 := Lib.hid (fun w => text_number (bare (cutA (cutA s))) 4 w (by omega) (by omega))
  have HNm := Lib.hid (fun w => text_number (cutB (cutA s)) 2 w (by omega) (by omega))
  have HNd := Lib.hid (fun w => text_number (cutB s) 2 w (by omega) (by omega))
  clear z1 z2 z3 z4 z5 hyb
  rw [h4] at HN4
  clear h4
  try generalize numVal (bare (cutA (cutA s))).data.toList 4 = yv at *
  try generalize numVal (cutB (cutA s)).data.toList 2 = mv at *
  try generalize numVal (cutB s).data.toList 2 = dv at *
  try generalize numOk (bare (cutA (cutA s))).data.toList 4 = o4 at *
  try generalize numOk (cutB (cutA s)).data.toList 2 = om at *
  try generalize numOk (cutB s).data.toList 2 = od at *
  try generalize below0 (cutA (cutA s)) = bw at *
  generalize (bare (cutA (cutA s))) = tF at *
  generalize (cutB (cutA s)) = tB at *
  generalize (cutB s) = tC at *
  generalize cutA (cutA s) = tA at *
  go_enter Tryd.func34, Tryd.ntmps34
  go_wp2_with fail
  refine (HP.out _).mono ?_
  rintro e w1 ⟨rfl, hb1⟩
  obtain ⟨hc1, hf1⟩ := bcell hb1
  have hz1 := hb1.size
  try simp at hz1
  have hs1x0 : w.heap.size < w1.heap.size := by omega
  have g1x0 : w1.cell? ⟨w.heap.size, 0, none⟩ = some (.int .i64 (0)) := (hc1 _ _ (by first | omega | (simp; done) | (simp; omega))).trans (by first | (with_reducible assumption) | (simp [go_sem]; done) | (simp [go_sem, *]; done) | assumption)
  have g1x1 : w1.cell? ⟨w.heap.size, 1, none⟩ = some (.int .i64 (0)) := (hc1 _ _ (by first | omega | (simp; done) | (simp; omega))).trans (by first | (with_reducible assumption) | (simp [go_sem]; done) | (simp [go_sem, *]; done) | assumption)
  have g1x2 : w1.cell? ⟨w.heap.size, 2, none⟩ = some (.int .i64 (0)) := (hc1 _ _ (by first | omega | (simp; done) | (simp; omega))).trans (by first | (with_reducible assumption) | (simp [go_sem]; done) | (simp [go_sem, *]; done) | assumption)
  go_wp2_with fail
  refine (HX.out _).mono ?_
  rintro e w' ⟨rfl, rfl⟩
  go_wp2_with fail
  refine (HN4.out _).mono ?_
  rintro e w' ⟨rfl, rfl⟩
  go_wp2_with fail
  refine (HNm.out _).mono ?_
  rintro e w' ⟨rfl, rfl⟩
  go_wp2_with fail
  refine (HNd.out _).mono ?_
  rintro e w' ⟨rfl, rfl⟩
  go_wp2_with fail
  refine bodyPost_ret (v := .tuple #[.agg #[.int .i64 (0), .int .i64 (0), .int .i64 (0)], .int .i64 (5)]) (by simp [results, Tryd.results34, go_sem, *]) rfl ⟨rfl, ?_⟩
  repeat (first | (with_reducible exact Below.refl _ _) | (with_reducible assumption) | (with_reducible refine bdrew ?_) | (with_reducible refine baa ?_ _) | (with_reducible refine bs ?_ (by first | exact Nat.le_refl _ | omega | (simp; done) | (simp; omega)) _) | (with_reducible refine bt ?_ (by with_reducible assumption)))
set_option maxHeartbeats 4000000 in
theorem text_ReadCivil_m (s : ByteArray) (hs : s.size ≤ 1000000) (w : World) (hG : Tab w 3 Gr.gregCells) (h4 : numOk (bare (cutA (cutA s))).data.toList 4 = true) (h5 : numOk (cutB (cutA s)).data.toList 2 = false) :
    Calls Tryd.prog 34 #[.string s] w fun e w' => e = .returned (.tuple #[.agg #[.int .i64 (0), .int .i64 (0), .int .i64 (0)], .int .i64 (5)]) ∧ Below w.heap.size w w' := by
  have z1 := cutA_size s
  have z2 := cutA_size (cutA s)
  have z3 := bare_size (cutA (cutA s))
  have z4 := cutB_size (cutA s)
  have z5 := cutB_size s
  have hyb := numVal_bd (bare (cutA (cutA s))).data.toList 4
  have y0 := hyb.1
  have y1 : numVal (bare (cutA (cutA s))).data.toList 4 < 10000 := hyb.2
  have HP := Lib.hid (fun w => text_part s w hs)
  have HX0 : ∀ w : World, Calls Tryd.prog 69 #[.string (cutA (cutA s)), .string ⟨#[45]⟩] w (fun e w' => e = .returned (.tuple #[.string (bare (cutA (cutA s))), .bool (below0 (cutA (cutA s)))]) ∧ w = w') := fun w => (Tryd.strings_CutPrefix (cutA (cutA s)) ⟨#[45]⟩ w).mono fun _ _ h => ⟨h.1, h.2.symm⟩
  have HX := Lib.hid HX0
  clear HX0
  have HN4 := Lib.hid (fun w => text_number (bare (cutA (cutA s))) 4 w (by omega) (by omega))
  have HNm := Lib.hid (fun w => text_number (cutB (cutA s)) 2 w (by omega) (by omega))
  have HNd := Lib.hid (fun w => text_number (cutB s) 2 w (by omega) (by omega))
  clear z1 z2 z3 z4 z5 hyb
  rw [h4] at HN4
  rw [h5] at HNm
  clear h4 h5
  try generalize numVal (bare (cutA (cutA s))).data.toList 4 = yv at *
  try generalize numVal (cutB (cutA s)).data.toList 2 = mv at *
  try generalize numVal (cutB s).data.toList 2 = dv at *
  try generalize numOk (bare (cutA (cutA s))).data.toList 4 = o4 at *
  try generalize numOk (cutB (cutA s)).data.toList 2 = om at *
  try generalize numOk (cutB s).data.toList 2 = od at *
  try generalize below0 (cutA (cutA s)) = bw at *
  generalize (bare (cutA (cutA s))) = tF at *
  generalize (cutB (cutA s)) = tB at *
  generalize (cutB s) = tC at *
  generalize cutA (cutA s) = tA at *
  go_enter Tryd.func34, Tryd.ntmps34
  go_wp2_with fail
  refine (HP.out _).mono ?_
  rintro e w1 ⟨rfl, hb1⟩
  obtain ⟨hc1, hf1⟩ := bcell hb1
  have hz1 := hb1.size
  try simp at hz1
  have hs1x0 : w.heap.size < w1.heap.size := by omega
  have g1x0 : w1.cell? ⟨w.heap.size, 0, none⟩ = some (.int .i64 (0)) := (hc1 _ _ (by first | omega | (simp; done) | (simp; omega))).trans (by first | (with_reducible assumption) | (simp [go_sem]; done) | (simp [go_sem, *]; done) | assumption)
  have g1x1 : w1.cell? ⟨w.heap.size, 1, none⟩ = some (.int .i64 (0)) := (hc1 _ _ (by first | omega | (simp; done) | (simp; omega))).trans (by first | (with_reducible assumption) | (simp [go_sem]; done) | (simp [go_sem, *]; done) | assumption)
  have g1x2 : w1.cell? ⟨w.heap.size, 2, none⟩ = some (.int .i64 (0)) := (hc1 _ _ (by first | omega | (simp; done) | (simp; omega))).trans (by first | (with_reducible assumption) | (simp [go_sem]; done) | (simp [go_sem, *]; done) | assumption)
  go_wp2_with fail
  refine (HX.out _).mono ?_
  rintro e w' ⟨rfl, rfl⟩
  go_wp2_with fail
  refine (HN4.out _).mono ?_
  rintro e w' ⟨rfl, rfl⟩
  go_wp2_with fail
  refine (HNm.out _).mono ?_
  rintro e w' ⟨rfl, rfl⟩
  go_wp2_with fail
  refine (HNd.out _).mono ?_
  rintro e w' ⟨rfl, rfl⟩
  go_wp2_with fail
  refine bodyPost_ret (v := .tuple #[.agg #[.int .i64 (0), .int .i64 (0), .int .i64 (0)], .int .i64 (5)]) (by simp [results, Tryd.results34, go_sem, *]) rfl ⟨rfl, ?_⟩
  repeat (first | (with_reducible exact Below.refl _ _) | (with_reducible assumption) | (with_reducible refine bdrew ?_) | (with_reducible refine baa ?_ _) | (with_reducible refine bs ?_ (by first | exact Nat.le_refl _ | omega | (simp; done) | (simp; omega)) _) | (with_reducible refine bt ?_ (by with_reducible assumption)))
set_option maxHeartbeats 4000000 in
theorem text_ReadCivil_d (s : ByteArray) (hs : s.size ≤ 1000000) (w : World) (hG : Tab w 3 Gr.gregCells) (h4 : numOk (bare (cutA (cutA s))).data.toList 4 = true) (h5 : numOk (cutB (cutA s)).data.toList 2 = true) (h6 : numOk (cutB s).data.toList 2 = false) :
    Calls Tryd.prog 34 #[.string s] w fun e w' => e = .returned (.tuple #[.agg #[.int .i64 (0), .int .i64 (0), .int .i64 (0)], .int .i64 (5)]) ∧ Below w.heap.size w w' := by
  have z1 := cutA_size s
  have z2 := cutA_size (cutA s)
  have z3 := bare_size (cutA (cutA s))
  have z4 := cutB_size (cutA s)
  have z5 := cutB_size s
  have hyb := numVal_bd (bare (cutA (cutA s))).data.toList 4
  have y0 := hyb.1
  have y1 : numVal (bare (cutA (cutA s))).data.toList 4 < 10000 := hyb.2
  have HP := Lib.hid (fun w => text_part s w hs)
  have HX0 : ∀ w : World, Calls Tryd.prog 69 #[.string (cutA (cutA s)), .string ⟨#[45]⟩] w (fun e w' => e = .returned (.tuple #[.string (bare (cutA (cutA s))), .bool (below0 (cutA (cutA s)))]) ∧ w = w') := fun w => (Tryd.strings_CutPrefix (cutA (cutA s)) ⟨#[45]⟩ w).mono fun _ _ h => ⟨h.1, h.2.symm⟩
  have HX := Lib.hid HX0
  clear HX0
  have HN4 := Lib.hid (fun w => text_number (bare (cutA (cutA s))) 4 w (by omega) (by omega))
  have HNm := Lib.hid (fun w => text_number (cutB (cutA s)) 2 w (by omega) (by omega))
  have HNd := Lib.hid (fun w => text_number (cutB s) 2 w (by omega) (by omega))
  clear z1 z2 z3 z4 z5 hyb
  rw [h4] at HN4
  rw [h5] at HNm
  rw [h6] at HNd
  clear h4 h5 h6
  try generalize numVal (bare (cutA (cutA s))).data.toList 4 = yv at *
  try generalize numVal (cutB (cutA s)).data.toList 2 = mv at *
  try generalize numVal (cutB s).data.toList 2 = dv at *
  try generalize numOk (bare (cutA (cutA s))).data.toList 4 = o4 at *
  try generalize numOk (cutB (cutA s)).data.toList 2 = om at *
  try generalize numOk (cutB s).data.toList 2 = od at *
  try generalize below0 (cutA (cutA s)) = bw at *
  generalize (bare (cutA (cutA s))) = tF at *
  generalize (cutB (cutA s)) = tB at *
  generalize (cutB s) = tC at *
  generalize cutA (cutA s) = tA at *
  go_enter Tryd.func34, Tryd.ntmps34
  go_wp2_with fail
  refine (HP.out _).mono ?_
  rintro e w1 ⟨rfl, hb1⟩
  obtain ⟨hc1, hf1⟩ := bcell hb1
  have hz1 := hb1.size
  try simp at hz1
  have hs1x0 : w.heap.size < w1.heap.size := by omega
  have g1x0 : w1.cell? ⟨w.heap.size, 0, none⟩ = some (.int .i64 (0)) := (hc1 _ _ (by first | omega | (simp; done) | (simp; omega))).trans (by first | (with_reducible assumption) | (simp [go_sem]; done) | (simp [go_sem, *]; done) | assumption)
  have g1x1 : w1.cell? ⟨w.heap.size, 1, none⟩ = some (.int .i64 (0)) := (hc1 _ _ (by first | omega | (simp; done) | (simp; omega))).trans (by first | (with_reducible assumption) | (simp [go_sem]; done) | (simp [go_sem, *]; done) | assumption)
  have g1x2 : w1.cell? ⟨w.heap.size, 2, none⟩ = some (.int .i64 (0)) := (hc1 _ _ (by first | omega | (simp; done) | (simp; omega))).trans (by first | (with_reducible assumption) | (simp [go_sem]; done) | (simp [go_sem, *]; done) | assumption)
  go_wp2_with fail
  refine (HX.out _).mono ?_
  rintro e w' ⟨rfl, rfl⟩
  go_wp2_with fail
  refine (HN4.out _).mono ?_
  rintro e w' ⟨rfl, rfl⟩
  go_wp2_with fail
  refine (HNm.out _).mono ?_
  rintro e w' ⟨rfl, rfl⟩
  go_wp2_with fail
  refine (HNd.out _).mono ?_
  rintro e w' ⟨rfl, rfl⟩
  go_wp2_with fail
  refine bodyPost_ret (v := .tuple #[.agg #[.int .i64 (0), .int .i64 (0), .int .i64 (0)], .int .i64 (5)]) (by simp [results, Tryd.results34, go_sem, *]) rfl ⟨rfl, ?_⟩
  repeat (first | (with_reducible exact Below.refl _ _) | (with_reducible assumption) | (with_reducible refine bdrew ?_) | (with_reducible refine baa ?_ _) | (with_reducible refine bs ?_ (by first | exact Nat.le_refl _ | omega | (simp; done) | (simp; omega)) _) | (with_reducible refine bt ?_ (by with_reducible assumption)))
set_option maxHeartbeats 4000000 in
theorem text_ReadCivil_z (s : ByteArray) (hs : s.size ≤ 1000000) (w : World) (hG : Tab w 3 Gr.gregCells) (h4 : numOk (bare (cutA (cutA s))).data.toList 4 = true) (h5 : numOk (cutB (cutA s)).data.toList 2 = true) (h6 : numOk (cutB s).data.toList 2 = true) (hb : below0 (cutA (cutA s)) = true) (hz : (numVal (bare (cutA (cutA s))).data.toList 4 == 0) = true) :
    Calls Tryd.prog 34 #[.string s] w fun e w' => e = .returned (.tuple #[.agg #[.int .i64 (0), .int .i64 (0), .int .i64 (0)], .int .i64 (5)]) ∧ Below w.heap.size w w' := by
  have z1 := cutA_size s
  have z2 := cutA_size (cutA s)
  have z3 := bare_size (cutA (cutA s))
  have z4 := cutB_size (cutA s)
  have z5 := cutB_size s
  have hyb := numVal_bd (bare (cutA (cutA s))).data.toList 4
  have y0 := hyb.1
  have y1 : numVal (bare (cutA (cutA s))).data.toList 4 < 10000 := hyb.2
  have HP := Lib.hid (fun w => text_part s w hs)
  have HX0 : ∀ w : World, Calls Tryd.prog 69 #[.string (cutA (cutA s)), .string ⟨#[45]⟩] w (fun e w' => e = .returned (.tuple #[.string (bare (cutA (cutA s))), .bool (below0 (cutA (cutA s)))]) ∧ w = w') := fun w => (Tryd.strings_CutPrefix (cutA (cutA s)) ⟨#[45]⟩ w).mono fun _ _ h => ⟨h.1, h.2.symm⟩
  have HX := Lib.hid HX0
  clear HX0
  have HN4 := Lib.hid (fun w => text_number (bare (cutA (cutA s))) 4 w (by omega) (by omega))
  have HNm := Lib.hid (fun w => text_number (cutB (cutA s)) 2 w (by omega) (by omega))
  have HNd := Lib.hid (fun w => text_number (cutB s) 2 w (by omega) (by omega))
  clear z1 z2 z3 z4 z5 hyb
  rw [h4] at HN4
  rw [h5] at HNm
  rw [h6] at HNd
  clear h4 h5 h6
  rw [hb] at HX
  clear hb
  try generalize numVal (bare (cutA (cutA s))).data.toList 4 = yv at *
  try generalize numVal (cutB (cutA s)).data.toList 2 = mv at *
  try generalize numVal (cutB s).data.toList 2 = dv at *
  try generalize numOk (bare (cutA (cutA s))).data.toList 4 = o4 at *
  try generalize numOk (cutB (cutA s)).data.toList 2 = om at *
  try generalize numOk (cutB s).data.toList 2 = od at *
  try generalize below0 (cutA (cutA s)) = bw at *
  generalize (bare (cutA (cutA s))) = tF at *
  generalize (cutB (cutA s)) = tB at *
  generalize (cutB s) = tC at *
  generalize cutA (cutA s) = tA at *
  go_enter Tryd.func34, Tryd.ntmps34
  go_wp2_with fail
  refine (HP.out _).mono ?_
  rintro e w1 ⟨rfl, hb1⟩
  obtain ⟨hc1, hf1⟩ := bcell hb1
  have hz1 := hb1.size
  try simp at hz1
  have hs1x0 : w.heap.size < w1.heap.size := by omega
  have g1x0 : w1.cell? ⟨w.heap.size, 0, none⟩ = some (.int .i64 (0)) := (hc1 _ _ (by first | omega | (simp; done) | (simp; omega))).trans (by first | (with_reducible assumption) | (simp [go_sem]; done) | (simp [go_sem, *]; done) | assumption)
  have g1x1 : w1.cell? ⟨w.heap.size, 1, none⟩ = some (.int .i64 (0)) := (hc1 _ _ (by first | omega | (simp; done) | (simp; omega))).trans (by first | (with_reducible assumption) | (simp [go_sem]; done) | (simp [go_sem, *]; done) | assumption)
  have g1x2 : w1.cell? ⟨w.heap.size, 2, none⟩ = some (.int .i64 (0)) := (hc1 _ _ (by first | omega | (simp; done) | (simp; omega))).trans (by first | (with_reducible assumption) | (simp [go_sem]; done) | (simp [go_sem, *]; done) | assumption)
  go_wp2_with fail
  refine (HX.out _).mono ?_
  rintro e w' ⟨rfl, rfl⟩
  go_wp2_with fail
  refine (HN4.out _).mono ?_
  rintro e w' ⟨rfl, rfl⟩
  go_wp2_with fail
  refine (HNm.out _).mono ?_
  rintro e w' ⟨rfl, rfl⟩
  go_wp2_with fail
  refine (HNd.out _).mono ?_
  rintro e w' ⟨rfl, rfl⟩
  go_wp2_with fail
  refine bodyPost_ret (v := .tuple #[.agg #[.int .i64 (0), .int .i64 (0), .int .i64 (0)], .int .i64 (5)]) (by simp [results, Tryd.results34, go_sem, *]) rfl ⟨rfl, ?_⟩
  repeat (first | (with_reducible exact Below.refl _ _) | (with_reducible assumption) | (with_reducible refine bdrew ?_) | (with_reducible refine baa ?_ _) | (with_reducible refine bs ?_ (by first | exact Nat.le_refl _ | omega | (simp; done) | (simp; omega)) _) | (with_reducible refine bt ?_ (by with_reducible assumption)))
set_option maxHeartbeats 4000000 in
theorem text_ReadCivil_rp (s : ByteArray) (hs : s.size ≤ 1000000) (w : World) (hG : Tab w 3 Gr.gregCells) (h4 : numOk (bare (cutA (cutA s))).data.toList 4 = true) (h5 : numOk (cutB (cutA s)).data.toList 2 = true) (h6 : numOk (cutB s).data.toList 2 = true) (hb : below0 (cutA (cutA s)) = false) (h0 : ¬ Gr.gtE (numVal (bare (cutA (cutA s))).data.toList 4) (numVal (cutB (cutA s)).data.toList 2) (numVal (cutB s).data.toList 2) = 0) :
    Calls Tryd.prog 34 #[.string s] w fun e w' => e = .returned (.tuple #[.agg #[.int .i64 (0), .int .i64 (0), .int .i64 (0)], .int .i64 (2)]) ∧ Below w.heap.size w w' := by
  have z1 := cutA_size s
  have z2 := cutA_size (cutA s)
  have z3 := bare_size (cutA (cutA s))
  have z4 := cutB_size (cutA s)
  have z5 := cutB_size s
  have hyb := numVal_bd (bare (cutA (cutA s))).data.toList 4
  have y0 := hyb.1
  have y1 : numVal (bare (cutA (cutA s))).data.toList 4 < 10000 := hyb.2
  have HP := Lib.hid (fun w => text_part s w hs)
  have HX0 : ∀ w : World, Calls Tryd.prog 69 #[.string (cutA (cutA s)), .string ⟨#[45]⟩] w (fun e w' => e = .returned (.tuple #[.string (bare (cutA (cutA s))), .bool (below0 (cutA (cutA s)))]) ∧ w = w') := fun w => (Tryd.strings_CutPrefix (cutA (cutA s)) ⟨#[45]⟩ w).mono fun _ _ h => ⟨h.1, h.2.symm⟩
  have HX := Lib.hid HX0
  clear HX0
  have HN4 := Lib.hid (fun w => text_number (bare (cutA (cutA s))) 4 w (by omega) (by omega))
  have HNm := Lib.hid (fun w => text_number (cutB (cutA s)) 2 w (by omega) (by omega))
  have HNd := Lib.hid (fun w => text_number (cutB s) 2 w (by omega) (by omega))
  clear z1 z2 z3 z4 z5 hyb
  rw [h4] at HN4
  rw [h5] at HNm
  rw [h6] at HNd
  clear h4 h5 h6
  rw [hb] at HX
  clear hb
  have HG := Lib.hid (fun w hG => greg_ToDay (numVal (bare (cutA (cutA s))).data.toList 4) (numVal (cutB (cutA s)).data.toList 2) (numVal (cutB s).data.toList 2) w hG)
  have hne : (Gr.gtE (numVal (bare (cutA (cutA s))).data.toList 4) (numVal (cutB (cutA s)).data.toList 2) (numVal (cutB s).data.toList 2) != 0) = true := by simpa using h0
  clear h0
  generalize Gr.gtE (numVal (bare (cutA (cutA s))).data.toList 4) (numVal (cutB (cutA s)).data.toList 2) (numVal (cutB s).data.toList 2) = ge at *
  generalize Gr.gtV (numVal (bare (cutA (cutA s))).data.toList 4) (numVal (cutB (cutA s)).data.toList 2) (numVal (cutB s).data.toList 2) = gv at *
  try generalize numVal (bare (cutA (cutA s))).data.toList 4 = yv at *
  try generalize numVal (cutB (cutA s)).data.toList 2 = mv at *
  try generalize numVal (cutB s).data.toList 2 = dv at *
  try generalize numOk (bare (cutA (cutA s))).data.toList 4 = o4 at *
  try generalize numOk (cutB (cutA s)).data.toList 2 = om at *
  try generalize numOk (cutB s).data.toList 2 = od at *
  try generalize below0 (cutA (cutA s)) = bw at *
  generalize (bare (cutA (cutA s))) = tF at *
  generalize (cutB (cutA s)) = tB at *
  generalize (cutB s) = tC at *
  generalize cutA (cutA s) = tA at *
  go_enter Tryd.func34, Tryd.ntmps34
  go_wp2_with fail
  refine (HP.out _).mono ?_
  rintro e w1 ⟨rfl, hb1⟩
  obtain ⟨hc1, hf1⟩ := bcell hb1
  have hz1 := hb1.size
  try simp at hz1
  have hs1x0 : w.heap.size < w1.heap.size := by omega
  have g1x0 : w1.cell? ⟨w.heap.size, 0, none⟩ = some (.int .i64 (0)) := (hc1 _ _ (by first | omega | (simp; done) | (simp; omega))).trans (by first | (with_reducible assumption) | (simp [go_sem]; done) | (simp [go_sem, *]; done) | assumption)
  have g1x1 : w1.cell? ⟨w.heap.size, 1, none⟩ = some (.int .i64 (0)) := (hc1 _ _ (by first | omega | (simp; done) | (simp; omega))).trans (by first | (with_reducible assumption) | (simp [go_sem]; done) | (simp [go_sem, *]; done) | assumption)
  have g1x2 : w1.cell? ⟨w.heap.size, 2, none⟩ = some (.int .i64 (0)) := (hc1 _ _ (by first | omega | (simp; done) | (simp; omega))).trans (by first | (with_reducible assumption) | (simp [go_sem]; done) | (simp [go_sem, *]; done) | assumption)
  go_wp2_with fail
  refine (HX.out _).mono ?_
  rintro e w' ⟨rfl, rfl⟩
  go_wp2_with fail
  refine (HN4.out _).mono ?_
  rintro e w' ⟨rfl, rfl⟩
  go_wp2_with fail
  refine (HNm.out _).mono ?_
  rintro e w' ⟨rfl, rfl⟩
  go_wp2_with fail
  refine (HNd.out _).mono ?_
  rintro e w' ⟨rfl, rfl⟩
  go_wp2_with fail
  have hq5 : w.heap.size < w1.heap.size + 1 := by omega
  refine (HG.out _ (Tab.below hG (by repeat (first | (with_reducible exact Below.refl _ _) | (with_reducible assumption) | (with_reducible refine bdrew ?_) | (with_reducible refine baa ?_ _) | (with_reducible refine bs ?_ (by first | exact Nat.le_refl _ | omega | (simp; done) | (simp; omega)) _) | (with_reducible refine bt ?_ (by with_reducible assumption)))))).mono ?_
  rintro e w2 ⟨rfl, hb2⟩
  obtain ⟨hc2, hf2⟩ := bcell hb2
  have hz2 := hb2.size
  try simp at hz2
  have hs2x0 : w.heap.size < w2.heap.size := by omega
  have hs2x1 : w1.heap.size < w2.heap.size := by omega
  have g2x0 : w2.cell? ⟨w.heap.size, 0, none⟩ = some (.int .i64 (0)) := (hc2 _ _ (by first | omega | (simp; done) | (simp; omega))).trans (by first | (with_reducible assumption) | (simp [go_sem]; done) | (simp [go_sem, *]; done) | assumption)
  have g2x1 : w2.cell? ⟨w.heap.size, 1, none⟩ = some (.int .i64 (0)) := (hc2 _ _ (by first | omega | (simp; done) | (simp; omega))).trans (by first | (with_reducible assumption) | (simp [go_sem]; done) | (simp [go_sem, *]; done) | assumption)
  have g2x2 : w2.cell? ⟨w.heap.size, 2, none⟩ = some (.int .i64 (0)) := (hc2 _ _ (by first | omega | (simp; done) | (simp; omega))).trans (by first | (with_reducible assumption) | (simp [go_sem]; done) | (simp [go_sem, *]; done) | assumption)
  have g2x3 : w2.cell? ⟨w1.heap.size, 0, none⟩ = some (.int .i64 (yv)) := (hc2 _ _ (by first | omega | (simp; done) | (simp; omega))).trans (by first | (with_reducible assumption) | (simp [go_sem]; done) | (simp [go_sem, *]; done) | assumption)
  have g2x4 : w2.cell? ⟨w1.heap.size, 1, none⟩ = some (.int .i64 (mv)) := (hc2 _ _ (by first | omega | (simp; done) | (simp; omega))).trans (by first | (with_reducible assumption) | (simp [go_sem]; done) | (simp [go_sem, *]; done) | assumption)
  have g2x5 : w2.cell? ⟨w1.heap.size, 2, none⟩ = some (.int .i64 (dv)) := (hc2 _ _ (by first | omega | (simp; done) | (simp; omega))).trans (by first | (with_reducible assumption) | (simp [go_sem]; done) | (simp [go_sem, *]; done) | assumption)
  go_wp2_with fail
  clear hc2
  refine bodyPost_ret (v := .tuple #[.agg #[.int .i64 (0), .int .i64 (0), .int .i64 (0)], .int .i64 (2)]) (by simp [results, Tryd.results34, go_sem, *]) rfl ⟨rfl, ?_⟩
  repeat (first | (with_reducible exact Below.refl _ _) | (with_reducible assumption) | (with_reducible refine bdrew ?_) | (with_reducible refine baa ?_ _) | (with_reducible refine bs ?_ (by first | exact Nat.le_refl _ | omega | (simp; done) | (simp; omega)) _) | (with_reducible refine bt ?_ (by with_reducible assumption)))
set_option maxHeartbeats 4000000 in
theorem text_ReadCivil_kp (s : ByteArray) (hs : s.size ≤ 1000000) (w : World) (hG : Tab w 3 Gr.gregCells) (h4 : numOk (bare (cutA (cutA s))).data.toList 4 = true) (h5 : numOk (cutB (cutA s)).data.toList 2 = true) (h6 : numOk (cutB s).data.toList 2 = true) (hb : below0 (cutA (cutA s)) = false) (h0 : Gr.gtE (numVal (bare (cutA (cutA s))).data.toList 4) (numVal (cutB (cutA s)).data.toList 2) (numVal (cutB s).data.toList 2) = 0) :
    Calls Tryd.prog 34 #[.string s] w fun e w' => e = .returned (.tuple #[.agg #[.int .i64 (numVal (bare (cutA (cutA s))).data.toList 4), .int .i64 (numVal (cutB (cutA s)).data.toList 2), .int .i64 (numVal (cutB s).data.toList 2)], .int .i64 (0)]) ∧ Below w.heap.size w w' := by
  have z1 := cutA_size s
  have z2 := cutA_size (cutA s)
  have z3 := bare_size (cutA (cutA s))
  have z4 := cutB_size (cutA s)
  have z5 := cutB_size s
  have hyb := numVal_bd (bare (cutA (cutA s))).data.toList 4
  have y0 := hyb.1
  have y1 : numVal (bare (cutA (cutA s))).data.toList 4 < 10000 := hyb.2
  have HP := Lib.hid (fun w => text_part s w hs)
  have HX0 : ∀ w : World, Calls Tryd.prog 69 #[.string (cutA (cutA s)), .string ⟨#[45]⟩] w (fun e w' => e = .returned (.tuple #[.string (bare (cutA (cutA s))), .bool (below0 (cutA (cutA s)))]) ∧ w = w') := fun w => (Tryd.strings_CutPrefix (cutA (cutA s)) ⟨#[45]⟩ w).mono fun _ _ h => ⟨h.1, h.2.symm⟩
  have HX := Lib.hid HX0
  clear HX0
  have HN4 := Lib.hid (fun w => text_number (bare (cutA (cutA s))) 4 w (by omega) (by omega))
  have HNm := Lib.hid (fun w => text_number (cutB (cutA s)) 2 w (by omega) (by omega))
  have HNd := Lib.hid (fun w => text_number (cutB s) 2 w (by omega) (by omega))
  clear z1 z2 z3 z4 z5 hyb
  rw [h4] at HN4
  rw [h5] at HNm
  rw [h6] at HNd
  clear h4 h5 h6
  rw [hb] at HX
  clear hb
  have HG := Lib.hid (fun w hG => greg_ToDay (numVal (bare (cutA (cutA s))).data.toList 4) (numVal (cutB (cutA s)).data.toList 2) (numVal (cutB s).data.toList 2) w hG)
  rw [h0] at HG
  clear h0
  generalize Gr.gtV (numVal (bare (cutA (cutA s))).data.toList 4) (numVal (cutB (cutA s)).data.toList 2) (numVal (cutB s).data.toList 2) = gv at *
  try generalize numVal (bare (cutA (cutA s))).data.toList 4 = yv at *
  try generalize numVal (cutB (cutA s)).data.toList 2 = mv at *
  try generalize numVal (cutB s).data.toList 2 = dv at *
  try generalize numOk (bare (cutA (cutA s))).data.toList 4 = o4 at *
  try generalize numOk (cutB (cutA s)).data.toList 2 = om at *
  try generalize numOk (cutB s).data.toList 2 = od at *
  try generalize below0 (cutA (cutA s)) = bw at *
  generalize (bare (cutA (cutA s))) = tF at *
  generalize (cutB (cutA s)) = tB at *
  generalize (cutB s) = tC at *
  generalize cutA (cutA s) = tA at *
  go_enter Tryd.func34, Tryd.ntmps34
  go_wp2_with fail
  refine (HP.out _).mono ?_
  rintro e w1 ⟨rfl, hb1⟩
  obtain ⟨hc1, hf1⟩ := bcell hb1
  have hz1 := hb1.size
  try simp at hz1
  have hs1x0 : w.heap.size < w1.heap.size := by omega
  have g1x0 : w1.cell? ⟨w.heap.size, 0, none⟩ = some (.int .i64 (0)) := (hc1 _ _ (by first | omega | (simp; done) | (simp; omega))).trans (by first | (with_reducible assumption) | (simp [go_sem]; done) | (simp [go_sem, *]; done) | assumption)
  have g1x1 : w1.cell? ⟨w.heap.size, 1, none⟩ = some (.int .i64 (0)) := (hc1 _ _ (by first | omega | (simp; done) | (simp; omega))).trans (by first | (with_reducible assumption) | (simp [go_sem]; done) | (simp [go_sem, *]; done) | assumption)
  have g1x2 : w1.cell? ⟨w.heap.size, 2, none⟩ = some (.int .i64 (0)) := (hc1 _ _ (by first | omega | (simp; done) | (simp; omega))).trans (by first | (with_reducible assumption) | (simp [go_sem]; done) | (simp [go_sem, *]; done) | assumption)
  go_wp2_with fail
  refine (HX.out _).mono ?_
  rintro e w' ⟨rfl, rfl⟩
  go_wp2_with fail
  refine (HN4.out _).mono ?_
  rintro e w' ⟨rfl, rfl⟩
  go_wp2_with fail
  refine (HNm.out _).mono ?_
  rintro e w' ⟨rfl, rfl⟩
  go_wp2_with fail
  refine (HNd.out _).mono ?_
  rintro e w' ⟨rfl, rfl⟩
  go_wp2_with fail
  have hq5 : w.heap.size < w1.heap.size + 1 := by omega
  refine (HG.out _ (Tab.below hG (by repeat (first | (with_reducible exact Below.refl _ _) | (with_reducible assumption) | (with_reducible refine bdrew ?_) | (with_reducible refine baa ?_ _) | (with_reducible refine bs ?_ (by first | exact Nat.le_refl _ | omega | (simp; done) | (simp; omega)) _) | (with_reducible refine bt ?_ (by with_reducible assumption)))))).mono ?_
  rintro e w2 ⟨rfl, hb2⟩
  obtain ⟨hc2, hf2⟩ := bcell hb2
  have hz2 := hb2.size
  try simp at hz2
  have hs2x0 : w.heap.size < w2.heap.size := by omega
  have hs2x1 : w1.heap.size < w2.heap.size := by omega
  have g2x0 : w2.cell? ⟨w.heap.size, 0, none⟩ = some (.int .i64 (0)) := (hc2 _ _ (by first | omega | (simp; done) | (simp; omega))).trans (by first | (with_reducible assumption) | (simp [go_sem]; done) | (simp [go_sem, *]; done) | assumption)
  have g2x1 : w2.cell? ⟨w.heap.size, 1, none⟩ = some (.int .i64 (0)) := (hc2 _ _ (by first | omega | (simp; done) | (simp; omega))).trans (by first | (with_reducible assumption) | (simp [go_sem]; done) | (simp [go_sem, *]; done) | assumption)
  have g2x2 : w2.cell? ⟨w.heap.size, 2, none⟩ = some (.int .i64 (0)) := (hc2 _ _ (by first | omega | (simp; done) | (simp; omega))).trans (by first | (with_reducible assumption) | (simp [go_sem]; done) | (simp [go_sem, *]; done) | assumption)
  have g2x3 : w2.cell? ⟨w1.heap.size, 0, none⟩ = some (.int .i64 (yv)) := (hc2 _ _ (by first | omega | (simp; done) | (simp; omega))).trans (by first | (with_reducible assumption) | (simp [go_sem]; done) | (simp [go_sem, *]; done) | assumption)
  have g2x4 : w2.cell? ⟨w1.heap.size, 1, none⟩ = some (.int .i64 (mv)) := (hc2 _ _ (by first | omega | (simp; done) | (simp; omega))).trans (by first | (with_reducible assumption) | (simp [go_sem]; done) | (simp [go_sem, *]; done) | assumption)
  have g2x5 : w2.cell? ⟨w1.heap.size, 2, none⟩ = some (.int .i64 (dv)) := (hc2 _ _ (by first | omega | (simp; done) | (simp; omega))).trans (by first | (with_reducible assumption) | (simp [go_sem]; done) | (simp [go_sem, *]; done) | assumption)
  go_wp2_with fail
  clear hc2
  refine bodyPost_ret (v := .tuple #[.agg #[.int .i64 (yv), .int .i64 (mv), .int .i64 (dv)], .int .i64 (0)]) (by simp [results, Tryd.results34, go_sem, *]) rfl ⟨rfl, ?_⟩
  repeat (first | (with_reducible exact Below.refl _ _) | (with_reducible assumption) | (with_reducible refine bdrew ?_) | (with_reducible refine baa ?_ _) | (with_reducible refine bs ?_ (by first | exact Nat.le_refl _ | omega | (simp; done) | (simp; omega)) _) | (with_reducible refine bt ?_ (by with_reducible assumption)))
set_option maxHeartbeats 4000000 in
theorem text_ReadCivil_rn (s : ByteArray) (hs : s.size ≤ 1000000) (w : World) (hG : Tab w 3 Gr.gregCells) (h4 : numOk (bare (cutA (cutA s))).data.toList 4 = true) (h5 : numOk (cutB (cutA s)).data.toList 2 = true) (h6 : numOk (cutB s).data.toList 2 = true) (hb : below0 (cutA (cutA s)) = true) (hz : (numVal (bare (cutA (cutA s))).data.toList 4 == 0) = false) (h0 : ¬ Gr.gtE (-(numVal (bare (cutA (cutA s))).data.toList 4)) (numVal (cutB (cutA s)).data.toList 2) (numVal (cutB s).data.toList 2) = 0) :
    Calls Tryd.prog 34 #[.string s] w fun e w' => e = .returned (.tuple #[.agg #[.int .i64 (0), .int .i64 (0), .int .i64 (0)], .int .i64 (2)]) ∧ Below w.heap.size w w' := by
  have z1 := cutA_size s
  have z2 := cutA_size (cutA s)
  have z3 := bare_size (cutA (cutA s))
  have z4 := cutB_size (cutA s)
  have z5 := cutB_size s
  have hyb := numVal_bd (bare (cutA (cutA s))).data.toList 4
  have y0 := hyb.1
  have y1 : numVal (bare (cutA (cutA s))).data.toList 4 < 10000 := hyb.2
  have HP := Lib.hid (fun w => text_part s w hs)
  have HX0 : ∀ w : World, Calls Tryd.prog 69 #[.string (cutA (cutA s)), .string ⟨#[45]⟩] w (fun e w' => e = .returned (.tuple #[.string (bare (cutA (cutA s))), .bool (below0 (cutA (cutA s)))]) ∧ w = w') := fun w => (Tryd.strings_CutPrefix (cutA (cutA s)) ⟨#[45]⟩ w).mono fun _ _ h => ⟨h.1, h.2.symm⟩
  have HX := Lib.hid HX0
  clear HX0
  have HN4 := Lib.hid (fun w => text_number (bare (cutA (cutA s))) 4 w (by omega) (by omega))
  have HNm := Lib.hid (fun w => text_number (cutB (cutA s)) 2 w (by omega) (by omega))
  have HNd := Lib.hid (fun w => text_number (cutB s) 2 w (by omega) (by omega))
  clear z1 z2 z3 z4 z5 hyb
  rw [h4] at HN4
  rw [h5] at HNm
  rw [h6] at HNd
  clear h4 h5 h6
  rw [hb] at HX
  clear hb
  have HG := Lib.hid (fun w hG => greg_ToDay (-(numVal (bare (cutA (cutA s))).data.toList 4)) (numVal (cutB (cutA s)).data.toList 2) (numVal (cutB s).data.toList 2) w hG)
  have hne : (Gr.gtE (-(numVal (bare (cutA (cutA s))).data.toList 4)) (numVal (cutB (cutA s)).data.toList 2) (numVal (cutB s).data.toList 2) != 0) = true := by simpa using h0
  clear h0
  generalize Gr.gtE (-(numVal (bare (cutA (cutA s))).data.toList 4)) (numVal (cutB (cutA s)).data.toList 2) (numVal (cutB s).data.toList 2) = ge at *
  generalize Gr.gtV (-(numVal (bare (cutA (cutA s))).data.toList 4)) (numVal (cutB (cutA s)).data.toList 2) (numVal (cutB s).data.toList 2) = gv at *
  try generalize numVal (bare (cutA (cutA s))).data.toList 4 = yv at *
  try generalize numVal (cutB (cutA s)).data.toList 2 = mv at *
  try generalize numVal (cutB s).data.toList 2 = dv at *
  try generalize numOk (bare (cutA (cutA s))).data.toList 4 = o4 at *
  try generalize numOk (cutB (cutA s)).data.toList 2 = om at *
  try generalize numOk (cutB s).data.toList 2 = od at *
  try generalize below0 (cutA (cutA s)) = bw at *
  generalize (bare (cutA (cutA s))) = tF at *
  generalize (cutB (cutA s)) = tB at *
  generalize (cutB s) = tC at *
  generalize cutA (cutA s) = tA at *
  go_enter Tryd.func34, Tryd.ntmps34
  go_wp2_with fail
  refine (HP.out _).mono ?_
  rintro e w1 ⟨rfl, hb1⟩
  obtain ⟨hc1, hf1⟩ := bcell hb1
  have hz1 := hb1.size
  try simp at hz1
  have hs1x0 : w.heap.size < w1.heap.size := by omega
  have g1x0 : w1.cell? ⟨w.heap.size, 0, none⟩ = some (.int .i64 (0)) := (hc1 _ _ (by first | omega | (simp; done) | (simp; omega))).trans (by first | (with_reducible assumption) | (simp [go_sem]; done) | (simp [go_sem, *]; done) | assumption)
  have g1x1 : w1.cell? ⟨w.heap.size, 1, none⟩ = some (.int .i64 (0)) := (hc1 _ _ (by first | omega | (simp; done) | (simp; omega))).trans (by first | (with_reducible assumption) | (simp [go_sem]; done) | (simp [go_sem, *]; done) | assumption)
  have g1x2 : w1.cell? ⟨w.heap.size, 2, none⟩ = some (.int .i64 (0)) := (hc1 _ _ (by first | omega | (simp; done) | (simp; omega))).trans (by first | (with_reducible assumption) | (simp [go_sem]; done) | (simp [go_sem, *]; done) | assumption)
  go_wp2_with fail
  refine (HX.out _).mono ?_
  rintro e w' ⟨rfl, rfl⟩
  go_wp2_with fail
  refine (HN4.out _).mono ?_
  rintro e w' ⟨rfl, rfl⟩
  go_wp2_with fail
  refine (HNm.out _).mono ?_
  rintro e w' ⟨rfl, rfl⟩
  go_wp2_with fail
  refine (HNd.out _).mono ?_
  rintro e w' ⟨rfl, rfl⟩
  go_wp2_with fail
  have hq5 : w.heap.size < w1.heap.size + 1 := by omega
  refine (HG.out _ (Tab.below hG (by repeat (first | (with_reducible exact Below.refl _ _) | (with_reducible assumption) | (with_reducible refine bdrew ?_) | (with_reducible refine baa ?_ _) | (with_reducible refine bs ?_ (by first | exact Nat.le_refl _ | omega | (simp; done) | (simp; omega)) _) | (with_reducible refine bt ?_ (by with_reducible assumption)))))).mono ?_
  rintro e w2 ⟨rfl, hb2⟩
  obtain ⟨hc2, hf2⟩ := bcell hb2
  have hz2 := hb2.size
  try simp at hz2
  have hs2x0 : w.heap.size < w2.heap.size := by omega
  have hs2x1 : w1.heap.size < w2.heap.size := by omega
  have g2x0 : w2.cell? ⟨w.heap.size, 0, none⟩ = some (.int .i64 (0)) := (hc2 _ _ (by first | omega | (simp; done) | (simp; omega))).trans (by first | (with_reducible assumption) | (simp [go_sem]; done) | (simp [go_sem, *]; done) | assumption)
  have g2x1 : w2.cell? ⟨w.heap.size, 1, none⟩ = some (.int .i64 (0)) := (hc2 _ _ (by first | omega | (simp; done) | (simp; omega))).trans (by first | (with_reducible assumption) | (simp [go_sem]; done) | (simp [go_sem, *]; done) | assumption)
  have g2x2 : w2.cell? ⟨w.heap.size, 2, none⟩ = some (.int .i64 (0)) := (hc2 _ _ (by first | omega | (simp; done) | (simp; omega))).trans (by first | (with_reducible assumption) | (simp [go_sem]; done) | (simp [go_sem, *]; done) | assumption)
  have g2x3 : w2.cell? ⟨w1.heap.size, 0, none⟩ = some (.int .i64 (-yv)) := (hc2 _ _ (by first | omega | (simp; done) | (simp; omega))).trans (by first | (with_reducible assumption) | (simp [go_sem]; done) | (simp [go_sem, *]; done) | assumption)
  have g2x4 : w2.cell? ⟨w1.heap.size, 1, none⟩ = some (.int .i64 (mv)) := (hc2 _ _ (by first | omega | (simp; done) | (simp; omega))).trans (by first | (with_reducible assumption) | (simp [go_sem]; done) | (simp [go_sem, *]; done) | assumption)
  have g2x5 : w2.cell? ⟨w1.heap.size, 2, none⟩ = some (.int .i64 (dv)) := (hc2 _ _ (by first | omega | (simp; done) | (simp; omega))).trans (by first | (with_reducible assumption) | (simp [go_sem]; done) | (simp [go_sem, *]; done) | assumption)
  go_wp2_with fail
  clear hc2
  refine bodyPost_ret (v := .tuple #[.agg #[.int .i64 (0), .int .i64 (0), .int .i64 (0)], .int .i64 (2)]) (by simp [results, Tryd.results34, go_sem, *]) rfl ⟨rfl, ?_⟩
  repeat (first | (with_reducible exact Below.refl _ _) | (with_reducible assumption) | (with_reducible refine bdrew ?_) | (with_reducible refine baa ?_ _) | (with_reducible refine bs ?_ (by first | exact Nat.le_refl _ | omega | (simp; done) | (simp; omega)) _) | (with_reducible refine bt ?_ (by with_reducible assumption)))
set_option maxHeartbeats 4000000 in
theorem text_ReadCivil_kn (s : ByteArray) (hs : s.size ≤ 1000000) (w : World) (hG : Tab w 3 Gr.gregCells) (h4 : numOk (bare (cutA (cutA s))).data.toList 4 = true) (h5 : numOk (cutB (cutA s)).data.toList 2 = true) (h6 : numOk (cutB s).data.toList 2 = true) (hb : below0 (cutA (cutA s)) = true) (hz : (numVal (bare (cutA (cutA s))).data.toList 4 == 0) = false) (h0 : Gr.gtE (-(numVal (bare (cutA (cutA s))).data.toList 4)) (numVal (cutB (cutA s)).data.toList 2) (numVal (cutB s).data.toList 2) = 0) :
    Calls Tryd.prog 34 #[.string s] w fun e w' => e = .returned (.tuple #[.agg #[.int .i64 (-(numVal (bare (cutA (cutA s))).data.toList 4)), .int .i64 (numVal (cutB (cutA s)).data.toList 2), .int .i64 (numVal (cutB s).data.toList 2)], .int .i64 (0)]) ∧ Below w.heap.size w w' := by
  have z1 := cutA_size s
  have z2 := cutA_size (cutA s)
  have z3 := bare_size (cutA (cutA s))
  have z4 := cutB_size (cutA s)
  have z5 := cutB_size s
  have hyb := numVal_bd (bare (cutA (cutA s))).data.toList 4
  have y0 := hyb.1
  have y1 : numVal (bare (cutA (cutA s))).data.toList 4 < 10000 := hyb.2
  have HP := Lib.hid (fun w => text_part s w hs)
  have HX0 : ∀ w : World, Calls Tryd.prog 69 #[.string (cutA (cutA s)), .string ⟨#[45]⟩] w (fun e w' => e = .returned (.tuple #[.string (bare (cutA (cutA s))), .bool (below0 (cutA (cutA s)))]) ∧ w = w') := fun w => (Tryd.strings_CutPrefix (cutA (cutA s)) ⟨#[45]⟩ w).mono fun _ _ h => ⟨h.1, h.2.symm⟩
  have HX := Lib.hid HX0
  clear HX0
  have HN4 := Lib.hid (fun w => text_number (bare (cutA (cutA s))) 4 w (by omega) (by omega))
  have HNm := Lib.hid (fun w => text_number (cutB (cutA s)) 2 w (by omega) (by omega))
  have HNd := Lib.hid (fun w => text_number (cutB s) 2 w (by omega) (by omega))
  clear z1 z2 z3 z4 z5 hyb
  rw [h4] at HN4
  rw [h5] at HNm
  rw [h6] at HNd
  clear h4 h5 h6
  rw [hb] at HX
  clear hb
  have HG := Lib.hid (fun w hG => greg_ToDay (-(numVal (bare (cutA (cutA s))).data.toList 4)) (numVal (cutB (cutA s)).data.toList 2) (numVal (cutB s).data.toList 2) w hG)
  rw [h0] at HG
  clear h0
  generalize Gr.gtV (-(numVal (bare (cutA (cutA s))).data.toList 4)) (numVal (cutB (cutA s)).data.toList 2) (numVal (cutB s).data.toList 2) = gv at *
  try generalize numVal (bare (cutA (cutA s))).data.toList 4 = yv at *
  try generalize numVal (cutB (cutA s)).data.toList 2 = mv at *
  try generalize numVal (cutB s).data.toList 2 = dv at *
  try generalize numOk (bare (cutA (cutA s))).data.toList 4 = o4 at *
  try generalize numOk (cutB (cutA s)).data.toList 2 = om at *
  try generalize numOk (cutB s).data.toList 2 = od at *
  try generalize below0 (cutA (cutA s)) = bw at *
  generalize (bare (cutA (cutA s))) = tF at *
  generalize (cutB (cutA s)) = tB at *
  generalize (cutB s) = tC at *
  generalize cutA (cutA s) = tA at *
  go_enter Tryd.func34, Tryd.ntmps34
  go_wp2_with fail
  refine (HP.out _).mono ?_
  rintro e w1 ⟨rfl, hb1⟩
  obtain ⟨hc1, hf1⟩ := bcell hb1
  have hz1 := hb1.size
  try simp at hz1
  have hs1x0 : w.heap.size < w1.heap.size := by omega
  have g1x0 : w1.cell? ⟨w.heap.size, 0, none⟩ = some (.int .i64 (0)) := (hc1 _ _ (by first | omega | (simp; done) | (simp; omega))).trans (by first | (with_reducible assumption) | (simp [go_sem]; done) | (simp [go_sem, *]; done) | assumption)
  have g1x1 : w1.cell? ⟨w.heap.size, 1, none⟩ = some (.int .i64 (0)) := (hc1 _ _ (by first | omega | (simp; done) | (simp; omega))).trans (by first | (with_reducible assumption) | (simp [go_sem]; done) | (simp [go_sem, *]; done) | assumption)
  have g1x2 : w1.cell? ⟨w.heap.size, 2, none⟩ = some (.int .i64 (0)) := (hc1 _ _ (by first | omega | (simp; done) | (simp; omega))).trans (by first | (with_reducible assumption) | (simp [go_sem]; done) | (simp [go_sem, *]; done) | assumption)
  go_wp2_with fail
  refine (HX.out _).mono ?_
  rintro e w' ⟨rfl, rfl⟩
  go_wp2_with fail
  refine (HN4.out _).mono ?_
  rintro e w' ⟨rfl, rfl⟩
  go_wp2_with fail
  refine (HNm.out _).mono ?_
  rintro e w' ⟨rfl, rfl⟩
  go_wp2_with fail
  refine (HNd.out _).mono ?_
  rintro e w' ⟨rfl, rfl⟩
  go_wp2_with fail
  have hq5 : w.heap.size < w1.heap.size + 1 := by omega
  refine (HG.out _ (Tab.below hG (by repeat (first | (with_reducible exact Below.refl _ _) | (with_reducible assumption) | (with_reducible refine bdrew ?_) | (with_reducible refine baa ?_ _) | (with_reducible refine bs ?_ (by first | exact Nat.le_refl _ | omega | (simp; done) | (simp; omega)) _) | (with_reducible refine bt ?_ (by with_reducible assumption)))))).mono ?_
  rintro e w2 ⟨rfl, hb2⟩
  obtain ⟨hc2, hf2⟩ := bcell hb2
  have hz2 := hb2.size
  try simp at hz2
  have hs2x0 : w.heap.size < w2.heap.size := by omega
  have hs2x1 : w1.heap.size < w2.heap.size := by omega
  have g2x0 : w2.cell? ⟨w.heap.size, 0, none⟩ = some (.int .i64 (0)) := (hc2 _ _ (by first | omega | (simp; done) | (simp; omega))).trans (by first | (with_reducible assumption) | (simp [go_sem]; done) | (simp [go_sem, *]; done) | assumption)
  have g2x1 : w2.cell? ⟨w.heap.size, 1, none⟩ = some (.int .i64 (0)) := (hc2 _ _ (by first | omega | (simp; done) | (simp; omega))).trans (by first | (with_reducible assumption) | (simp [go_sem]; done) | (simp [go_sem, *]; done) | assumption)
  have g2x2 : w2.cell? ⟨w.heap.size, 2, none⟩ = some (.int .i64 (0)) := (hc2 _ _ (by first | omega | (simp; done) | (simp; omega))).trans (by first | (with_reducible assumption) | (simp [go_sem]; done) | (simp [go_sem, *]; done) | assumption)
  have g2x3 : w2.cell? ⟨w1.heap.size, 0, none⟩ = some (.int .i64 (-yv)) := (hc2 _ _ (by first | omega | (simp; done) | (simp; omega))).trans (by first | (with_reducible assumption) | (simp [go_sem]; done) | (simp [go_sem, *]; done) | assumption)
  have g2x4 : w2.cell? ⟨w1.heap.size, 1, none⟩ = some (.int .i64 (mv)) := (hc2 _ _ (by first | omega | (simp; done) | (simp; omega))).trans (by first | (with_reducible assumption) | (simp [go_sem]; done) | (simp [go_sem, *]; done) | assumption)
  have g2x5 : w2.cell? ⟨w1.heap.size, 2, none⟩ = some (.int .i64 (dv)) := (hc2 _ _ (by first | omega | (simp; done) | (simp; omega))).trans (by first | (with_reducible assumption) | (simp [go_sem]; done) | (simp [go_sem, *]; done) | assumption)
  go_wp2_with fail
  clear hc2
  refine bodyPost_ret (v := .tuple #[.agg #[.int .i64 (-yv), .int .i64 (mv), .int .i64 (dv)], .int .i64 (0)]) (by simp [results, Tryd.results34, go_sem, *]) rfl ⟨rfl, ?_⟩
  repeat (first | (with_reducible exact Below.refl _ _) | (with_reducible assumption) | (with_reducible refine bdrew ?_) | (with_reducible refine baa ?_ _) | (with_reducible refine bs ?_ (by first | exact Nat.le_refl _ | omega | (simp; done) | (simp; omega)) _) | (with_reducible refine bt ?_ (by with_reducible assumption)))
end Go.Proofs.YtmiadhiomingmaaDoor
