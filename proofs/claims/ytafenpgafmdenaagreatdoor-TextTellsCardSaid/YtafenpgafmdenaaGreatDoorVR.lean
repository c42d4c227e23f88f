/- Merged: Ref13n, Ref13p, W13y. -/
import Derived.Test.YtafenpgafmdenaaGreatDoorRef13
import Derived.Test.YtafenpgafmdenaaGreatDoorHebR
import Derived.RegionTactic
import Derived.Test.YtafenpgafmdenaaGreatDoorMaxA
import Derived.Test.YtafenpgafmdenaaGreatDoorW10
import Derived.Test.YtafenpgafmdenaaGreatDoorText
import Derived.Test.YtafenpgafmdenaaGreatDoorGreg
import Derived.Deep.Cut
/- Layer 13: the document's reading of a Gregorian date, below 0. -/
namespace Go.Proofs.YtafenpgafmdenaaGreatDoor
open Go.ChangeShapes Go.WideShapes Go.ChangeAt Go.RowKit
set_option linter.unusedVariables false
set_option maxRecDepth 100000
set_option maxHeartbeats 4000000 in
theorem ref13_ReadCivil_nlen (s B : ByteArray) (sp : (0 : Int) < (s.size : Int)) (s1 : (1 : Int) ≤ (s.size : Int)) (sj : 0 < s.size) (x0 : ((s[0]'sj).toNat : Int) = 45) (eB : s.extract 1 s.size = B) (w : World) (hl : ((B.size : Int) != 10) = true) :
    Calls Tryz.prog 18 #[.string s] w fun e w' => e = .returned (.tuple #[.agg #[.int .i64 (0), .int .i64 (0), .int .i64 (0)], .int .i64 (5)]) ∧ Below w.heap.size w w' := by
  go_enter Tryz.func18, Tryz.ntmps18
  go_wp2_with fail
  refine bodyPost_ret (v := .tuple #[.agg #[.int .i64 (0), .int .i64 (0), .int .i64 (0)], .int .i64 (5)]) (by simp [results, Tryz.results18, go_sem, *]) rfl ⟨rfl, ?_⟩
  repeat (first | (with_reducible exact Below.refl _ _) | (with_reducible assumption) | (with_reducible refine bdrew ?_) | (with_reducible refine baa ?_ _) | (with_reducible refine bs ?_ (by first | exact Nat.le_refl _ | omega | (simp; done) | (simp; omega)) _) | (with_reducible refine bt ?_ (by with_reducible assumption)))
set_option maxHeartbeats 4000000 in
theorem ref13_ReadCivil_nb4 (s B : ByteArray) (sp : (0 : Int) < (s.size : Int)) (s1 : (1 : Int) ≤ (s.size : Int)) (sj : 0 < s.size) (x0 : ((s[0]'sj).toNat : Int) = 45) (eB : s.extract 1 s.size = B) (w : World) (hl : B.size = 10) (h4 : (((B[4]'(by omega)).toNat : Int) != 45) = true) :
    Calls Tryz.prog 18 #[.string s] w fun e w' => e = .returned (.tuple #[.agg #[.int .i64 (0), .int .i64 (0), .int .i64 (0)], .int .i64 (5)]) ∧ Below w.heap.size w w' := by
  go_enter Tryz.func18, Tryz.ntmps18
  go_wp2_with fail
  refine bodyPost_ret (v := .tuple #[.agg #[.int .i64 (0), .int .i64 (0), .int .i64 (0)], .int .i64 (5)]) (by simp [results, Tryz.results18, go_sem, *]) rfl ⟨rfl, ?_⟩
  repeat (first | (with_reducible exact Below.refl _ _) | (with_reducible assumption) | (with_reducible refine bdrew ?_) | (with_reducible refine baa ?_ _) | (with_reducible refine bs ?_ (by first | exact Nat.le_refl _ | omega | (simp; done) | (simp; omega)) _) | (with_reducible refine bt ?_ (by with_reducible assumption)))
set_option maxHeartbeats 4000000 in
theorem ref13_ReadCivil_nb7 (s B : ByteArray) (sp : (0 : Int) < (s.size : Int)) (s1 : (1 : Int) ≤ (s.size : Int)) (sj : 0 < s.size) (x0 : ((s[0]'sj).toNat : Int) = 45) (eB : s.extract 1 s.size = B) (w : World) (hl : B.size = 10) (h4 : ((B[4]'(by omega)).toNat : Int) = 45) (h7 : (((B[7]'(by omega)).toNat : Int) != 45) = true) :
    Calls Tryz.prog 18 #[.string s] w fun e w' => e = .returned (.tuple #[.agg #[.int .i64 (0), .int .i64 (0), .int .i64 (0)], .int .i64 (5)]) ∧ Below w.heap.size w w' := by
  go_enter Tryz.func18, Tryz.ntmps18
  go_wp2_with fail
  refine bodyPost_ret (v := .tuple #[.agg #[.int .i64 (0), .int .i64 (0), .int .i64 (0)], .int .i64 (5)]) (by simp [results, Tryz.results18, go_sem, *]) rfl ⟨rfl, ?_⟩
  repeat (first | (with_reducible exact Below.refl _ _) | (with_reducible assumption) | (with_reducible refine bdrew ?_) | (with_reducible refine baa ?_ _) | (with_reducible refine bs ?_ (by first | exact Nat.le_refl _ | omega | (simp; done) | (simp; omega)) _) | (with_reducible refine bt ?_ (by with_reducible assumption)))
set_option maxHeartbeats 4000000 in
theorem ref13_ReadCivil_nn4 (s B : ByteArray) (sp : (0 : Int) < (s.size : Int)) (s1 : (1 : Int) ≤ (s.size : Int)) (sj : 0 < s.size) (x0 : ((s[0]'sj).toNat : Int) = 45) (eB : s.extract 1 s.size = B) (w : World) (hl : B.size = 10) (h4 : ((B[4]'(by omega)).toNat : Int) = 45) (h7 : ((B[7]'(by omega)).toNat : Int) = 45) (t4 t5 t8 : ByteArray) (e4 : B.extract 0 4 = t4) (e5 : B.extract 5 7 = t5) (e8 : B.extract 8 10 = t8) (yv mv dv : Int) (o5 o8 : Bool) (HN4 : Hid (∀ w : World, Calls Tryz.prog 50 #[.string t4, .int .i64 4] w fun e w' => e = .returned (.tuple #[.int .i64 yv, .bool false]) ∧ w = w')) (HNm : Hid (∀ w : World, Calls Tryz.prog 50 #[.string t5, .int .i64 2] w fun e w' => e = .returned (.tuple #[.int .i64 mv, .bool o5]) ∧ w = w')) (HNd : Hid (∀ w : World, Calls Tryz.prog 50 #[.string t8, .int .i64 2] w fun e w' => e = .returned (.tuple #[.int .i64 dv, .bool o8]) ∧ w = w')) :
    Calls Tryz.prog 18 #[.string s] w fun e w' => e = .returned (.tuple #[.agg #[.int .i64 (0), .int .i64 (0), .int .i64 (0)], .int .i64 (5)]) ∧ Below w.heap.size w w' := by
  go_enter Tryz.func18, Tryz.ntmps18
  go_wp2_with fail
  refine (HN4.out _).mono ?_
  rintro e w' ⟨rfl, rfl⟩
  go_wp2_with fail
  refine (HNm.out _).mono ?_
  rintro e w' ⟨rfl, rfl⟩
  go_wp2_with fail
  refine (HNd.out _).mono ?_
  rintro e w' ⟨rfl, rfl⟩
  go_wp2_with fail
  refine bodyPost_ret (v := .tuple #[.agg #[.int .i64 (0), .int .i64 (0), .int .i64 (0)], .int .i64 (5)]) (by simp [results, Tryz.results18, go_sem, *]) rfl ⟨rfl, ?_⟩
  repeat (first | (with_reducible exact Below.refl _ _) | (with_reducible assumption) | (with_reducible refine bdrew ?_) | (with_reducible refine baa ?_ _) | (with_reducible refine bs ?_ (by first | exact Nat.le_refl _ | omega | (simp; done) | (simp; omega)) _) | (with_reducible refine bt ?_ (by with_reducible assumption)))
set_option maxHeartbeats 4000000 in
theorem ref13_ReadCivil_nn5 (s B : ByteArray) (sp : (0 : Int) < (s.size : Int)) (s1 : (1 : Int) ≤ (s.size : Int)) (sj : 0 < s.size) (x0 : ((s[0]'sj).toNat : Int) = 45) (eB : s.extract 1 s.size = B) (w : World) (hl : B.size = 10) (h4 : ((B[4]'(by omega)).toNat : Int) = 45) (h7 : ((B[7]'(by omega)).toNat : Int) = 45) (t4 t5 t8 : ByteArray) (e4 : B.extract 0 4 = t4) (e5 : B.extract 5 7 = t5) (e8 : B.extract 8 10 = t8) (yv mv dv : Int) (o8 : Bool) (HN4 : Hid (∀ w : World, Calls Tryz.prog 50 #[.string t4, .int .i64 4] w fun e w' => e = .returned (.tuple #[.int .i64 yv, .bool true]) ∧ w = w')) (HNm : Hid (∀ w : World, Calls Tryz.prog 50 #[.string t5, .int .i64 2] w fun e w' => e = .returned (.tuple #[.int .i64 mv, .bool false]) ∧ w = w')) (HNd : Hid (∀ w : World, Calls Tryz.prog 50 #[.string t8, .int .i64 2] w fun e w' => e = .returned (.tuple #[.int .i64 dv, .bool o8]) ∧ w = w')) :
    Calls Tryz.prog 18 #[.string s] w fun e w' => e = .returned (.tuple #[.agg #[.int .i64 (0), .int .i64 (0), .int .i64 (0)], .int .i64 (5)]) ∧ Below w.heap.size w w' := by
  go_enter Tryz.func18, Tryz.ntmps18
  go_wp2_with fail
  refine (HN4.out _).mono ?_
  rintro e w' ⟨rfl, rfl⟩
  go_wp2_with fail
  refine (HNm.out _).mono ?_
  rintro e w' ⟨rfl, rfl⟩
  go_wp2_with fail
  refine (HNd.out _).mono ?_
  rintro e w' ⟨rfl, rfl⟩
  go_wp2_with fail
  refine bodyPost_ret (v := .tuple #[.agg #[.int .i64 (0), .int .i64 (0), .int .i64 (0)], .int .i64 (5)]) (by simp [results, Tryz.results18, go_sem, *]) rfl ⟨rfl, ?_⟩
  repeat (first | (with_reducible exact Below.refl _ _) | (with_reducible assumption) | (with_reducible refine bdrew ?_) | (with_reducible refine baa ?_ _) | (with_reducible refine bs ?_ (by first | exact Nat.le_refl _ | omega | (simp; done) | (simp; omega)) _) | (with_reducible refine bt ?_ (by with_reducible assumption)))
set_option maxHeartbeats 4000000 in
theorem ref13_ReadCivil_nn8 (s B : ByteArray) (sp : (0 : Int) < (s.size : Int)) (s1 : (1 : Int) ≤ (s.size : Int)) (sj : 0 < s.size) (x0 : ((s[0]'sj).toNat : Int) = 45) (eB : s.extract 1 s.size = B) (w : World) (hl : B.size = 10) (h4 : ((B[4]'(by omega)).toNat : Int) = 45) (h7 : ((B[7]'(by omega)).toNat : Int) = 45) (t4 t5 t8 : ByteArray) (e4 : B.extract 0 4 = t4) (e5 : B.extract 5 7 = t5) (e8 : B.extract 8 10 = t8) (yv mv dv : Int) (HN4 : Hid (∀ w : World, Calls Tryz.prog 50 #[.string t4, .int .i64 4] w fun e w' => e = .returned (.tuple #[.int .i64 yv, .bool true]) ∧ w = w')) (HNm : Hid (∀ w : World, Calls Tryz.prog 50 #[.string t5, .int .i64 2] w fun e w' => e = .returned (.tuple #[.int .i64 mv, .bool true]) ∧ w = w')) (HNd : Hid (∀ w : World, Calls Tryz.prog 50 #[.string t8, .int .i64 2] w fun e w' => e = .returned (.tuple #[.int .i64 dv, .bool false]) ∧ w = w')) :
    Calls Tryz.prog 18 #[.string s] w fun e w' => e = .returned (.tuple #[.agg #[.int .i64 (0), .int .i64 (0), .int .i64 (0)], .int .i64 (5)]) ∧ Below w.heap.size w w' := by
  go_enter Tryz.func18, Tryz.ntmps18
  go_wp2_with fail
  refine (HN4.out _).mono ?_
  rintro e w' ⟨rfl, rfl⟩
  go_wp2_with fail
  refine (HNm.out _).mono ?_
  rintro e w' ⟨rfl, rfl⟩
  go_wp2_with fail
  refine (HNd.out _).mono ?_
  rintro e w' ⟨rfl, rfl⟩
  go_wp2_with fail
  refine bodyPost_ret (v := .tuple #[.agg #[.int .i64 (0), .int .i64 (0), .int .i64 (0)], .int .i64 (5)]) (by simp [results, Tryz.results18, go_sem, *]) rfl ⟨rfl, ?_⟩
  repeat (first | (with_reducible exact Below.refl _ _) | (with_reducible assumption) | (with_reducible refine bdrew ?_) | (with_reducible refine baa ?_ _) | (with_reducible refine bs ?_ (by first | exact Nat.le_refl _ | omega | (simp; done) | (simp; omega)) _) | (with_reducible refine bt ?_ (by with_reducible assumption)))
set_option maxHeartbeats 4000000 in
theorem ref13_ReadCivil_nz (s B : ByteArray) (sp : (0 : Int) < (s.size : Int)) (s1 : (1 : Int) ≤ (s.size : Int)) (sj : 0 < s.size) (x0 : ((s[0]'sj).toNat : Int) = 45) (eB : s.extract 1 s.size = B) (w : World) (hl : B.size = 10) (h4 : ((B[4]'(by omega)).toNat : Int) = 45) (h7 : ((B[7]'(by omega)).toNat : Int) = 45) (t4 t5 t8 : ByteArray) (e4 : B.extract 0 4 = t4) (e5 : B.extract 5 7 = t5) (e8 : B.extract 8 10 = t8) (yv mv dv : Int) (HN4 : Hid (∀ w : World, Calls Tryz.prog 50 #[.string t4, .int .i64 4] w fun e w' => e = .returned (.tuple #[.int .i64 yv, .bool true]) ∧ w = w')) (HNm : Hid (∀ w : World, Calls Tryz.prog 50 #[.string t5, .int .i64 2] w fun e w' => e = .returned (.tuple #[.int .i64 mv, .bool true]) ∧ w = w')) (HNd : Hid (∀ w : World, Calls Tryz.prog 50 #[.string t8, .int .i64 2] w fun e w' => e = .returned (.tuple #[.int .i64 dv, .bool true]) ∧ w = w')) (yz : (yv == 0) = true) :
    Calls Tryz.prog 18 #[.string s] w fun e w' => e = .returned (.tuple #[.agg #[.int .i64 (0), .int .i64 (0), .int .i64 (0)], .int .i64 (5)]) ∧ Below w.heap.size w w' := by
  go_enter Tryz.func18, Tryz.ntmps18
  go_wp2_with fail
  refine (HN4.out _).mono ?_
  rintro e w' ⟨rfl, rfl⟩
  go_wp2_with fail
  refine (HNm.out _).mono ?_
  rintro e w' ⟨rfl, rfl⟩
  go_wp2_with fail
  refine (HNd.out _).mono ?_
  rintro e w' ⟨rfl, rfl⟩
  go_wp2_with fail
  refine bodyPost_ret (v := .tuple #[.agg #[.int .i64 (0), .int .i64 (0), .int .i64 (0)], .int .i64 (5)]) (by simp [results, Tryz.results18, go_sem, *]) rfl ⟨rfl, ?_⟩
  repeat (first | (with_reducible exact Below.refl _ _) | (with_reducible assumption) | (with_reducible refine bdrew ?_) | (with_reducible refine baa ?_ _) | (with_reducible refine bs ?_ (by first | exact Nat.le_refl _ | omega | (simp; done) | (simp; omega)) _) | (with_reducible refine bt ?_ (by with_reducible assumption)))
set_option maxHeartbeats 4000000 in
theorem ref13_ReadCivil_nrng (s B : ByteArray) (sp : (0 : Int) < (s.size : Int)) (s1 : (1 : Int) ≤ (s.size : Int)) (sj : 0 < s.size) (x0 : ((s[0]'sj).toNat : Int) = 45) (eB : s.extract 1 s.size = B) (w : World) (hl : B.size = 10) (h4 : ((B[4]'(by omega)).toNat : Int) = 45) (h7 : ((B[7]'(by omega)).toNat : Int) = 45) (t4 t5 t8 : ByteArray) (e4 : B.extract 0 4 = t4) (e5 : B.extract 5 7 = t5) (e8 : B.extract 8 10 = t8) (yv mv dv : Int) (y0 : 0 ≤ yv) (y1 : yv ≤ 9999) (yz : (yv == 0) = false) (HN4 : Hid (∀ w : World, Calls Tryz.prog 50 #[.string t4, .int .i64 4] w fun e w' => e = .returned (.tuple #[.int .i64 yv, .bool true]) ∧ w = w')) (HNm : Hid (∀ w : World, Calls Tryz.prog 50 #[.string t5, .int .i64 2] w fun e w' => e = .returned (.tuple #[.int .i64 mv, .bool true]) ∧ w = w')) (HNd : Hid (∀ w : World, Calls Tryz.prog 50 #[.string t8, .int .i64 2] w fun e w' => e = .returned (.tuple #[.int .i64 dv, .bool true]) ∧ w = w')) (gv ge : Int) (HG : Hid (∀ w : World, Calls Tryz.prog 44 #[.agg #[.int .i64 (-yv), .int .i64 (mv), .int .i64 (dv)]] w fun e w' => e = .returned (.tuple #[.int .i64 gv, .int .i64 (ge)]) ∧ Below w.heap.size w w')) (h0 : (ge != 0) = true) :
    Calls Tryz.prog 18 #[.string s] w fun e w' => e = .returned (.tuple #[.agg #[.int .i64 (0), .int .i64 (0), .int .i64 (0)], .int .i64 (2)]) ∧ Below w.heap.size w w' := by
  go_enter Tryz.func18, Tryz.ntmps18
  go_wp2_with fail
  refine (HN4.out _).mono ?_
  rintro e w' ⟨rfl, rfl⟩
  go_wp2_with fail
  refine (HNm.out _).mono ?_
  rintro e w' ⟨rfl, rfl⟩
  go_wp2_with fail
  refine (HNd.out _).mono ?_
  rintro e w' ⟨rfl, rfl⟩
  go_wp2_with fail
  refine (HG.out _).mono ?_
  rintro e w1 ⟨rfl, hb1⟩
  obtain ⟨hc1, hf1⟩ := bcell hb1
  have hz1 := hb1.size
  try simp at hz1
  have hs1x0 : w.heap.size < w1.heap.size := by omega
  have hs1x1 : (w.heap.size + 1) < w1.heap.size := by omega
  have g1x0 : w1.cell? ⟨w.heap.size, 0, none⟩ = some (.int .i64 (0)) := (hc1 _ _ (by first | omega | (simp; done) | (simp; omega))).trans (by first | (with_reducible assumption) | (simp [go_sem]; done) | (simp [go_sem, *]; done) | assumption)
  have g1x1 : w1.cell? ⟨w.heap.size, 1, none⟩ = some (.int .i64 (0)) := (hc1 _ _ (by first | omega | (simp; done) | (simp; omega))).trans (by first | (with_reducible assumption) | (simp [go_sem]; done) | (simp [go_sem, *]; done) | assumption)
  have g1x2 : w1.cell? ⟨w.heap.size, 2, none⟩ = some (.int .i64 (0)) := (hc1 _ _ (by first | omega | (simp; done) | (simp; omega))).trans (by first | (with_reducible assumption) | (simp [go_sem]; done) | (simp [go_sem, *]; done) | assumption)
  have g1x3 : w1.cell? ⟨(w.heap.size + 1), 0, none⟩ = some (.int .i64 (-yv)) := (hc1 _ _ (by first | omega | (simp; done) | (simp; omega))).trans (by first | (with_reducible assumption) | (simp [go_sem]; done) | (simp [go_sem, *]; done) | assumption)
  have g1x4 : w1.cell? ⟨(w.heap.size + 1), 1, none⟩ = some (.int .i64 (mv)) := (hc1 _ _ (by first | omega | (simp; done) | (simp; omega))).trans (by first | (with_reducible assumption) | (simp [go_sem]; done) | (simp [go_sem, *]; done) | assumption)
  have g1x5 : w1.cell? ⟨(w.heap.size + 1), 2, none⟩ = some (.int .i64 (dv)) := (hc1 _ _ (by first | omega | (simp; done) | (simp; omega))).trans (by first | (with_reducible assumption) | (simp [go_sem]; done) | (simp [go_sem, *]; done) | assumption)
  have z1x0 : w1.frozen? ⟨w.heap.size, 0, none⟩ = false := (hf1 _ _ (by first | omega | (simp; done) | (simp; omega))).trans (by first | (with_reducible assumption) | (simp [go_sem]; done) | (simp [go_sem, *]; done))
  have z1x1 : w1.frozen? ⟨w.heap.size, 1, none⟩ = false := (hf1 _ _ (by first | omega | (simp; done) | (simp; omega))).trans (by first | (with_reducible assumption) | (simp [go_sem]; done) | (simp [go_sem, *]; done))
  have z1x2 : w1.frozen? ⟨w.heap.size, 2, none⟩ = false := (hf1 _ _ (by first | omega | (simp; done) | (simp; omega))).trans (by first | (with_reducible assumption) | (simp [go_sem]; done) | (simp [go_sem, *]; done))
  go_wp2_with fail
  clear hc1
  refine bodyPost_ret (v := .tuple #[.agg #[.int .i64 (0), .int .i64 (0), .int .i64 (0)], .int .i64 (2)]) (by simp [results, Tryz.results18, go_sem, *]) rfl ⟨rfl, ?_⟩
  repeat (first | (with_reducible exact Below.refl _ _) | (with_reducible assumption) | (with_reducible refine bdrew ?_) | (with_reducible refine baa ?_ _) | (with_reducible refine bs ?_ (by first | exact Nat.le_refl _ | omega | (simp; done) | (simp; omega)) _) | (with_reducible refine bt ?_ (by with_reducible assumption)))
set_option maxHeartbeats 4000000 in
theorem ref13_ReadCivil_nok (s B : ByteArray) (sp : (0 : Int) < (s.size : Int)) (s1 : (1 : Int) ≤ (s.size : Int)) (sj : 0 < s.size) (x0 : ((s[0]'sj).toNat : Int) = 45) (eB : s.extract 1 s.size = B) (w : World) (hl : B.size = 10) (h4 : ((B[4]'(by omega)).toNat : Int) = 45) (h7 : ((B[7]'(by omega)).toNat : Int) = 45) (t4 t5 t8 : ByteArray) (e4 : B.extract 0 4 = t4) (e5 : B.extract 5 7 = t5) (e8 : B.extract 8 10 = t8) (yv mv dv : Int) (y0 : 0 ≤ yv) (y1 : yv ≤ 9999) (yz : (yv == 0) = false) (HN4 : Hid (∀ w : World, Calls Tryz.prog 50 #[.string t4, .int .i64 4] w fun e w' => e = .returned (.tuple #[.int .i64 yv, .bool true]) ∧ w = w')) (HNm : Hid (∀ w : World, Calls Tryz.prog 50 #[.string t5, .int .i64 2] w fun e w' => e = .returned (.tuple #[.int .i64 mv, .bool true]) ∧ w = w')) (HNd : Hid (∀ w : World, Calls Tryz.prog 50 #[.string t8, .int .i64 2] w fun e w' => e = .returned (.tuple #[.int .i64 dv, .bool true]) ∧ w = w')) (gv : Int) (HG : Hid (∀ w : World, Calls Tryz.prog 44 #[.agg #[.int .i64 (-yv), .int .i64 (mv), .int .i64 (dv)]] w fun e w' => e = .returned (.tuple #[.int .i64 gv, .int .i64 (0)]) ∧ Below w.heap.size w w')) :
    Calls Tryz.prog 18 #[.string s] w fun e w' => e = .returned (.tuple #[.agg #[.int .i64 (-yv), .int .i64 (mv), .int .i64 (dv)], .int .i64 (0)]) ∧ Below w.heap.size w w' := by
  go_enter Tryz.func18, Tryz.ntmps18
  go_wp2_with fail
  refine (HN4.out _).mono ?_
  rintro e w' ⟨rfl, rfl⟩
  go_wp2_with fail
  refine (HNm.out _).mono ?_
  rintro e w' ⟨rfl, rfl⟩
  go_wp2_with fail
  refine (HNd.out _).mono ?_
  rintro e w' ⟨rfl, rfl⟩
  go_wp2_with fail
  refine (HG.out _).mono ?_
  rintro e w1 ⟨rfl, hb1⟩
  obtain ⟨hc1, hf1⟩ := bcell hb1
  have hz1 := hb1.size
  try simp at hz1
  have hs1x0 : w.heap.size < w1.heap.size := by omega
  have hs1x1 : (w.heap.size + 1) < w1.heap.size := by omega
  have g1x0 : w1.cell? ⟨w.heap.size, 0, none⟩ = some (.int .i64 (0)) := (hc1 _ _ (by first | omega | (simp; done) | (simp; omega))).trans (by first | (with_reducible assumption) | (simp [go_sem]; done) | (simp [go_sem, *]; done) | assumption)
  have g1x1 : w1.cell? ⟨w.heap.size, 1, none⟩ = some (.int .i64 (0)) := (hc1 _ _ (by first | omega | (simp; done) | (simp; omega))).trans (by first | (with_reducible assumption) | (simp [go_sem]; done) | (simp [go_sem, *]; done) | assumption)
  have g1x2 : w1.cell? ⟨w.heap.size, 2, none⟩ = some (.int .i64 (0)) := (hc1 _ _ (by first | omega | (simp; done) | (simp; omega))).trans (by first | (with_reducible assumption) | (simp [go_sem]; done) | (simp [go_sem, *]; done) | assumption)
  have g1x3 : w1.cell? ⟨(w.heap.size + 1), 0, none⟩ = some (.int .i64 (-yv)) := (hc1 _ _ (by first | omega | (simp; done) | (simp; omega))).trans (by first | (with_reducible assumption) | (simp [go_sem]; done) | (simp [go_sem, *]; done) | assumption)
  have g1x4 : w1.cell? ⟨(w.heap.size + 1), 1, none⟩ = some (.int .i64 (mv)) := (hc1 _ _ (by first | omega | (simp; done) | (simp; omega))).trans (by first | (with_reducible assumption) | (simp [go_sem]; done) | (simp [go_sem, *]; done) | assumption)
  have g1x5 : w1.cell? ⟨(w.heap.size + 1), 2, none⟩ = some (.int .i64 (dv)) := (hc1 _ _ (by first | omega | (simp; done) | (simp; omega))).trans (by first | (with_reducible assumption) | (simp [go_sem]; done) | (simp [go_sem, *]; done) | assumption)
  have z1x0 : w1.frozen? ⟨w.heap.size, 0, none⟩ = false := (hf1 _ _ (by first | omega | (simp; done) | (simp; omega))).trans (by first | (with_reducible assumption) | (simp [go_sem]; done) | (simp [go_sem, *]; done))
  have z1x1 : w1.frozen? ⟨w.heap.size, 1, none⟩ = false := (hf1 _ _ (by first | omega | (simp; done) | (simp; omega))).trans (by first | (with_reducible assumption) | (simp [go_sem]; done) | (simp [go_sem, *]; done))
  have z1x2 : w1.frozen? ⟨w.heap.size, 2, none⟩ = false := (hf1 _ _ (by first | omega | (simp; done) | (simp; omega))).trans (by first | (with_reducible assumption) | (simp [go_sem]; done) | (simp [go_sem, *]; done))
  go_wp2_with fail
  clear hc1
  refine bodyPost_ret (v := .tuple #[.agg #[.int .i64 (-yv), .int .i64 (mv), .int .i64 (dv)], .int .i64 (0)]) (by simp [results, Tryz.results18, go_sem, *]) rfl ⟨rfl, ?_⟩
  repeat (first | (with_reducible exact Below.refl _ _) | (with_reducible assumption) | (with_reducible refine bdrew ?_) | (with_reducible refine baa ?_ _) | (with_reducible refine bs ?_ (by first | exact Nat.le_refl _ | omega | (simp; done) | (simp; omega)) _) | (with_reducible refine bt ?_ (by with_reducible assumption)))
end Go.Proofs.YtafenpgafmdenaaGreatDoor
/- Layer 13: the document's reading of a Gregorian date, from 0. -/
namespace Go.Proofs.YtafenpgafmdenaaGreatDoor
open Go.ChangeShapes Go.WideShapes Go.ChangeAt Go.RowKit
set_option linter.unusedVariables false
set_option maxRecDepth 100000
set_option maxHeartbeats 4000000 in
theorem ref13_ReadCivil_pe (s : ByteArray) (w : World) (hs0 : s.size = 0) :
    Calls Tryz.prog 18 #[.string s] w fun e w' => e = .returned (.tuple #[.agg #[.int .i64 (0), .int .i64 (0), .int .i64 (0)], .int .i64 (5)]) ∧ Below w.heap.size w w' := by
  go_enter Tryz.func18, Tryz.ntmps18
  go_wp2_with fail
  refine bodyPost_ret (v := .tuple #[.agg #[.int .i64 (0), .int .i64 (0), .int .i64 (0)], .int .i64 (5)]) (by simp [results, Tryz.results18, go_sem, *]) rfl ⟨rfl, ?_⟩
  repeat (first | (with_reducible exact Below.refl _ _) | (with_reducible assumption) | (with_reducible refine bdrew ?_) | (with_reducible refine baa ?_ _) | (with_reducible refine bs ?_ (by first | exact Nat.le_refl _ | omega | (simp; done) | (simp; omega)) _) | (with_reducible refine bt ?_ (by with_reducible assumption)))
set_option maxHeartbeats 4000000 in
theorem ref13_ReadCivil_plen (s : ByteArray) (sp : (0 : Int) < (s.size : Int)) (sj : 0 < s.size) (x0 : (((s[0]'sj).toNat : Int) == 45) = false) (w : World) (hl : ((s.size : Int) != 10) = true) :
    Calls Tryz.prog 18 #[.string s] w fun e w' => e = .returned (.tuple #[.agg #[.int .i64 (0), .int .i64 (0), .int .i64 (0)], .int .i64 (5)]) ∧ Below w.heap.size w w' := by
  go_enter Tryz.func18, Tryz.ntmps18
  go_wp2_with fail
  refine bodyPost_ret (v := .tuple #[.agg #[.int .i64 (0), .int .i64 (0), .int .i64 (0)], .int .i64 (5)]) (by simp [results, Tryz.results18, go_sem, *]) rfl ⟨rfl, ?_⟩
  repeat (first | (with_reducible exact Below.refl _ _) | (with_reducible assumption) | (with_reducible refine bdrew ?_) | (with_reducible refine baa ?_ _) | (with_reducible refine bs ?_ (by first | exact Nat.le_refl _ | omega | (simp; done) | (simp; omega)) _) | (with_reducible refine bt ?_ (by with_reducible assumption)))
set_option maxHeartbeats 4000000 in
theorem ref13_ReadCivil_pb4 (s : ByteArray) (sp : (0 : Int) < (s.size : Int)) (sj : 0 < s.size) (x0 : (((s[0]'sj).toNat : Int) == 45) = false) (w : World) (hl : s.size = 10) (h4 : (((s[4]'(by omega)).toNat : Int) != 45) = true) :
    Calls Tryz.prog 18 #[.string s] w fun e w' => e = .returned (.tuple #[.agg #[.int .i64 (0), .int .i64 (0), .int .i64 (0)], .int .i64 (5)]) ∧ Below w.heap.size w w' := by
  go_enter Tryz.func18, Tryz.ntmps18
  go_wp2_with fail
  refine bodyPost_ret (v := .tuple #[.agg #[.int .i64 (0), .int .i64 (0), .int .i64 (0)], .int .i64 (5)]) (by simp [results, Tryz.results18, go_sem, *]) rfl ⟨rfl, ?_⟩
  repeat (first | (with_reducible exact Below.refl _ _) | (with_reducible assumption) | (with_reducible refine bdrew ?_) | (with_reducible refine baa ?_ _) | (with_reducible refine bs ?_ (by first | exact Nat.le_refl _ | omega | (simp; done) | (simp; omega)) _) | (with_reducible refine bt ?_ (by with_reducible assumption)))
set_option maxHeartbeats 4000000 in
theorem ref13_ReadCivil_pb7 (s : ByteArray) (sp : (0 : Int) < (s.size : Int)) (sj : 0 < s.size) (x0 : (((s[0]'sj).toNat : Int) == 45) = false) (w : World) (hl : s.size = 10) (h4 : ((s[4]'(by omega)).toNat : Int) = 45) (h7 : (((s[7]'(by omega)).toNat : Int) != 45) = true) :
    Calls Tryz.prog 18 #[.string s] w fun e w' => e = .returned (.tuple #[.agg #[.int .i64 (0), .int .i64 (0), .int .i64 (0)], .int .i64 (5)]) ∧ Below w.heap.size w w' := by
  go_enter Tryz.func18, Tryz.ntmps18
  go_wp2_with fail
  refine bodyPost_ret (v := .tuple #[.agg #[.int .i64 (0), .int .i64 (0), .int .i64 (0)], .int .i64 (5)]) (by simp [results, Tryz.results18, go_sem, *]) rfl ⟨rfl, ?_⟩
  repeat (first | (with_reducible exact Below.refl _ _) | (with_reducible assumption) | (with_reducible refine bdrew ?_) | (with_reducible refine baa ?_ _) | (with_reducible refine bs ?_ (by first | exact Nat.le_refl _ | omega | (simp; done) | (simp; omega)) _) | (with_reducible refine bt ?_ (by with_reducible assumption)))
set_option maxHeartbeats 4000000 in
theorem ref13_ReadCivil_pn4 (s : ByteArray) (sp : (0 : Int) < (s.size : Int)) (sj : 0 < s.size) (x0 : (((s[0]'sj).toNat : Int) == 45) = false) (w : World) (hl : s.size = 10) (h4 : ((s[4]'(by omega)).toNat : Int) = 45) (h7 : ((s[7]'(by omega)).toNat : Int) = 45) (t4 t5 t8 : ByteArray) (e4 : s.extract 0 4 = t4) (e5 : s.extract 5 7 = t5) (e8 : s.extract 8 10 = t8) (yv mv dv : Int) (o5 o8 : Bool) (HN4 : Hid (∀ w : World, Calls Tryz.prog 50 #[.string t4, .int .i64 4] w fun e w' => e = .returned (.tuple #[.int .i64 yv, .bool false]) ∧ w = w')) (HNm : Hid (∀ w : World, Calls Tryz.prog 50 #[.string t5, .int .i64 2] w fun e w' => e = .returned (.tuple #[.int .i64 mv, .bool o5]) ∧ w = w')) (HNd : Hid (∀ w : World, Calls Tryz.prog 50 #[.string t8, .int .i64 2] w fun e w' => e = .returned (.tuple #[.int .i64 dv, .bool o8]) ∧ w = w')) :
    Calls Tryz.prog 18 #[.string s] w fun e w' => e = .returned (.tuple #[.agg #[.int .i64 (0), .int .i64 (0), .int .i64 (0)], .int .i64 (5)]) ∧ Below w.heap.size w w' := by
  go_enter Tryz.func18, Tryz.ntmps18
  go_wp2_with fail
  refine (HN4.out _).mono ?_
  rintro e w' ⟨rfl, rfl⟩
  go_wp2_with fail
  refine (HNm.out _).mono ?_
  rintro e w' ⟨rfl, rfl⟩
  go_wp2_with fail
  refine (HNd.out _).mono ?_
  rintro e w' ⟨rfl, rfl⟩
  go_wp2_with fail
  refine bodyPost_ret (v := .tuple #[.agg #[.int .i64 (0), .int .i64 (0), .int .i64 (0)], .int .i64 (5)]) (by simp [results, Tryz.results18, go_sem, *]) rfl ⟨rfl, ?_⟩
  repeat (first | (with_reducible exact Below.refl _ _) | (with_reducible assumption) | (with_reducible refine bdrew ?_) | (with_reducible refine baa ?_ _) | (with_reducible refine bs ?_ (by first | exact Nat.le_refl _ | omega | (simp; done) | (simp; omega)) _) | (with_reducible refine bt ?_ (by with_reducible assumption)))
set_option maxHeartbeats 4000000 in
theorem ref13_ReadCivil_pn5 (s : ByteArray) (sp : (0 : Int) < (s.size : Int)) (sj : 0 < s.size) (x0 : (((s[0]'sj).toNat : Int) == 45) = false) (w : World) (hl : s.size = 10) (h4 : ((s[4]'(by omega)).toNat : Int) = 45) (h7 : ((s[7]'(by omega)).toNat : Int) = 45) (t4 t5 t8 : ByteArray) (e4 : s.extract 0 4 = t4) (e5 : s.extract 5 7 = t5) (e8 : s.extract 8 10 = t8) (yv mv dv : Int) (o8 : Bool) (HN4 : Hid (∀ w : World, Calls Tryz.prog 50 #[.string t4, .int .i64 4] w fun e w' => e = .returned (.tuple #[.int .i64 yv, .bool true]) ∧ w = w')) (HNm : Hid (∀ w : World, Calls Tryz.prog 50 #[.string t5, .int .i64 2] w fun e w' => e = .returned (.tuple #[.int .i64 mv, .bool false]) ∧ w = w')) (HNd : Hid (∀ w : World, Calls Tryz.prog 50 #[.string t8, .int .i64 2] w fun e w' => e = .returned (.tuple #[.int .i64 dv, .bool o8]) ∧ w = w')) :
    Calls Tryz.prog 18 #[.string s] w fun e w' => e = .returned (.tuple #[.agg #[.int .i64 (0), .int .i64 (0), .int .i64 (0)], .int .i64 (5)]) ∧ Below w.heap.size w w' := by
  go_enter Tryz.func18, Tryz.ntmps18
  go_wp2_with fail
  refine (HN4.out _).mono ?_
  rintro e w' ⟨rfl, rfl⟩
  go_wp2_with fail
  refine (HNm.out _).mono ?_
  rintro e w' ⟨rfl, rfl⟩
  go_wp2_with fail
  refine (HNd.out _).mono ?_
  rintro e w' ⟨rfl, rfl⟩
  go_wp2_with fail
  refine bodyPost_ret (v := .tuple #[.agg #[.int .i64 (0), .int .i64 (0), .int .i64 (0)], .int .i64 (5)]) (by simp [results, Tryz.results18, go_sem, *]) rfl ⟨rfl, ?_⟩
  repeat (first | (with_reducible exact Below.refl _ _) | (with_reducible assumption) | (with_reducible refine bdrew ?_) | (with_reducible refine baa ?_ _) | (with_reducible refine bs ?_ (by first | exact Nat.le_refl _ | omega | (simp; done) | (simp; omega)) _) | (with_reducible refine bt ?_ (by with_reducible assumption)))
set_option maxHeartbeats 4000000 in
theorem ref13_ReadCivil_pn8 (s : ByteArray) (sp : (0 : Int) < (s.size : Int)) (sj : 0 < s.size) (x0 : (((s[0]'sj).toNat : Int) == 45) = false) (w : World) (hl : s.size = 10) (h4 : ((s[4]'(by omega)).toNat : Int) = 45) (h7 : ((s[7]'(by omega)).toNat : Int) = 45) (t4 t5 t8 : ByteArray) (e4 : s.extract 0 4 = t4) (e5 : s.extract 5 7 = t5) (e8 : s.extract 8 10 = t8) (yv mv dv : Int) (HN4 : Hid (∀ w : World, Calls Tryz.prog 50 #[.string t4, .int .i64 4] w fun e w' => e = .returned (.tuple #[.int .i64 yv, .bool true]) ∧ w = w')) (HNm : Hid (∀ w : World, Calls Tryz.prog 50 #[.string t5, .int .i64 2] w fun e w' => e = .returned (.tuple #[.int .i64 mv, .bool true]) ∧ w = w')) (HNd : Hid (∀ w : World, Calls Tryz.prog 50 #[.string t8, .int .i64 2] w fun e w' => e = .returned (.tuple #[.int .i64 dv, .bool false]) ∧ w = w')) :
    Calls Tryz.prog 18 #[.string s] w fun e w' => e = .returned (.tuple #[.agg #[.int .i64 (0), .int .i64 (0), .int .i64 (0)], .int .i64 (5)]) ∧ Below w.heap.size w w' := by
  go_enter Tryz.func18, Tryz.ntmps18
  go_wp2_with fail
  refine (HN4.out _).mono ?_
  rintro e w' ⟨rfl, rfl⟩
  go_wp2_with fail
  refine (HNm.out _).mono ?_
  rintro e w' ⟨rfl, rfl⟩
  go_wp2_with fail
  refine (HNd.out _).mono ?_
  rintro e w' ⟨rfl, rfl⟩
  go_wp2_with fail
  refine bodyPost_ret (v := .tuple #[.agg #[.int .i64 (0), .int .i64 (0), .int .i64 (0)], .int .i64 (5)]) (by simp [results, Tryz.results18, go_sem, *]) rfl ⟨rfl, ?_⟩
  repeat (first | (with_reducible exact Below.refl _ _) | (with_reducible assumption) | (with_reducible refine bdrew ?_) | (with_reducible refine baa ?_ _) | (with_reducible refine bs ?_ (by first | exact Nat.le_refl _ | omega | (simp; done) | (simp; omega)) _) | (with_reducible refine bt ?_ (by with_reducible assumption)))
set_option maxHeartbeats 4000000 in
theorem ref13_ReadCivil_prng (s : ByteArray) (sp : (0 : Int) < (s.size : Int)) (sj : 0 < s.size) (x0 : (((s[0]'sj).toNat : Int) == 45) = false) (w : World) (hl : s.size = 10) (h4 : ((s[4]'(by omega)).toNat : Int) = 45) (h7 : ((s[7]'(by omega)).toNat : Int) = 45) (t4 t5 t8 : ByteArray) (e4 : s.extract 0 4 = t4) (e5 : s.extract 5 7 = t5) (e8 : s.extract 8 10 = t8) (yv mv dv : Int) (y0 : 0 ≤ yv) (y1 : yv ≤ 9999) (HN4 : Hid (∀ w : World, Calls Tryz.prog 50 #[.string t4, .int .i64 4] w fun e w' => e = .returned (.tuple #[.int .i64 yv, .bool true]) ∧ w = w')) (HNm : Hid (∀ w : World, Calls Tryz.prog 50 #[.string t5, .int .i64 2] w fun e w' => e = .returned (.tuple #[.int .i64 mv, .bool true]) ∧ w = w')) (HNd : Hid (∀ w : World, Calls Tryz.prog 50 #[.string t8, .int .i64 2] w fun e w' => e = .returned (.tuple #[.int .i64 dv, .bool true]) ∧ w = w')) (gv ge : Int) (HG : Hid (∀ w : World, Calls Tryz.prog 44 #[.agg #[.int .i64 (yv), .int .i64 (mv), .int .i64 (dv)]] w fun e w' => e = .returned (.tuple #[.int .i64 gv, .int .i64 (ge)]) ∧ Below w.heap.size w w')) (h0 : (ge != 0) = true) :
    Calls Tryz.prog 18 #[.string s] w fun e w' => e = .returned (.tuple #[.agg #[.int .i64 (0), .int .i64 (0), .int .i64 (0)], .int .i64 (2)]) ∧ Below w.heap.size w w' := by
  go_enter Tryz.func18, Tryz.ntmps18
  go_wp2_with fail
  refine (HN4.out _).mono ?_
  rintro e w' ⟨rfl, rfl⟩
  go_wp2_with fail
  refine (HNm.out _).mono ?_
  rintro e w' ⟨rfl, rfl⟩
  go_wp2_with fail
  refine (HNd.out _).mono ?_
  rintro e w' ⟨rfl, rfl⟩
  go_wp2_with fail
  refine (HG.out _).mono ?_
  rintro e w1 ⟨rfl, hb1⟩
  obtain ⟨hc1, hf1⟩ := bcell hb1
  have hz1 := hb1.size
  try simp at hz1
  have hs1x0 : w.heap.size < w1.heap.size := by omega
  have hs1x1 : (w.heap.size + 1) < w1.heap.size := by omega
  have g1x0 : w1.cell? ⟨w.heap.size, 0, none⟩ = some (.int .i64 (0)) := (hc1 _ _ (by first | omega | (simp; done) | (simp; omega))).trans (by first | (with_reducible assumption) | (simp [go_sem]; done) | (simp [go_sem, *]; done) | assumption)
  have g1x1 : w1.cell? ⟨w.heap.size, 1, none⟩ = some (.int .i64 (0)) := (hc1 _ _ (by first | omega | (simp; done) | (simp; omega))).trans (by first | (with_reducible assumption) | (simp [go_sem]; done) | (simp [go_sem, *]; done) | assumption)
  have g1x2 : w1.cell? ⟨w.heap.size, 2, none⟩ = some (.int .i64 (0)) := (hc1 _ _ (by first | omega | (simp; done) | (simp; omega))).trans (by first | (with_reducible assumption) | (simp [go_sem]; done) | (simp [go_sem, *]; done) | assumption)
  have g1x3 : w1.cell? ⟨(w.heap.size + 1), 0, none⟩ = some (.int .i64 (yv)) := (hc1 _ _ (by first | omega | (simp; done) | (simp; omega))).trans (by first | (with_reducible assumption) | (simp [go_sem]; done) | (simp [go_sem, *]; done) | assumption)
  have g1x4 : w1.cell? ⟨(w.heap.size + 1), 1, none⟩ = some (.int .i64 (mv)) := (hc1 _ _ (by first | omega | (simp; done) | (simp; omega))).trans (by first | (with_reducible assumption) | (simp [go_sem]; done) | (simp [go_sem, *]; done) | assumption)
  have g1x5 : w1.cell? ⟨(w.heap.size + 1), 2, none⟩ = some (.int .i64 (dv)) := (hc1 _ _ (by first | omega | (simp; done) | (simp; omega))).trans (by first | (with_reducible assumption) | (simp [go_sem]; done) | (simp [go_sem, *]; done) | assumption)
  have z1x0 : w1.frozen? ⟨w.heap.size, 0, none⟩ = false := (hf1 _ _ (by first | omega | (simp; done) | (simp; omega))).trans (by first | (with_reducible assumption) | (simp [go_sem]; done) | (simp [go_sem, *]; done))
  have z1x1 : w1.frozen? ⟨w.heap.size, 1, none⟩ = false := (hf1 _ _ (by first | omega | (simp; done) | (simp; omega))).trans (by first | (with_reducible assumption) | (simp [go_sem]; done) | (simp [go_sem, *]; done))
  have z1x2 : w1.frozen? ⟨w.heap.size, 2, none⟩ = false := (hf1 _ _ (by first | omega | (simp; done) | (simp; omega))).trans (by first | (with_reducible assumption) | (simp [go_sem]; done) | (simp [go_sem, *]; done))
  go_wp2_with fail
  clear hc1
  refine bodyPost_ret (v := .tuple #[.agg #[.int .i64 (0), .int .i64 (0), .int .i64 (0)], .int .i64 (2)]) (by simp [results, Tryz.results18, go_sem, *]) rfl ⟨rfl, ?_⟩
  repeat (first | (with_reducible exact Below.refl _ _) | (with_reducible assumption) | (with_reducible refine bdrew ?_) | (with_reducible refine baa ?_ _) | (with_reducible refine bs ?_ (by first | exact Nat.le_refl _ | omega | (simp; done) | (simp; omega)) _) | (with_reducible refine bt ?_ (by with_reducible assumption)))
set_option maxHeartbeats 4000000 in
theorem ref13_ReadCivil_pok (s : ByteArray) (sp : (0 : Int) < (s.size : Int)) (sj : 0 < s.size) (x0 : (((s[0]'sj).toNat : Int) == 45) = false) (w : World) (hl : s.size = 10) (h4 : ((s[4]'(by omega)).toNat : Int) = 45) (h7 : ((s[7]'(by omega)).toNat : Int) = 45) (t4 t5 t8 : ByteArray) (e4 : s.extract 0 4 = t4) (e5 : s.extract 5 7 = t5) (e8 : s.extract 8 10 = t8) (yv mv dv : Int) (y0 : 0 ≤ yv) (y1 : yv ≤ 9999) (HN4 : Hid (∀ w : World, Calls Tryz.prog 50 #[.string t4, .int .i64 4] w fun e w' => e = .returned (.tuple #[.int .i64 yv, .bool true]) ∧ w = w')) (HNm : Hid (∀ w : World, Calls Tryz.prog 50 #[.string t5, .int .i64 2] w fun e w' => e = .returned (.tuple #[.int .i64 mv, .bool true]) ∧ w = w')) (HNd : Hid (∀ w : World, Calls Tryz.prog 50 #[.string t8, .int .i64 2] w fun e w' => e = .returned (.tuple #[.int .i64 dv, .bool true]) ∧ w = w')) (gv : Int) (HG : Hid (∀ w : World, Calls Tryz.prog 44 #[.agg #[.int .i64 (yv), .int .i64 (mv), .int .i64 (dv)]] w fun e w' => e = .returned (.tuple #[.int .i64 gv, .int .i64 (0)]) ∧ Below w.heap.size w w')) :
    Calls Tryz.prog 18 #[.string s] w fun e w' => e = .returned (.tuple #[.agg #[.int .i64 (yv), .int .i64 (mv), .int .i64 (dv)], .int .i64 (0)]) ∧ Below w.heap.size w w' := by
  go_enter Tryz.func18, Tryz.ntmps18
  go_wp2_with fail
  refine (HN4.out _).mono ?_
  rintro e w' ⟨rfl, rfl⟩
  go_wp2_with fail
  refine (HNm.out _).mono ?_
  rintro e w' ⟨rfl, rfl⟩
  go_wp2_with fail
  refine (HNd.out _).mono ?_
  rintro e w' ⟨rfl, rfl⟩
  go_wp2_with fail
  refine (HG.out _).mono ?_
  rintro e w1 ⟨rfl, hb1⟩
  obtain ⟨hc1, hf1⟩ := bcell hb1
  have hz1 := hb1.size
  try simp at hz1
  have hs1x0 : w.heap.size < w1.heap.size := by omega
  have hs1x1 : (w.heap.size + 1) < w1.heap.size := by omega
  have g1x0 : w1.cell? ⟨w.heap.size, 0, none⟩ = some (.int .i64 (0)) := (hc1 _ _ (by first | omega | (simp; done) | (simp; omega))).trans (by first | (with_reducible assumption) | (simp [go_sem]; done) | (simp [go_sem, *]; done) | assumption)
  have g1x1 : w1.cell? ⟨w.heap.size, 1, none⟩ = some (.int .i64 (0)) := (hc1 _ _ (by first | omega | (simp; done) | (simp; omega))).trans (by first | (with_reducible assumption) | (simp [go_sem]; done) | (simp [go_sem, *]; done) | assumption)
  have g1x2 : w1.cell? ⟨w.heap.size, 2, none⟩ = some (.int .i64 (0)) := (hc1 _ _ (by first | omega | (simp; done) | (simp; omega))).trans (by first | (with_reducible assumption) | (simp [go_sem]; done) | (simp [go_sem, *]; done) | assumption)
  have g1x3 : w1.cell? ⟨(w.heap.size + 1), 0, none⟩ = some (.int .i64 (yv)) := (hc1 _ _ (by first | omega | (simp; done) | (simp; omega))).trans (by first | (with_reducible assumption) | (simp [go_sem]; done) | (simp [go_sem, *]; done) | assumption)
  have g1x4 : w1.cell? ⟨(w.heap.size + 1), 1, none⟩ = some (.int .i64 (mv)) := (hc1 _ _ (by first | omega | (simp; done) | (simp; omega))).trans (by first | (with_reducible assumption) | (simp [go_sem]; done) | (simp [go_sem, *]; done) | assumption)
  have g1x5 : w1.cell? ⟨(w.heap.size + 1), 2, none⟩ = some (.int .i64 (dv)) := (hc1 _ _ (by first | omega | (simp; done) | (simp; omega))).trans (by first | (with_reducible assumption) | (simp [go_sem]; done) | (simp [go_sem, *]; done) | assumption)
  have z1x0 : w1.frozen? ⟨w.heap.size, 0, none⟩ = false := (hf1 _ _ (by first | omega | (simp; done) | (simp; omega))).trans (by first | (with_reducible assumption) | (simp [go_sem]; done) | (simp [go_sem, *]; done))
  have z1x1 : w1.frozen? ⟨w.heap.size, 1, none⟩ = false := (hf1 _ _ (by first | omega | (simp; done) | (simp; omega))).trans (by first | (with_reducible assumption) | (simp [go_sem]; done) | (simp [go_sem, *]; done))
  have z1x2 : w1.frozen? ⟨w.heap.size, 2, none⟩ = false := (hf1 _ _ (by first | omega | (simp; done) | (simp; omega))).trans (by first | (with_reducible assumption) | (simp [go_sem]; done) | (simp [go_sem, *]; done))
  go_wp2_with fail
  clear hc1
  refine bodyPost_ret (v := .tuple #[.agg #[.int .i64 (yv), .int .i64 (mv), .int .i64 (dv)], .int .i64 (0)]) (by simp [results, Tryz.results18, go_sem, *]) rfl ⟨rfl, ?_⟩
  repeat (first | (with_reducible exact Below.refl _ _) | (with_reducible assumption) | (with_reducible refine bdrew ?_) | (with_reducible refine baa ?_ _) | (with_reducible refine bs ?_ (by first | exact Nat.le_refl _ | omega | (simp; done) | (simp; omega)) _) | (with_reducible refine bt ?_ (by with_reducible assumption)))
end Go.Proofs.YtafenpgafmdenaaGreatDoor
/- Layer 13: the walk of TextTells, by its calls' contracts. -/
namespace Go.Proofs.YtafenpgafmdenaaGreatDoor
open Go.ChangeShapes Go.WideShapes Go.ChangeAt Go.RowKit
set_option linter.unusedVariables false
set_option maxRecDepth 100000
set_option maxHeartbeats 4000000 in
theorem TextTells_long (y n : Int) (l : Bool) (d cy cm cd : Int) (s : ByteArray) (w : World) (hT : Tab w 8 kevCells) (hL : Tab w 6 lenCells) (hP : Tab w 1 powCells) (hG : Tab w 2 Gr.gregCells) (m : Int) (hm : MaxAt w m) (h100 : (100 : Int) < (s.size : Int)) (HW : Hid (∀ w : World, Tab w 8 kevCells → Tab w 6 lenCells → Tab w 1 powCells → Tab w 2 Gr.gregCells → MaxAt w m → Calls Tryz.prog 10 #[] w fun e w' => e = .returned (.bool true) ∧ Below w.heap.size w w')) :
    Calls Tryz.prog 3 #[.agg #[.int .i64 (y), .int .i64 (n), .bool (l), .int .i64 (d)], .agg #[.int .i64 (cy), .int .i64 (cm), .int .i64 (cd)], .string s] w fun e w' => e = .returned (.bool true) ∧ Below w.heap.size w w' := by
  go_enter Tryz.func3, Tryz.ntmps3
  go_wp2_with fail
  refine (HW.out _ (Tab.below hT (by repeat (first | (with_reducible exact Below.refl _ _) | (with_reducible assumption) | (with_reducible refine bdrew ?_) | (with_reducible refine baa ?_ _) | (with_reducible refine bs ?_ (by first | exact Nat.le_refl _ | omega | (simp; done) | (simp; omega)) _) | (with_reducible refine bt ?_ (by with_reducible assumption))))) (Tab.below hL (by repeat (first | (with_reducible exact Below.refl _ _) | (with_reducible assumption) | (with_reducible refine bdrew ?_) | (with_reducible refine baa ?_ _) | (with_reducible refine bs ?_ (by first | exact Nat.le_refl _ | omega | (simp; done) | (simp; omega)) _) | (with_reducible refine bt ?_ (by with_reducible assumption))))) (Tab.below hP (by repeat (first | (with_reducible exact Below.refl _ _) | (with_reducible assumption) | (with_reducible refine bdrew ?_) | (with_reducible refine baa ?_ _) | (with_reducible refine bs ?_ (by first | exact Nat.le_refl _ | omega | (simp; done) | (simp; omega)) _) | (with_reducible refine bt ?_ (by with_reducible assumption))))) (Tab.below hG (by repeat (first | (with_reducible exact Below.refl _ _) | (with_reducible assumption) | (with_reducible refine bdrew ?_) | (with_reducible refine baa ?_ _) | (with_reducible refine bs ?_ (by first | exact Nat.le_refl _ | omega | (simp; done) | (simp; omega)) _) | (with_reducible refine bt ?_ (by with_reducible assumption))))) (MaxAt.below hm (by repeat (first | (with_reducible exact Below.refl _ _) | (with_reducible assumption) | (with_reducible refine bdrew ?_) | (with_reducible refine baa ?_ _) | (with_reducible refine bs ?_ (by first | exact Nat.le_refl _ | omega | (simp; done) | (simp; omega)) _) | (with_reducible refine bt ?_ (by with_reducible assumption)))))).mono ?_
  rintro e w1 ⟨rfl, hb1⟩
  obtain ⟨hc1, hf1⟩ := bcell hb1
  have hz1 := hb1.size
  try simp at hz1
  go_wp2_with fail
  go_ret
  refine ⟨by first | rfl | (simp [*]; done), ?_⟩
  repeat (first | (with_reducible exact Below.refl _ _) | (with_reducible assumption) | (with_reducible refine bdrew ?_) | (with_reducible refine baa ?_ _) | (with_reducible refine bs ?_ (by first | exact Nat.le_refl _ | omega | (simp; done) | (simp; omega)) _) | (with_reducible refine bt ?_ (by with_reducible assumption)))
set_option maxHeartbeats 8000000 in
theorem TextTells_go (y n : Int) (l : Bool) (d cy cm cd : Int) (s a b : ByteArray) (e1 e2 f k hy hn : Int) (hl : Bool) (hd gy gm gd : Int) (w : World) (hT : Tab w 8 kevCells) (hL : Tab w 6 lenCells) (hP : Tab w 1 powCells) (hG : Tab w 2 Gr.gregCells) (m : Int) (hm : MaxAt w m) (h100 : ¬ (100 : Int) < (s.size : Int))
    (HW : Hid (∀ w : World, Tab w 8 kevCells → Tab w 6 lenCells → Tab w 1 powCells → Tab w 2 Gr.gregCells → MaxAt w m → Calls Tryz.prog 10 #[] w fun e w' => e = .returned (.bool true) ∧ Below w.heap.size w w'))
    (HA : Hid (∀ w : World, Tab w 8 kevCells → Tab w 6 lenCells → Tab w 1 powCells → Calls Tryz.prog 11 #[.agg #[.int .i64 (y), .int .i64 (n), .bool (l), .int .i64 (d)]] w fun e w' => e = .returned (.tuple #[.string a, .int .i64 (e1)]) ∧ Below w.heap.size w w')) (HA2 : Hid (∀ w : World, Calls Tryz.prog 12 #[.agg #[.int .i64 (y), .int .i64 (n), .bool (l), .int .i64 (d)]] w fun e w' => e = .returned (.tuple #[.string a, .int .i64 (e1)]) ∧ Below w.heap.size w w'))
    (HCv : Hid (∀ w : World, Tab w 2 Gr.gregCells → Tab w 1 powCells → Calls Tryz.prog 13 #[.agg #[.int .i64 (cy), .int .i64 (cm), .int .i64 (cd)]] w fun e w' => e = .returned (.tuple #[.string b, .int .i64 (e2)]) ∧ Below w.heap.size w w')) (HC2 : Hid (∀ w : World, Calls Tryz.prog 14 #[.agg #[.int .i64 (cy), .int .i64 (cm), .int .i64 (cd)]] w fun e w' => e = .returned (.tuple #[.string b, .int .i64 (e2)]) ∧ Below w.heap.size w w'))
    (HRS : Hid (∀ w : World, Tab w 8 kevCells → Tab w 6 lenCells → MaxAt w m → Calls Tryz.prog 15 #[.string s] w fun e w' => e = .returned (.tuple #[.agg #[.int .i64 (hy), .int .i64 (hn), .bool (hl), .int .i64 (hd)], .int .i64 (f)]) ∧ Below w.heap.size w w')) (HR2 : Hid (∀ w : World, Calls Tryz.prog 16 #[.string s] w fun e w' => e = .returned (.tuple #[.agg #[.int .i64 (hy), .int .i64 (hn), .bool (hl), .int .i64 (hd)], .int .i64 (f)]) ∧ Below w.heap.size w w'))
    (HRC : Hid (∀ w : World, Tab w 2 Gr.gregCells → Calls Tryz.prog 17 #[.string s] w fun e w' => e = .returned (.tuple #[.agg #[.int .i64 (gy), .int .i64 (gm), .int .i64 (gd)], .int .i64 (k)]) ∧ Below w.heap.size w w')) (HRC2 : Hid (∀ w : World, Calls Tryz.prog 18 #[.string s] w fun e w' => e = .returned (.tuple #[.agg #[.int .i64 (gy), .int .i64 (gm), .int .i64 (gd)], .int .i64 (k)]) ∧ Below w.heap.size w w')) :
    Calls Tryz.prog 3 #[.agg #[.int .i64 (y), .int .i64 (n), .bool (l), .int .i64 (d)], .agg #[.int .i64 (cy), .int .i64 (cm), .int .i64 (cd)], .string s] w fun e w' => e = .returned (.bool true) ∧ Below w.heap.size w w' := by
  go_enter Tryz.func3, Tryz.ntmps3
  go_wp2_with fail
  refine (HA.out _ (Tab.below hT (by repeat (first | (with_reducible exact Below.refl _ _) | (with_reducible assumption) | (with_reducible refine bdrew ?_) | (with_reducible refine baa ?_ _) | (with_reducible refine bs ?_ (by first | exact Nat.le_refl _ | omega | (simp; done) | (simp; omega)) _) | (with_reducible refine bt ?_ (by with_reducible assumption))))) (Tab.below hL (by repeat (first | (with_reducible exact Below.refl _ _) | (with_reducible assumption) | (with_reducible refine bdrew ?_) | (with_reducible refine baa ?_ _) | (with_reducible refine bs ?_ (by first | exact Nat.le_refl _ | omega | (simp; done) | (simp; omega)) _) | (with_reducible refine bt ?_ (by with_reducible assumption))))) (Tab.below hP (by repeat (first | (with_reducible exact Below.refl _ _) | (with_reducible assumption) | (with_reducible refine bdrew ?_) | (with_reducible refine baa ?_ _) | (with_reducible refine bs ?_ (by first | exact Nat.le_refl _ | omega | (simp; done) | (simp; omega)) _) | (with_reducible refine bt ?_ (by with_reducible assumption)))))).mono ?_
  rintro e w1 ⟨rfl, hb1⟩
  obtain ⟨hc1, hf1⟩ := bcell hb1
  have hz1 := hb1.size
  try simp at hz1
  have hl1w : w.heap.size < w1.heap.size := by omega
  have hm1w : w.heap.size ≤ w1.heap.size := by omega
  have hs1x1 : (w.heap.size + 1) < w1.heap.size := by omega
  have g1x0 : w1.cell? ⟨w.heap.size, 0, none⟩ = some (.int .i64 (y)) := (hc1 _ _ (by first | omega | (simp; done) | (simp; omega))).trans (by first | (with_reducible assumption) | (simp [go_sem]; done) | (simp [go_sem, *]; done) | assumption)
  have g1x1 : w1.cell? ⟨w.heap.size, 1, none⟩ = some (.int .i64 (n)) := (hc1 _ _ (by first | omega | (simp; done) | (simp; omega))).trans (by first | (with_reducible assumption) | (simp [go_sem]; done) | (simp [go_sem, *]; done) | assumption)
  have g1x2 : w1.cell? ⟨w.heap.size, 2, none⟩ = some (.bool (l)) := (hc1 _ _ (by first | omega | (simp; done) | (simp; omega))).trans (by first | (with_reducible assumption) | (simp [go_sem]; done) | (simp [go_sem, *]; done) | assumption)
  have g1x3 : w1.cell? ⟨w.heap.size, 3, none⟩ = some (.int .i64 (d)) := (hc1 _ _ (by first | omega | (simp; done) | (simp; omega))).trans (by first | (with_reducible assumption) | (simp [go_sem]; done) | (simp [go_sem, *]; done) | assumption)
  have g1x4 : w1.cell? ⟨(w.heap.size + 1), 0, none⟩ = some (.int .i64 (cy)) := (hc1 _ _ (by first | omega | (simp; done) | (simp; omega))).trans (by first | (with_reducible assumption) | (simp [go_sem]; done) | (simp [go_sem, *]; done) | assumption)
  have g1x5 : w1.cell? ⟨(w.heap.size + 1), 1, none⟩ = some (.int .i64 (cm)) := (hc1 _ _ (by first | omega | (simp; done) | (simp; omega))).trans (by first | (with_reducible assumption) | (simp [go_sem]; done) | (simp [go_sem, *]; done) | assumption)
  have g1x6 : w1.cell? ⟨(w.heap.size + 1), 2, none⟩ = some (.int .i64 (cd)) := (hc1 _ _ (by first | omega | (simp; done) | (simp; omega))).trans (by first | (with_reducible assumption) | (simp [go_sem]; done) | (simp [go_sem, *]; done) | assumption)
  go_wp2_with fail
  refine (HA2.out _).mono ?_
  rintro e w2 ⟨rfl, hb2⟩
  obtain ⟨hc2, hf2⟩ := bcell hb2
  have hz2 := hb2.size
  try simp at hz2
  have hl2w : w.heap.size < w2.heap.size := by omega
  have hm2w : w.heap.size ≤ w2.heap.size := by omega
  have hs2x1 : (w.heap.size + 1) < w2.heap.size := by omega
  have g2x0 : w2.cell? ⟨w.heap.size, 0, none⟩ = some (.int .i64 (y)) := (hc2 _ _ (by first | omega | (simp; done) | (simp; omega))).trans (by first | (with_reducible assumption) | (simp [go_sem]; done) | (simp [go_sem, *]; done) | assumption)
  have g2x1 : w2.cell? ⟨w.heap.size, 1, none⟩ = some (.int .i64 (n)) := (hc2 _ _ (by first | omega | (simp; done) | (simp; omega))).trans (by first | (with_reducible assumption) | (simp [go_sem]; done) | (simp [go_sem, *]; done) | assumption)
  have g2x2 : w2.cell? ⟨w.heap.size, 2, none⟩ = some (.bool (l)) := (hc2 _ _ (by first | omega | (simp; done) | (simp; omega))).trans (by first | (with_reducible assumption) | (simp [go_sem]; done) | (simp [go_sem, *]; done) | assumption)
  have g2x3 : w2.cell? ⟨w.heap.size, 3, none⟩ = some (.int .i64 (d)) := (hc2 _ _ (by first | omega | (simp; done) | (simp; omega))).trans (by first | (with_reducible assumption) | (simp [go_sem]; done) | (simp [go_sem, *]; done) | assumption)
  have g2x4 : w2.cell? ⟨(w.heap.size + 1), 0, none⟩ = some (.int .i64 (cy)) := (hc2 _ _ (by first | omega | (simp; done) | (simp; omega))).trans (by first | (with_reducible assumption) | (simp [go_sem]; done) | (simp [go_sem, *]; done) | assumption)
  have g2x5 : w2.cell? ⟨(w.heap.size + 1), 1, none⟩ = some (.int .i64 (cm)) := (hc2 _ _ (by first | omega | (simp; done) | (simp; omega))).trans (by first | (with_reducible assumption) | (simp [go_sem]; done) | (simp [go_sem, *]; done) | assumption)
  have g2x6 : w2.cell? ⟨(w.heap.size + 1), 2, none⟩ = some (.int .i64 (cd)) := (hc2 _ _ (by first | omega | (simp; done) | (simp; omega))).trans (by first | (with_reducible assumption) | (simp [go_sem]; done) | (simp [go_sem, *]; done) | assumption)
  go_wp2_with fail
  refine (HCv.out _ (Tab.below hG (by repeat (first | (with_reducible exact Below.refl _ _) | (with_reducible assumption) | (with_reducible refine bdrew ?_) | (with_reducible refine baa ?_ _) | (with_reducible refine bs ?_ (by first | exact Nat.le_refl _ | omega | (simp; done) | (simp; omega)) _) | (with_reducible refine bt ?_ (by with_reducible assumption))))) (Tab.below hP (by repeat (first | (with_reducible exact Below.refl _ _) | (with_reducible assumption) | (with_reducible refine bdrew ?_) | (with_reducible refine baa ?_ _) | (with_reducible refine bs ?_ (by first | exact Nat.le_refl _ | omega | (simp; done) | (simp; omega)) _) | (with_reducible refine bt ?_ (by with_reducible assumption)))))).mono ?_
  rintro e w3 ⟨rfl, hb3⟩
  obtain ⟨hc3, hf3⟩ := bcell hb3
  have hz3 := hb3.size
  try simp at hz3
  have hl3w : w.heap.size < w3.heap.size := by omega
  have hm3w : w.heap.size ≤ w3.heap.size := by omega
  have hs3x1 : (w.heap.size + 1) < w3.heap.size := by omega
  have g3x0 : w3.cell? ⟨w.heap.size, 0, none⟩ = some (.int .i64 (y)) := (hc3 _ _ (by first | omega | (simp; done) | (simp; omega))).trans (by first | (with_reducible assumption) | (simp [go_sem]; done) | (simp [go_sem, *]; done) | assumption)
  have g3x1 : w3.cell? ⟨w.heap.size, 1, none⟩ = some (.int .i64 (n)) := (hc3 _ _ (by first | omega | (simp; done) | (simp; omega))).trans (by first | (with_reducible assumption) | (simp [go_sem]; done) | (simp [go_sem, *]; done) | assumption)
  have g3x2 : w3.cell? ⟨w.heap.size, 2, none⟩ = some (.bool (l)) := (hc3 _ _ (by first | omega | (simp; done) | (simp; omega))).trans (by first | (with_reducible assumption) | (simp [go_sem]; done) | (simp [go_sem, *]; done) | assumption)
  have g3x3 : w3.cell? ⟨w.heap.size, 3, none⟩ = some (.int .i64 (d)) := (hc3 _ _ (by first | omega | (simp; done) | (simp; omega))).trans (by first | (with_reducible assumption) | (simp [go_sem]; done) | (simp [go_sem, *]; done) | assumption)
  have g3x4 : w3.cell? ⟨(w.heap.size + 1), 0, none⟩ = some (.int .i64 (cy)) := (hc3 _ _ (by first | omega | (simp; done) | (simp; omega))).trans (by first | (with_reducible assumption) | (simp [go_sem]; done) | (simp [go_sem, *]; done) | assumption)
  have g3x5 : w3.cell? ⟨(w.heap.size + 1), 1, none⟩ = some (.int .i64 (cm)) := (hc3 _ _ (by first | omega | (simp; done) | (simp; omega))).trans (by first | (with_reducible assumption) | (simp [go_sem]; done) | (simp [go_sem, *]; done) | assumption)
  have g3x6 : w3.cell? ⟨(w.heap.size + 1), 2, none⟩ = some (.int .i64 (cd)) := (hc3 _ _ (by first | omega | (simp; done) | (simp; omega))).trans (by first | (with_reducible assumption) | (simp [go_sem]; done) | (simp [go_sem, *]; done) | assumption)
  go_wp2_with fail
  refine (HC2.out _).mono ?_
  rintro e w4 ⟨rfl, hb4⟩
  obtain ⟨hc4, hf4⟩ := bcell hb4
  have hz4 := hb4.size
  try simp at hz4
  have hl4w : w.heap.size < w4.heap.size := by omega
  have hm4w : w.heap.size ≤ w4.heap.size := by omega
  have hs4x1 : (w.heap.size + 1) < w4.heap.size := by omega
  have g4x0 : w4.cell? ⟨w.heap.size, 0, none⟩ = some (.int .i64 (y)) := (hc4 _ _ (by first | omega | (simp; done) | (simp; omega))).trans (by first | (with_reducible assumption) | (simp [go_sem]; done) | (simp [go_sem, *]; done) | assumption)
  have g4x1 : w4.cell? ⟨w.heap.size, 1, none⟩ = some (.int .i64 (n)) := (hc4 _ _ (by first | omega | (simp; done) | (simp; omega))).trans (by first | (with_reducible assumption) | (simp [go_sem]; done) | (simp [go_sem, *]; done) | assumption)
  have g4x2 : w4.cell? ⟨w.heap.size, 2, none⟩ = some (.bool (l)) := (hc4 _ _ (by first | omega | (simp; done) | (simp; omega))).trans (by first | (with_reducible assumption) | (simp [go_sem]; done) | (simp [go_sem, *]; done) | assumption)
  have g4x3 : w4.cell? ⟨w.heap.size, 3, none⟩ = some (.int .i64 (d)) := (hc4 _ _ (by first | omega | (simp; done) | (simp; omega))).trans (by first | (with_reducible assumption) | (simp [go_sem]; done) | (simp [go_sem, *]; done) | assumption)
  have g4x4 : w4.cell? ⟨(w.heap.size + 1), 0, none⟩ = some (.int .i64 (cy)) := (hc4 _ _ (by first | omega | (simp; done) | (simp; omega))).trans (by first | (with_reducible assumption) | (simp [go_sem]; done) | (simp [go_sem, *]; done) | assumption)
  have g4x5 : w4.cell? ⟨(w.heap.size + 1), 1, none⟩ = some (.int .i64 (cm)) := (hc4 _ _ (by first | omega | (simp; done) | (simp; omega))).trans (by first | (with_reducible assumption) | (simp [go_sem]; done) | (simp [go_sem, *]; done) | assumption)
  have g4x6 : w4.cell? ⟨(w.heap.size + 1), 2, none⟩ = some (.int .i64 (cd)) := (hc4 _ _ (by first | omega | (simp; done) | (simp; omega))).trans (by first | (with_reducible assumption) | (simp [go_sem]; done) | (simp [go_sem, *]; done) | assumption)
  go_wp2_with fail
  refine (HRS.out _ (Tab.below hT (by repeat (first | (with_reducible exact Below.refl _ _) | (with_reducible assumption) | (with_reducible refine bdrew ?_) | (with_reducible refine baa ?_ _) | (with_reducible refine bs ?_ (by first | exact Nat.le_refl _ | omega | (simp; done) | (simp; omega)) _) | (with_reducible refine bt ?_ (by with_reducible assumption))))) (Tab.below hL (by repeat (first | (with_reducible exact Below.refl _ _) | (with_reducible assumption) | (with_reducible refine bdrew ?_) | (with_reducible refine baa ?_ _) | (with_reducible refine bs ?_ (by first | exact Nat.le_refl _ | omega | (simp; done) | (simp; omega)) _) | (with_reducible refine bt ?_ (by with_reducible assumption))))) (MaxAt.below hm (by repeat (first | (with_reducible exact Below.refl _ _) | (with_reducible assumption) | (with_reducible refine bdrew ?_) | (with_reducible refine baa ?_ _) | (with_reducible refine bs ?_ (by first | exact Nat.le_refl _ | omega | (simp; done) | (simp; omega)) _) | (with_reducible refine bt ?_ (by with_reducible assumption)))))).mono ?_
  rintro e w5 ⟨rfl, hb5⟩
  obtain ⟨hc5, hf5⟩ := bcell hb5
  have hz5 := hb5.size
  try simp at hz5
  go_wp2_with fail
  refine (HR2.out _).mono ?_
  rintro e w6 ⟨rfl, hb6⟩
  obtain ⟨hc6, hf6⟩ := bcell hb6
  have hz6 := hb6.size
  try simp at hz6
  have hl6w5 : w5.heap.size < w6.heap.size := by omega
  have hm6w5 : w5.heap.size ≤ w6.heap.size := by omega
  have g6x0 : w6.cell? ⟨w5.heap.size, 0, none⟩ = some (.int .i64 (hy)) := (hc6 _ _ (by first | omega | (simp; done) | (simp; omega))).trans (by first | (with_reducible assumption) | (simp [go_sem]; done) | (simp [go_sem, *]; done) | assumption)
  have g6x1 : w6.cell? ⟨w5.heap.size, 1, none⟩ = some (.int .i64 (hn)) := (hc6 _ _ (by first | omega | (simp; done) | (simp; omega))).trans (by first | (with_reducible assumption) | (simp [go_sem]; done) | (simp [go_sem, *]; done) | assumption)
  have g6x2 : w6.cell? ⟨w5.heap.size, 2, none⟩ = some (.bool (hl)) := (hc6 _ _ (by first | omega | (simp; done) | (simp; omega))).trans (by first | (with_reducible assumption) | (simp [go_sem]; done) | (simp [go_sem, *]; done) | assumption)
  have g6x3 : w6.cell? ⟨w5.heap.size, 3, none⟩ = some (.int .i64 (hd)) := (hc6 _ _ (by first | omega | (simp; done) | (simp; omega))).trans (by first | (with_reducible assumption) | (simp [go_sem]; done) | (simp [go_sem, *]; done) | assumption)
  go_wp2_with fail
  refine (HRC.out _ (Tab.below hG (by repeat (first | (with_reducible exact Below.refl _ _) | (with_reducible assumption) | (with_reducible refine bdrew ?_) | (with_reducible refine baa ?_ _) | (with_reducible refine bs ?_ (by first | exact Nat.le_refl _ | omega | (simp; done) | (simp; omega)) _) | (with_reducible refine bt ?_ (by with_reducible assumption)))))).mono ?_
  rintro e w7 ⟨rfl, hb7⟩
  obtain ⟨hc7, hf7⟩ := bcell hb7
  have hz7 := hb7.size
  try simp at hz7
  have hl7w5 : w5.heap.size < w7.heap.size := by omega
  have hm7w5 : w5.heap.size ≤ w7.heap.size := by omega
  have hl7w6 : w6.heap.size < w7.heap.size := by omega
  have hm7w6 : w6.heap.size ≤ w7.heap.size := by omega
  have g7x0 : w7.cell? ⟨w5.heap.size, 0, none⟩ = some (.int .i64 (hy)) := (hc7 _ _ (by first | omega | (simp; done) | (simp; omega))).trans (by first | (with_reducible assumption) | (simp [go_sem]; done) | (simp [go_sem, *]; done) | assumption)
  have g7x1 : w7.cell? ⟨w5.heap.size, 1, none⟩ = some (.int .i64 (hn)) := (hc7 _ _ (by first | omega | (simp; done) | (simp; omega))).trans (by first | (with_reducible assumption) | (simp [go_sem]; done) | (simp [go_sem, *]; done) | assumption)
  have g7x2 : w7.cell? ⟨w5.heap.size, 2, none⟩ = some (.bool (hl)) := (hc7 _ _ (by first | omega | (simp; done) | (simp; omega))).trans (by first | (with_reducible assumption) | (simp [go_sem]; done) | (simp [go_sem, *]; done) | assumption)
  have g7x3 : w7.cell? ⟨w5.heap.size, 3, none⟩ = some (.int .i64 (hd)) := (hc7 _ _ (by first | omega | (simp; done) | (simp; omega))).trans (by first | (with_reducible assumption) | (simp [go_sem]; done) | (simp [go_sem, *]; done) | assumption)
  have g7x4 : w7.cell? ⟨w6.heap.size, 0, none⟩ = some (.int .i64 (hy)) := (hc7 _ _ (by first | omega | (simp; done) | (simp; omega))).trans (by first | (with_reducible assumption) | (simp [go_sem]; done) | (simp [go_sem, *]; done) | assumption)
  have g7x5 : w7.cell? ⟨w6.heap.size, 1, none⟩ = some (.int .i64 (hn)) := (hc7 _ _ (by first | omega | (simp; done) | (simp; omega))).trans (by first | (with_reducible assumption) | (simp [go_sem]; done) | (simp [go_sem, *]; done) | assumption)
  have g7x6 : w7.cell? ⟨w6.heap.size, 2, none⟩ = some (.bool (hl)) := (hc7 _ _ (by first | omega | (simp; done) | (simp; omega))).trans (by first | (with_reducible assumption) | (simp [go_sem]; done) | (simp [go_sem, *]; done) | assumption)
  have g7x7 : w7.cell? ⟨w6.heap.size, 3, none⟩ = some (.int .i64 (hd)) := (hc7 _ _ (by first | omega | (simp; done) | (simp; omega))).trans (by first | (with_reducible assumption) | (simp [go_sem]; done) | (simp [go_sem, *]; done) | assumption)
  go_wp2_with fail
  refine (HRC2.out _).mono ?_
  rintro e w8 ⟨rfl, hb8⟩
  obtain ⟨hc8, hf8⟩ := bcell hb8
  have hz8 := hb8.size
  try simp at hz8
  have hl8w5 : w5.heap.size < w8.heap.size := by omega
  have hm8w5 : w5.heap.size ≤ w8.heap.size := by omega
  have hl8w6 : w6.heap.size < w8.heap.size := by omega
  have hm8w6 : w6.heap.size ≤ w8.heap.size := by omega
  have hl8w7 : w7.heap.size < w8.heap.size := by omega
  have hm8w7 : w7.heap.size ≤ w8.heap.size := by omega
  have g8x0 : w8.cell? ⟨w5.heap.size, 0, none⟩ = some (.int .i64 (hy)) := (hc8 _ _ (by first | omega | (simp; done) | (simp; omega))).trans (by first | (with_reducible assumption) | (simp [go_sem]; done) | (simp [go_sem, *]; done) | assumption)
  have g8x1 : w8.cell? ⟨w5.heap.size, 1, none⟩ = some (.int .i64 (hn)) := (hc8 _ _ (by first | omega | (simp; done) | (simp; omega))).trans (by first | (with_reducible assumption) | (simp [go_sem]; done) | (simp [go_sem, *]; done) | assumption)
  have g8x2 : w8.cell? ⟨w5.heap.size, 2, none⟩ = some (.bool (hl)) := (hc8 _ _ (by first | omega | (simp; done) | (simp; omega))).trans (by first | (with_reducible assumption) | (simp [go_sem]; done) | (simp [go_sem, *]; done) | assumption)
  have g8x3 : w8.cell? ⟨w5.heap.size, 3, none⟩ = some (.int .i64 (hd)) := (hc8 _ _ (by first | omega | (simp; done) | (simp; omega))).trans (by first | (with_reducible assumption) | (simp [go_sem]; done) | (simp [go_sem, *]; done) | assumption)
  have g8x4 : w8.cell? ⟨w6.heap.size, 0, none⟩ = some (.int .i64 (hy)) := (hc8 _ _ (by first | omega | (simp; done) | (simp; omega))).trans (by first | (with_reducible assumption) | (simp [go_sem]; done) | (simp [go_sem, *]; done) | assumption)
  have g8x5 : w8.cell? ⟨w6.heap.size, 1, none⟩ = some (.int .i64 (hn)) := (hc8 _ _ (by first | omega | (simp; done) | (simp; omega))).trans (by first | (with_reducible assumption) | (simp [go_sem]; done) | (simp [go_sem, *]; done) | assumption)
  have g8x6 : w8.cell? ⟨w6.heap.size, 2, none⟩ = some (.bool (hl)) := (hc8 _ _ (by first | omega | (simp; done) | (simp; omega))).trans (by first | (with_reducible assumption) | (simp [go_sem]; done) | (simp [go_sem, *]; done) | assumption)
  have g8x7 : w8.cell? ⟨w6.heap.size, 3, none⟩ = some (.int .i64 (hd)) := (hc8 _ _ (by first | omega | (simp; done) | (simp; omega))).trans (by first | (with_reducible assumption) | (simp [go_sem]; done) | (simp [go_sem, *]; done) | assumption)
  have g8x8 : w8.cell? ⟨w7.heap.size, 0, none⟩ = some (.int .i64 (gy)) := (hc8 _ _ (by first | omega | (simp; done) | (simp; omega))).trans (by first | (with_reducible assumption) | (simp [go_sem]; done) | (simp [go_sem, *]; done) | assumption)
  have g8x9 : w8.cell? ⟨w7.heap.size, 1, none⟩ = some (.int .i64 (gm)) := (hc8 _ _ (by first | omega | (simp; done) | (simp; omega))).trans (by first | (with_reducible assumption) | (simp [go_sem]; done) | (simp [go_sem, *]; done) | assumption)
  have g8x10 : w8.cell? ⟨w7.heap.size, 2, none⟩ = some (.int .i64 (gd)) := (hc8 _ _ (by first | omega | (simp; done) | (simp; omega))).trans (by first | (with_reducible assumption) | (simp [go_sem]; done) | (simp [go_sem, *]; done) | assumption)
  go_wp2_with fail
  refine (HW.out _ (Tab.below hT (by repeat (first | (with_reducible exact Below.refl _ _) | (with_reducible assumption) | (with_reducible refine bdrew ?_) | (with_reducible refine baa ?_ _) | (with_reducible refine bs ?_ (by first | exact Nat.le_refl _ | omega | (simp; done) | (simp; omega)) _) | (with_reducible refine bt ?_ (by with_reducible assumption))))) (Tab.below hL (by repeat (first | (with_reducible exact Below.refl _ _) | (with_reducible assumption) | (with_reducible refine bdrew ?_) | (with_reducible refine baa ?_ _) | (with_reducible refine bs ?_ (by first | exact Nat.le_refl _ | omega | (simp; done) | (simp; omega)) _) | (with_reducible refine bt ?_ (by with_reducible assumption))))) (Tab.below hP (by repeat (first | (with_reducible exact Below.refl _ _) | (with_reducible assumption) | (with_reducible refine bdrew ?_) | (with_reducible refine baa ?_ _) | (with_reducible refine bs ?_ (by first | exact Nat.le_refl _ | omega | (simp; done) | (simp; omega)) _) | (with_reducible refine bt ?_ (by with_reducible assumption))))) (Tab.below hG (by repeat (first | (with_reducible exact Below.refl _ _) | (with_reducible assumption) | (with_reducible refine bdrew ?_) | (with_reducible refine baa ?_ _) | (with_reducible refine bs ?_ (by first | exact Nat.le_refl _ | omega | (simp; done) | (simp; omega)) _) | (with_reducible refine bt ?_ (by with_reducible assumption))))) (MaxAt.below hm (by repeat (first | (with_reducible exact Below.refl _ _) | (with_reducible assumption) | (with_reducible refine bdrew ?_) | (with_reducible refine baa ?_ _) | (with_reducible refine bs ?_ (by first | exact Nat.le_refl _ | omega | (simp; done) | (simp; omega)) _) | (with_reducible refine bt ?_ (by with_reducible assumption)))))).mono ?_
  rintro e w9 ⟨rfl, hb9⟩
  obtain ⟨hc9, hf9⟩ := bcell hb9
  have hz9 := hb9.size
  try simp at hz9
  have hl9w5 : w5.heap.size < w9.heap.size := by omega
  have hm9w5 : w5.heap.size ≤ w9.heap.size := by omega
  have hl9w6 : w6.heap.size < w9.heap.size := by omega
  have hm9w6 : w6.heap.size ≤ w9.heap.size := by omega
  have hl9w7 : w7.heap.size < w9.heap.size := by omega
  have hm9w7 : w7.heap.size ≤ w9.heap.size := by omega
  have hl9w8 : w8.heap.size < w9.heap.size := by omega
  have hm9w8 : w8.heap.size ≤ w9.heap.size := by omega
  have g9x0 : w9.cell? ⟨w5.heap.size, 0, none⟩ = some (.int .i64 (hy)) := (hc9 _ _ (by first | omega | (simp; done) | (simp; omega))).trans (by first | (with_reducible assumption) | (simp [go_sem]; done) | (simp [go_sem, *]; done) | assumption)
  have g9x1 : w9.cell? ⟨w5.heap.size, 1, none⟩ = some (.int .i64 (hn)) := (hc9 _ _ (by first | omega | (simp; done) | (simp; omega))).trans (by first | (with_reducible assumption) | (simp [go_sem]; done) | (simp [go_sem, *]; done) | assumption)
  have g9x2 : w9.cell? ⟨w5.heap.size, 2, none⟩ = some (.bool (hl)) := (hc9 _ _ (by first | omega | (simp; done) | (simp; omega))).trans (by first | (with_reducible assumption) | (simp [go_sem]; done) | (simp [go_sem, *]; done) | assumption)
  have g9x3 : w9.cell? ⟨w5.heap.size, 3, none⟩ = some (.int .i64 (hd)) := (hc9 _ _ (by first | omega | (simp; done) | (simp; omega))).trans (by first | (with_reducible assumption) | (simp [go_sem]; done) | (simp [go_sem, *]; done) | assumption)
  have g9x4 : w9.cell? ⟨w6.heap.size, 0, none⟩ = some (.int .i64 (hy)) := (hc9 _ _ (by first | omega | (simp; done) | (simp; omega))).trans (by first | (with_reducible assumption) | (simp [go_sem]; done) | (simp [go_sem, *]; done) | assumption)
  have g9x5 : w9.cell? ⟨w6.heap.size, 1, none⟩ = some (.int .i64 (hn)) := (hc9 _ _ (by first | omega | (simp; done) | (simp; omega))).trans (by first | (with_reducible assumption) | (simp [go_sem]; done) | (simp [go_sem, *]; done) | assumption)
  have g9x6 : w9.cell? ⟨w6.heap.size, 2, none⟩ = some (.bool (hl)) := (hc9 _ _ (by first | omega | (simp; done) | (simp; omega))).trans (by first | (with_reducible assumption) | (simp [go_sem]; done) | (simp [go_sem, *]; done) | assumption)
  have g9x7 : w9.cell? ⟨w6.heap.size, 3, none⟩ = some (.int .i64 (hd)) := (hc9 _ _ (by first | omega | (simp; done) | (simp; omega))).trans (by first | (with_reducible assumption) | (simp [go_sem]; done) | (simp [go_sem, *]; done) | assumption)
  have g9x8 : w9.cell? ⟨w7.heap.size, 0, none⟩ = some (.int .i64 (gy)) := (hc9 _ _ (by first | omega | (simp; done) | (simp; omega))).trans (by first | (with_reducible assumption) | (simp [go_sem]; done) | (simp [go_sem, *]; done) | assumption)
  have g9x9 : w9.cell? ⟨w7.heap.size, 1, none⟩ = some (.int .i64 (gm)) := (hc9 _ _ (by first | omega | (simp; done) | (simp; omega))).trans (by first | (with_reducible assumption) | (simp [go_sem]; done) | (simp [go_sem, *]; done) | assumption)
  have g9x10 : w9.cell? ⟨w7.heap.size, 2, none⟩ = some (.int .i64 (gd)) := (hc9 _ _ (by first | omega | (simp; done) | (simp; omega))).trans (by first | (with_reducible assumption) | (simp [go_sem]; done) | (simp [go_sem, *]; done) | assumption)
  have g9x11 : w9.cell? ⟨w8.heap.size, 0, none⟩ = some (.int .i64 (gy)) := (hc9 _ _ (by first | omega | (simp; done) | (simp; omega))).trans (by first | (with_reducible assumption) | (simp [go_sem]; done) | (simp [go_sem, *]; done) | assumption)
  have g9x12 : w9.cell? ⟨w8.heap.size, 1, none⟩ = some (.int .i64 (gm)) := (hc9 _ _ (by first | omega | (simp; done) | (simp; omega))).trans (by first | (with_reducible assumption) | (simp [go_sem]; done) | (simp [go_sem, *]; done) | assumption)
  have g9x13 : w9.cell? ⟨w8.heap.size, 2, none⟩ = some (.int .i64 (gd)) := (hc9 _ _ (by first | omega | (simp; done) | (simp; omega))).trans (by first | (with_reducible assumption) | (simp [go_sem]; done) | (simp [go_sem, *]; done) | assumption)
  go_wp2_with fail
  go_ret
  refine ⟨by first | rfl | (simp [*]; done), ?_⟩
  repeat (first | (with_reducible exact Below.refl _ _) | (with_reducible assumption) | (with_reducible refine bdrew ?_) | (with_reducible refine baa ?_ _) | (with_reducible refine bs ?_ (by first | exact Nat.le_refl _ | omega | (simp; done) | (simp; omega)) _) | (with_reducible refine bt ?_ (by with_reducible assumption)))
end Go.Proofs.YtafenpgafmdenaaGreatDoor
