/- Layer 20: the document's moved days. -/
import Derived.Test.YtagmdglmflcegaaDoorFaM
import Derived.Test.YtagmdglmflcegaaDoorTail
import Derived.Test.YtagmdglmflcegaaDoorFlat
namespace Go.Proofs.YtagmdglmflcegaaDoor
open Go.ChangeShapes Go.WideShapes Go.ChangeAt Go.RowKit Go.Lib Go.Sort Go.Shelf
set_option linter.unusedVariables false
set_option maxRecDepth 100000
theorem evs_at (W : World) (l : List (Int × Int)) (t : TypeId) : ∀ j u, (Ev.flat l)[j]? = some u → (W.alloc (.cells (Ev.flat l).toArray t)).cell? ⟨W.heap.size, 0 + j, none⟩ = some u := fun j u h => by
  rw [Nat.zero_add]
  refine (World.cell?_alloc_mark W _ _ _ j).trans ?_
  simpa using h
set_option maxHeartbeats 4000000 in
theorem ref20_at (kd y n d : Int) (w : World) (hy : I64 y) (hb : -2000000 ≤ D10.dayV y n false d ∧ D10.dayV y n false d ≤ 3000000) :
    Calls Tryd.prog 59 #[.int .i64 kd, .int .i64 y, .int .i64 n, .int .i64 d] w fun e w' => e = .returned (.agg #[.int .i64 kd, .int .i64 (D10.dayV y n false d + Fa.mvd kd (D10.dayV y n false d % 7))]) ∧ Below w.heap.size w w' := by
  have HDy := Lib.hid (fun w => ref19_Day y n d w hy)
  generalize D10.dayV y n false d = D at *
  have HWd := Lib.hid (fun x => ref4_Weekday D x)
  have HMv := Lib.hid (fun x => ref20_Moved kd (D % 7) x)
  have hm := Fa.mvd_bd kd (D % 7)
  generalize Fa.mvd kd (D % 7) = M at *
  obtain ⟨hm1, hm2⟩ := hm
  obtain ⟨hd1, hd2⟩ := hb
  go_enter Tryd.func59, Tryd.ntmps59
  go_wp2_with fail
  refine (HDy.out _).mono ?_
  rintro e w2 ⟨rfl, hb2⟩
  obtain ⟨hc2, hf2⟩ := bcell hb2
  have hz2 := hb2.size
  try simp at hz2
  have hl2w : w.heap.size < w2.heap.size := by omega
  have hm2w : w.heap.size ≤ w2.heap.size := by omega
  have g2x0 : w2.cell? ⟨w.heap.size, 0, none⟩ = some (.int .i64 0) := (hc2 _ _ (by first | omega | (simp; done) | (simp; omega))).trans (by first | (with_reducible assumption) | (simp [go_sem]; done) | (simp [go_sem, *]; done) | assumption)
  have g2x1 : w2.cell? ⟨w.heap.size, 1, none⟩ = some (.int .i64 0) := (hc2 _ _ (by first | omega | (simp; done) | (simp; omega))).trans (by first | (with_reducible assumption) | (simp [go_sem]; done) | (simp [go_sem, *]; done) | assumption)
  go_wp2_with fail
  refine (HWd.out _).mono ?_
  rintro e w' ⟨rfl, rfl⟩
  go_wp2_with fail
  refine (HMv.out _).mono ?_
  rintro e w' ⟨rfl, rfl⟩
  go_wp2_with fail
  refine bodyPost_ret (v := .agg #[.int .i64 kd, .int .i64 (D + M)]) (by simp [results, Tryd.results59, go_sem, g2x0, g2x1]) rfl ⟨rfl, ?_⟩
  repeat (first | exact Below.refl _ _ | assumption | (with_reducible refine bdrew ?_) | (with_reducible refine baa ?_ _) | (with_reducible refine bs ?_ (by first | exact Nat.le_refl _ | omega | (simp; done) | (simp; omega)) _) | (with_reducible refine bt ?_ (by assumption)))
set_option maxHeartbeats 8000000 in
theorem ref20_Of_go (y E2 E10 E13 E16 E19 E21 E24 E26 E27 : Int) (w : World) (hy1 : 1 ≤ y) (hy2 : y ≤ 9999) (hE : -2000002 ≤ E21 ∧ E21 ≤ 3000001)
    (HA2 : Hid (∀ x : World, Calls Tryd.prog 59 #[.int .i64 2, .int .i64 y, .int .i64 1, .int .i64 3] x fun e w' => e = .returned (.agg #[.int .i64 2, .int .i64 E2]) ∧ Below x.heap.size x w'))
    (HA10 : Hid (∀ x : World, Calls Tryd.prog 59 #[.int .i64 10, .int .i64 y, .int .i64 4, .int .i64 10] x fun e w' => e = .returned (.agg #[.int .i64 10, .int .i64 E10]) ∧ Below x.heap.size x w'))
    (HA13 : Hid (∀ x : World, Calls Tryd.prog 59 #[.int .i64 13, .int .i64 y, .int .i64 6, .int .i64 13] x fun e w' => e = .returned (.agg #[.int .i64 13, .int .i64 E13]) ∧ Below x.heap.size x w'))
    (HA16 : Hid (∀ x : World, Calls Tryd.prog 59 #[.int .i64 16, .int .i64 y, .int .i64 7, .int .i64 14] x fun e w' => e = .returned (.agg #[.int .i64 16, .int .i64 E16]) ∧ Below x.heap.size x w'))
    (HA19 : Hid (∀ x : World, Calls Tryd.prog 59 #[.int .i64 19, .int .i64 y, .int .i64 7, .int .i64 27] x fun e w' => e = .returned (.agg #[.int .i64 19, .int .i64 E19]) ∧ Below x.heap.size x w'))
    (HA21 : Hid (∀ x : World, Calls Tryd.prog 59 #[.int .i64 21, .int .i64 y, .int .i64 8, .int .i64 5] x fun e w' => e = .returned (.agg #[.int .i64 21, .int .i64 E21]) ∧ Below x.heap.size x w'))
    (HA24 : Hid (∀ x : World, Calls Tryd.prog 59 #[.int .i64 24, .int .i64 y, .int .i64 8, .int .i64 28] x fun e w' => e = .returned (.agg #[.int .i64 24, .int .i64 E24]) ∧ Below x.heap.size x w'))
    (HA26 : Hid (∀ x : World, Calls Tryd.prog 59 #[.int .i64 26, .int .i64 y, .int .i64 10, .int .i64 17] x fun e w' => e = .returned (.agg #[.int .i64 26, .int .i64 E26]) ∧ Below x.heap.size x w'))
    (HA27 : Hid (∀ x : World, Calls Tryd.prog 59 #[.int .i64 27, .int .i64 y, .int .i64 11, .int .i64 9] x fun e w' => e = .returned (.agg #[.int .i64 27, .int .i64 E27]) ∧ Below x.heap.size x w')) :
    Calls Tryd.prog 24 #[.int .i64 y] w fun e w' => ∃ v, e = .returned (.tuple #[v, .int .i64 0]) ∧ Ev.Own w' w.heap.size v (Ev.sort [(2, E2), (10, E10), (13, E13), (16, E16), (19, E19), (20, E21 - 1), (21, E21), (24, E24), (26, E26), (27, E27)]) ∧ Below w.heap.size w w' := by
  have HRi := Lib.hid (fun w => ref7_Right y w ⟨by omega, by omega⟩)
  rw [Cal.yearIn_yes y hy1 hy2] at HRi
  go_enter Tryd.func24, Tryd.ntmps24
  go_wp2_with fail
  refine (HRi.out _).mono ?_
  rintro e w' ⟨rfl, rfl⟩
  go_wp2_with fail
  refine (HA21.out _).mono ?_
  rintro e w1 ⟨rfl, hb1⟩
  go_wp2_with fail
  refine settle (fun W => W.cell? ⟨w1.heap.size, 0, none⟩ = some (.int .i64 21) ∧ W.cell? ⟨w1.heap.size, 1, none⟩ = some (.int .i64 E21) ∧ w1.heap.size < W.heap.size ∧ Below w.heap.size w W) ⟨?_, ?_, ?_, ?_⟩ ?_
  · (first | (with_reducible assumption) | (simp [go_sem, *]; done) | assumption)
  · (first | (with_reducible assumption) | (simp [go_sem, *]; done) | assumption)
  · (first | assumption | (simp; done) | (simp; omega) | omega)
  · (repeat (first | exact Below.refl _ _ | assumption | (with_reducible refine bdrew ?_) | (with_reducible refine baa ?_ _) | (with_reducible refine bs ?_ (by first | exact Nat.le_refl _ | omega | (simp; done) | (simp; omega)) _) | (with_reducible refine bt ?_ (by assumption))))
  rintro W3 ⟨r3x0, r3x1, rs3x0, hB3⟩
  refine wp_region_tail 21 (by kernel_rfl) (by kernel_rfl) (fun hall => ?_)
  simp only [List.take_succ_cons, List.take_zero, List.drop_succ_cons, List.drop_zero]
  repeat (first | go_big_quiet_skip | (go_big_quiet_want; first | (refine quiet_load1 _ _ _ rfl rfl ?_ ?_ ?_; (focus (intro _; simp; done)); (focus (first | assumption | omega | (simp; done) | (simp; omega))); apply Exists.intro; refine ⟨?_, ?_⟩; assumption; go_simp; go_big_quiet_on) | (refine quiet_load2 _ _ _ _ rfl rfl ?_ ?_ ?_ ?_; (focus (intro _; simp; done)); (focus (intro _; simp; done)); (focus (first | assumption | omega | (simp; done) | (simp; omega))); apply Exists.intro; apply Exists.intro; refine ⟨?_, ?_, ?_⟩; assumption; assumption; go_simp; go_big_quiet_on) | (refine quiet_load3 _ _ _ _ rfl rfl ?_ ?_ ?_ ?_; (focus (intro _; simp; done)); (focus (intro _; simp; done)); (focus (first | assumption | omega | (simp; done) | (simp; omega))); apply Exists.intro; apply Exists.intro; apply Exists.intro; refine ⟨?_, ?_, ?_, ?_⟩; assumption; assumption; assumption; go_simp; go_big_quiet_on) | (refine quiet_load4 _ _ _ _ rfl rfl ?_ ?_ ?_ ?_; (focus (intro _; simp; done)); (focus (intro _; simp; done)); (focus (first | assumption | omega | (simp; done) | (simp; omega))); apply Exists.intro; apply Exists.intro; apply Exists.intro; apply Exists.intro; refine ⟨?_, ?_, ?_, ?_, ?_⟩; assumption; assumption; assumption; assumption; go_simp; go_big_quiet_on) | (go_big_quiet_op; first | go_big_quiet_on | (apply Exists.intro; refine ⟨fun x hx => ?_, ?_⟩; (first | (with_reducible exact call_below hx (HA2.out x)) | (with_reducible exact call_below hx (HA10.out x)) | (with_reducible exact call_below hx (HA13.out x)) | (with_reducible exact call_below hx (HA16.out x)) | (with_reducible exact call_below hx (HA19.out x)) | (with_reducible exact call_below hx (HA21.out x)) | (with_reducible exact call_below hx (HA24.out x)) | (with_reducible exact call_below hx (HA26.out x)) | (with_reducible exact call_below hx (HA27.out x)) | exact call_below hx (HA2.out x) | exact call_below hx (HA10.out x) | exact call_below hx (HA13.out x) | exact call_below hx (HA16.out x) | exact call_below hx (HA19.out x) | exact call_below hx (HA21.out x) | exact call_below hx (HA24.out x) | exact call_below hx (HA26.out x) | exact call_below hx (HA27.out x)); go_big_quiet_on))))
  refine wpQuiet_nil ?_
  clear hall
  intro x4 hx4
  go_wp2_with fail
  refine (ref19_Sort _ [(2, E2), (10, E10), (13, E13), (16, E16), (19, E19), (20, E21 - 1), (21, E21), (24, E24), (26, E26), (27, E27)] _ (.inr ⟨x4.heap.size, 0, 10, rfl, evs_at x4 [(2, E2), (10, E10), (13, E13), (16, E16), (19, E19), (20, E21 - 1), (21, E21), (24, E24), (26, E26), (27, E27)] _⟩) (by simp)).mono ?_
  rintro e w9 ⟨v9, rfl, ho9, hb9⟩
  go_wp2_with fail
  have hB4 : Below w.heap.size w x4 := by repeat (first | (with_reducible exact Below.refl _ _) | (with_reducible assumption) | (with_reducible refine bdrew ?_) | (with_reducible refine baa ?_ _) | (with_reducible refine bs ?_ (by first | exact Nat.le_refl _ | omega | (simp; done) | (simp; omega)) _) | (with_reducible refine bt ?_ (by with_reducible assumption)))
  have hs4 := hB4.size
  go_ret2
  exact ⟨_, rfl, ho9.base (by simp; omega), bt (baa hB4 _) hb9⟩
end Go.Proofs.YtagmdglmflcegaaDoor
