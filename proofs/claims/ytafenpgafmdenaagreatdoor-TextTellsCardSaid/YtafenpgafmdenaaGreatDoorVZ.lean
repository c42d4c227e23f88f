/- Merged: Ref13g, Ref13h, Ref13m, W13z. -/
import Derived.Test.YtafenpgafmdenaaGreatDoorTB
import Derived.Test.YtafenpgafmdenaaGreatDoorVC
import Derived.LoopTactic
import Derived.Outline
import Derived.Laws.IdiomStrings
import Derived.Test.YtafenpgafmdenaaGreatDoorRef13
import Derived.Test.YtafenpgafmdenaaGreatDoorHebR
import Derived.RegionTactic
import Derived.Test.YtafenpgafmdenaaGreatDoorRef13r
import Derived.Test.YtafenpgafmdenaaGreatDoorVR
/- Layer 13: the document's great letters. -/
namespace Go.Proofs.YtafenpgafmdenaaGreatDoor
open Go.ChangeShapes Go.WideShapes Go.ChangeAt Go.RowKit
set_option linter.unusedVariables false
set_option maxRecDepth 100000
set_option maxHeartbeats 4000000 in
theorem ref13_great (s : ByteArray) (hs : s.size ≤ 1000000) (w : World) :
    Calls Tryz.prog 49 #[.string s] w fun e w' => e = .returned (.string (great s)) ∧ Below w.heap.size w w' := by
  obtain ⟨c, w1, hcv, H1, H2, hz1, hB1⟩ : ∃ (c : Nat) (w1 : World), (convert 9 105 (.string s)).run Tryz.prog w = .ok (.slice (some ⟨w.heap.size, 0, none⟩) s.size c) w1 ∧ Hid (∀ j, j < s.size → w1.cell? ⟨w.heap.size, j, none⟩ = some (.int .u8 ((if j < 0 then D13.g (s.data.toList.getD j 0) else s.data.toList.getD j 0).toNat : Int))) ∧ Hid (∀ j, j < s.size → w1.frozen? ⟨w.heap.size, j, none⟩ = false) ∧ w.heap.size < w1.heap.size ∧ Below w.heap.size w w1 := by
    refine ⟨_, _, run_bytes_of_string w 9 105 5 s Tryz.underlying9 Tryz.underlying105 Tryz.underlying5, Lib.hid ?_, Lib.hid ?_, ?_, ?_⟩
    · intro j hj
      rw [if_neg (by omega)]
      refine (World.cell?_alloc_mark w.drew _ 5 _ j).trans ?_
      rw [bytesRow_at s _ j hj]
      have : s.data.toList.getD j 0 = s.data[j] := by
        show (s.data.toList[j]?).getD 0 = _
        rw [List.getElem?_eq_getElem (by simpa using hj)]
        simp
      rw [this]
    · intro j hj
      refine (World.frozen?_alloc_mark w.drew _ 5 _ _ j).trans ?_
      have : s.size ≤ (bytesRow s (grownCap w s.size 0 5)).size := by unfold bytesRow; first | (simp; done) | (simp; exact Nat.le_add_right _ _)
      rw [decide_eq_false (by omega)]; rfl
    · show _ < (w.heap.push _).size
      simp
    · exact baa (bdrew (Below.refl _ _)) _
  go_enter Tryz.func49, Tryz.ntmps49
  go_wp2_with fail
  clear hcv
  go_loopw [4] (fun i wr => ∃ k : Nat, k ≤ s.size ∧ i = .int .i64 k ∧ Hid (∀ j, j < s.size → wr.cell? ⟨w.heap.size, j, none⟩ = some (.int .u8 ((if j < k then D13.g (s.data.toList.getD j 0) else s.data.toList.getD j 0).toNat : Int))) ∧ Hid (∀ j, j < s.size → wr.frozen? ⟨w.heap.size, j, none⟩ = false) ∧ w.heap.size < wr.heap.size ∧ Below w.heap.size w wr) (fun i _ => s.size - (intOf i).toNat)
  case atStart => exact ⟨0, Nat.zero_le _, rfl, H1, H2, hz1, hB1⟩
  case round =>
    obtain ⟨k, hk, rfl, HC, HF, hz, hB⟩ := hrel
    clear H1 H2 hz1 hB1
    by_cases hlt : k < s.size
    · have k1 : (k : Int) < (s.size : Int) := by omega
      have f0 := HF.out k hlt
      have c0 := HC.out k hlt
      rw [if_neg (by omega)] at c0
      obtain ⟨x, HX⟩ : ∃ x, Hid (x = s.data.toList.getD k 0) := ⟨_, Lib.hid rfl⟩
      rw [← HX.out] at c0
      by_cases x1 : (x.toNat : Int) = 109
      · rw [x1] at c0
        have HG : Hid (((D13.g x).toNat : Int) = 77) := Lib.hid (by
          have : x = 109 := by rw [← UInt8.toNat_inj]; show _ = 109; omega
          subst this; decide)
        clear x1
        go_wp2_with fail
        go_roundw
        case rel =>
          refine ⟨k + 1, by omega, by go_num, Lib.hid (fun j hj => ?_), Lib.hid (fun j hj => ?_), by simpa [World.setCell] using hz, bs hB (Nat.le_refl _) _⟩
          · by_cases e : j = k
            · subst e
              rw [World.cell?_setCell_same _ _ _ c0, if_pos (by omega), ← HX.out]
              exact congrArg some (by rw [HG.out])
            · rw [World.cell?_setCell_other _ _ _ _ (fun q => e (by have := congrArg Addr.off q; first | exact this | exact this.symm)), HC.out j hj]
              by_cases q : j < k
              · rw [if_pos q, if_pos (by omega)]
              · rw [if_neg q, if_neg (by omega)]
          · first | (rw [World.frozen?_setCell]; exact HF.out j hj) | (simp [go_sem]; exact HF.out j hj) | (simp [go_sem, HF.out j hj]; done)
        case measure => simp [intOf]; omega
      by_cases x2 : (x.toNat : Int) = 108
      · rw [x2] at c0
        have HG : Hid (((D13.g x).toNat : Int) = 76) := Lib.hid (by
          have : x = 108 := by rw [← UInt8.toNat_inj]; show _ = 108; omega
          subst this; decide)
        clear x1 x2
        go_wp2_with fail
        go_roundw
        case rel =>
          refine ⟨k + 1, by omega, by go_num, Lib.hid (fun j hj => ?_), Lib.hid (fun j hj => ?_), by simpa [World.setCell] using hz, bs hB (Nat.le_refl _) _⟩
          · by_cases e : j = k
            · subst e
              rw [World.cell?_setCell_same _ _ _ c0, if_pos (by omega), ← HX.out]
              exact congrArg some (by rw [HG.out])
            · rw [World.cell?_setCell_other _ _ _ _ (fun q => e (by have := congrArg Addr.off q; first | exact this | exact this.symm)), HC.out j hj]
              by_cases q : j < k
              · rw [if_pos q, if_pos (by omega)]
              · rw [if_neg q, if_neg (by omega)]
          · first | (rw [World.frozen?_setCell]; exact HF.out j hj) | (simp [go_sem]; exact HF.out j hj) | (simp [go_sem, HF.out j hj]; done)
        case measure => simp [intOf]; omega
      have HG : Hid (D13.g x = x) := Lib.hid (D13.g_same (fun e => x2 (by rw [e]; rfl)) (fun e => x1 (by rw [e]; rfl)))
      have y1 : ((x.toNat : Int) == 109) = false := by simpa using x1
      have y2 : ((x.toNat : Int) == 108) = false := by simpa using x2
      clear x1 x2
      go_wp2_with fail
      go_roundw
      case rel =>
        refine ⟨k + 1, by omega, by go_num, Lib.hid (fun j hj => ?_), HF, hz, hB⟩
        rw [HC.out j hj]
        by_cases e : j = k
        · subst e
          rw [if_neg (by omega), if_pos (by omega), ← HX.out, HG.out]
        · by_cases q : j < k
          · rw [if_pos q, if_pos (by omega)]
          · rw [if_neg q, if_neg (by omega)]
      case measure => simp [intOf]; omega
    · obtain rfl : k = s.size := by omega
      have hl : s.data.toList.length = s.size := by simp
      have kc := run_convert_bytes_arg (P := Tryz.prog) wr 105 5 Tryz.underlying105 Tryz.underlying5 w.heap.size 0 s.size c ((s.data.toList.map D13.g).map (fun b => (b.toNat : Int))) (by simp) (by
        intro i hi
        rw [Nat.zero_add, HC.out i hi, if_pos hi]
        congr 2
        simp [List.getD, hi]) 9 Tryz.underlying9
      have HE : Hid (strOfNums ((s.data.toList.map D13.g).map (fun b => (b.toNat : Int))) = great s) := Lib.hid (by
        apply D13.ext
        rw [strOfNums_data, D13.great_list]
        simp [Function.comp_def])
      generalize strOfNums ((s.data.toList.map D13.g).map (fun b => (b.toNat : Int))) = res at *
      clear hl
      obtain rfl : res = great s := HE.out
      go_wp2_with fail
      go_ret
      exact ⟨rfl, hB⟩
end Go.Proofs.YtafenpgafmdenaaGreatDoor
/- Layer 13: the document's texts of dates. -/
namespace Go.Proofs.YtafenpgafmdenaaGreatDoor
open Go.ChangeShapes Go.WideShapes Go.ChangeAt Go.RowKit
set_option linter.unusedVariables false
set_option maxRecDepth 100000
set_option maxHeartbeats 2000000 in
theorem ref13_Heb_err (y n : Int) (l : Bool) (d : Int) (w : World) (hy : I64 y) (h0 : ¬ D10.dateE y n l d = 0) :
    Calls Tryz.prog 12 #[.agg #[.int .i64 (y), .int .i64 (n), .bool (l), .int .i64 (d)]] w fun e w' => e = .returned (.tuple #[.string ByteArray.empty, .int .i64 (D10.dateE y n l d)]) ∧ Below w.heap.size w w' := by
  have HC := Lib.hid (fun w => ref10_Check y n l d w hy)
  have h1 : (D10.dateE y n l d != 0) = true := by simpa using h0
  clear h0
  generalize D10.dateE y n l d = de at *
  go_enter Tryz.func12, Tryz.ntmps12
  go_wp2_with fail
  refine (HC.out _).mono ?_
  rintro e w1 ⟨rfl, hb1⟩
  obtain ⟨hc1, hf1⟩ := bcell hb1
  have hz1 := hb1.size
  try simp at hz1
  have hs1x0 : w.heap.size < w1.heap.size := by omega
  have g1x0 : w1.cell? ⟨w.heap.size, 0, none⟩ = some (.int .i64 (y)) := (hc1 _ _ (by first | omega | (simp; done) | (simp; omega))).trans (by first | (with_reducible assumption) | (simp [go_sem]; done) | (simp [go_sem, *]; done) | assumption)
  have g1x1 : w1.cell? ⟨w.heap.size, 1, none⟩ = some (.int .i64 (n)) := (hc1 _ _ (by first | omega | (simp; done) | (simp; omega))).trans (by first | (with_reducible assumption) | (simp [go_sem]; done) | (simp [go_sem, *]; done) | assumption)
  have g1x2 : w1.cell? ⟨w.heap.size, 2, none⟩ = some (.bool (l)) := (hc1 _ _ (by first | omega | (simp; done) | (simp; omega))).trans (by first | (with_reducible assumption) | (simp [go_sem]; done) | (simp [go_sem, *]; done) | assumption)
  have g1x3 : w1.cell? ⟨w.heap.size, 3, none⟩ = some (.int .i64 (d)) := (hc1 _ _ (by first | omega | (simp; done) | (simp; omega))).trans (by first | (with_reducible assumption) | (simp [go_sem]; done) | (simp [go_sem, *]; done) | assumption)
  go_wp2_with fail
  go_ret2
  refine ⟨rfl, ?_⟩
  repeat (first | (with_reducible exact Below.refl _ _) | (with_reducible assumption) | (with_reducible refine bdrew ?_) | (with_reducible refine baa ?_ _) | (with_reducible refine bs ?_ (by first | exact Nat.le_refl _ | omega | (simp; done) | (simp; omega)) _) | (with_reducible refine bt ?_ (by with_reducible assumption)))
set_option maxHeartbeats 4000000 in
theorem ref13_Heb_ok (y n : Int) (l : Bool) (d : Int) (w : World) (hy : I64 y) (h0 : D10.dateE y n l d = 0) :
    Calls Tryz.prog 12 #[.agg #[.int .i64 (y), .int .i64 (n), .bool (l), .int .i64 (d)]] w fun e w' => e = .returned (.tuple #[.string (hebTxt y n l d), .int .i64 0]) ∧ Below w.heap.size w w' := by
  have HC := Lib.hid (fun w => ref10_Check y n l d w hy)
  obtain ⟨hv, hp⟩ := D10.date_valid h0
  obtain ⟨y1, y2, m1, m2, d1, d2⟩ := hv
  have db := D10.len_bd y _ y1 y2 m1 m2
  have HM := Lib.hid (fun w => ref9_Text_any n l w)
  have HY := Lib.hid (fun w => ref13_digits_4 y (by omega) (by omega) w)
  have HD := Lib.hid (fun w => ref13_digits_2 d (by omega) (by omega) w)
  rw [h0] at HC
  have sz : (txtV n l).size ≤ 4 := by unfold txtV codeTxt; split; split; all_goals (first | decide | exact Nat.le_of_ble_eq_true rfl | simp [ByteArray.size])
  have s4 : (digs y [1000, 100, 10, 1]).size ≤ 4 := by simp [digs, ByteArray.size]
  have s2 : (digs d [10, 1]).size ≤ 2 := by simp [digs, ByteArray.size]
  clear m1 m2 d1 d2 db hp h0
  unfold hebTxt
  generalize txtV n l = tm at *
  generalize Cal.right n l = rr at *
  generalize digs y [1000, 100, 10, 1] = ty at *
  generalize digs d [10, 1] = td at *
  go_enter Tryz.func12, Tryz.ntmps12
  go_wp2_with fail
  refine (HC.out _).mono ?_
  rintro e w1 ⟨rfl, hb1⟩
  obtain ⟨hc1, hf1⟩ := bcell hb1
  have hz1 := hb1.size
  try simp at hz1
  have hs1x0 : w.heap.size < w1.heap.size := by omega
  have g1x0 : w1.cell? ⟨w.heap.size, 0, none⟩ = some (.int .i64 (y)) := (hc1 _ _ (by first | omega | (simp; done) | (simp; omega))).trans (by first | (with_reducible assumption) | (simp [go_sem]; done) | (simp [go_sem, *]; done) | assumption)
  have g1x1 : w1.cell? ⟨w.heap.size, 1, none⟩ = some (.int .i64 (n)) := (hc1 _ _ (by first | omega | (simp; done) | (simp; omega))).trans (by first | (with_reducible assumption) | (simp [go_sem]; done) | (simp [go_sem, *]; done) | assumption)
  have g1x2 : w1.cell? ⟨w.heap.size, 2, none⟩ = some (.bool (l)) := (hc1 _ _ (by first | omega | (simp; done) | (simp; omega))).trans (by first | (with_reducible assumption) | (simp [go_sem]; done) | (simp [go_sem, *]; done) | assumption)
  have g1x3 : w1.cell? ⟨w.heap.size, 3, none⟩ = some (.int .i64 (d)) := (hc1 _ _ (by first | omega | (simp; done) | (simp; omega))).trans (by first | (with_reducible assumption) | (simp [go_sem]; done) | (simp [go_sem, *]; done) | assumption)
  go_wp2_with fail
  refine (HM.out _).mono ?_
  rintro e w2 ⟨rfl, hb2⟩
  obtain ⟨hc2, hf2⟩ := bcell hb2
  have hz2 := hb2.size
  try simp at hz2
  have hs2x0 : w.heap.size < w2.heap.size := by omega
  have g2x0 : w2.cell? ⟨w.heap.size, 0, none⟩ = some (.int .i64 (y)) := (hc2 _ _ (by first | omega | (simp; done) | (simp; omega))).trans (by first | (with_reducible assumption) | (simp [go_sem]; done) | (simp [go_sem, *]; done) | assumption)
  have g2x1 : w2.cell? ⟨w.heap.size, 1, none⟩ = some (.int .i64 (n)) := (hc2 _ _ (by first | omega | (simp; done) | (simp; omega))).trans (by first | (with_reducible assumption) | (simp [go_sem]; done) | (simp [go_sem, *]; done) | assumption)
  have g2x2 : w2.cell? ⟨w.heap.size, 2, none⟩ = some (.bool (l)) := (hc2 _ _ (by first | omega | (simp; done) | (simp; omega))).trans (by first | (with_reducible assumption) | (simp [go_sem]; done) | (simp [go_sem, *]; done) | assumption)
  have g2x3 : w2.cell? ⟨w.heap.size, 3, none⟩ = some (.int .i64 (d)) := (hc2 _ _ (by first | omega | (simp; done) | (simp; omega))).trans (by first | (with_reducible assumption) | (simp [go_sem]; done) | (simp [go_sem, *]; done) | assumption)
  go_wp2_with fail
  have hW2 : Below w.heap.size w w2 := by repeat (first | (with_reducible exact Below.refl _ _) | (with_reducible assumption) | (with_reducible refine bdrew ?_) | (with_reducible refine baa ?_ _) | (with_reducible refine bs ?_ (by first | exact Nat.le_refl _ | omega | (simp; done) | (simp; omega)) _) | (with_reducible refine bt ?_ (by with_reducible assumption)))
  refine wp_region_class (by kernel_rfl) (by kernel_rfl) (fun hall => ?_)
  repeat (first | go_big_quiet_skip | (go_big_quiet_want; first | (refine quiet_load1 _ _ _ rfl rfl ?_ ?_ ?_; (focus (intro _; simp; done)); (focus (first | assumption | omega | (simp; done) | (simp; omega))); apply Exists.intro; refine ⟨?_, ?_⟩; assumption; go_simp; go_big_quiet_on) | (refine quiet_load2 _ _ _ _ rfl rfl ?_ ?_ ?_ ?_; (focus (intro _; simp; done)); (focus (intro _; simp; done)); (focus (first | assumption | omega | (simp; done) | (simp; omega))); apply Exists.intro; apply Exists.intro; refine ⟨?_, ?_, ?_⟩; assumption; assumption; go_simp; go_big_quiet_on) | (refine quiet_load3 _ _ _ _ rfl rfl ?_ ?_ ?_ ?_; (focus (intro _; simp; done)); (focus (intro _; simp; done)); (focus (first | assumption | omega | (simp; done) | (simp; omega))); apply Exists.intro; apply Exists.intro; apply Exists.intro; refine ⟨?_, ?_, ?_, ?_⟩; assumption; assumption; assumption; go_simp; go_big_quiet_on) | (refine quiet_load4 _ _ _ _ rfl rfl ?_ ?_ ?_ ?_; (focus (intro _; simp; done)); (focus (intro _; simp; done)); (focus (first | assumption | omega | (simp; done) | (simp; omega))); apply Exists.intro; apply Exists.intro; apply Exists.intro; apply Exists.intro; refine ⟨?_, ?_, ?_, ?_, ?_⟩; assumption; assumption; assumption; assumption; go_simp; go_big_quiet_on) | (go_big_quiet_op; first | go_big_quiet_on | (apply Exists.intro; refine ⟨fun x hx => ?_, ?_⟩; (first | (with_reducible exact call_below hx (HY.out x)) | (with_reducible exact call_below hx (HD.out x)) | exact call_below hx (HY.out x) | exact call_below hx (HD.out x)); go_big_quiet_on))))
  refine wpQuiet_nil ?_
  clear hall
  intro x3 hx3
  go_wp2_with fail
  go_ret2
  exact ⟨rfl, bt hW2 hx3⟩
theorem ref13_Heb (y n : Int) (l : Bool) (d : Int) (w : World) (hy : I64 y) :
    Calls Tryz.prog 12 #[.agg #[.int .i64 (y), .int .i64 (n), .bool (l), .int .i64 (d)]] w fun e w' => e = .returned (.tuple #[.string (hebV y n l d), .int .i64 (D10.dateE y n l d)]) ∧ Below w.heap.size w w' := by
  unfold hebV
  by_cases h0 : D10.dateE y n l d = 0
  · rw [if_pos h0, h0]; exact ref13_Heb_ok y n l d w hy h0
  · rw [if_neg h0]; exact ref13_Heb_err y n l d w hy h0
set_option maxHeartbeats 4000000 in
theorem ref13_Civil_err (y m d : Int) (gv er : Int) (w : World) (HG : Hid (∀ w : World, Calls Tryz.prog 44 #[.agg #[.int .i64 (y), .int .i64 (m), .int .i64 (d)]] w fun e w' => e = .returned (.tuple #[.int .i64 gv, .int .i64 (er)]) ∧ Below w.heap.size w w')) (h0 : (er != 0) = true) :
    Calls Tryz.prog 14 #[.agg #[.int .i64 (y), .int .i64 (m), .int .i64 (d)]] w fun e w' => e = .returned (.tuple #[.string ByteArray.empty, .int .i64 (er)]) ∧ Below w.heap.size w w' := by
  go_enter Tryz.func14, Tryz.ntmps14
  go_wp2_with fail
  refine (HG.out _).mono ?_
  rintro e w1 ⟨rfl, hb1⟩
  obtain ⟨hc1, hf1⟩ := bcell hb1
  have hz1 := hb1.size
  try simp at hz1
  have hs1x0 : w.heap.size < w1.heap.size := by omega
  have g1x0 : w1.cell? ⟨w.heap.size, 0, none⟩ = some (.int .i64 (y)) := (hc1 _ _ (by first | omega | (simp; done) | (simp; omega))).trans (by first | (with_reducible assumption) | (simp [go_sem]; done) | (simp [go_sem, *]; done) | assumption)
  have g1x1 : w1.cell? ⟨w.heap.size, 1, none⟩ = some (.int .i64 (m)) := (hc1 _ _ (by first | omega | (simp; done) | (simp; omega))).trans (by first | (with_reducible assumption) | (simp [go_sem]; done) | (simp [go_sem, *]; done) | assumption)
  have g1x2 : w1.cell? ⟨w.heap.size, 2, none⟩ = some (.int .i64 (d)) := (hc1 _ _ (by first | omega | (simp; done) | (simp; omega))).trans (by first | (with_reducible assumption) | (simp [go_sem]; done) | (simp [go_sem, *]; done) | assumption)
  go_wp2_with fail
  go_ret2
  refine ⟨rfl, ?_⟩
  repeat (first | (with_reducible exact Below.refl _ _) | (with_reducible assumption) | (with_reducible refine bdrew ?_) | (with_reducible refine baa ?_ _) | (with_reducible refine bs ?_ (by first | exact Nat.le_refl _ | omega | (simp; done) | (simp; omega)) _) | (with_reducible refine bt ?_ (by with_reducible assumption)))
set_option maxHeartbeats 4000000 in
theorem ref13_Civil_pos (y m d : Int) (gv : Int) (ty tm td : ByteArray) (w : World) (HG : Hid (∀ w : World, Calls Tryz.prog 44 #[.agg #[.int .i64 (y), .int .i64 (m), .int .i64 (d)]] w fun e w' => e = .returned (.tuple #[.int .i64 gv, .int .i64 (0)]) ∧ Below w.heap.size w w')) (HY : Hid (∀ w : World, Calls Tryz.prog 42 #[.int .i64 (y), .int .i64 4] w fun e w' => e = .returned (.string ty) ∧ Below w.heap.size w w')) (HM : Hid (∀ w : World, Calls Tryz.prog 42 #[.int .i64 (m), .int .i64 2] w fun e w' => e = .returned (.string tm) ∧ Below w.heap.size w w')) (HD : Hid (∀ w : World, Calls Tryz.prog 42 #[.int .i64 (d), .int .i64 2] w fun e w' => e = .returned (.string td) ∧ Below w.heap.size w w')) (s4 : ty.size ≤ 4) (s2 : tm.size ≤ 2) (s3 : td.size ≤ 2) (h1 : 0 ≤ y) (h2 : y ≤ 7000) :
    Calls Tryz.prog 14 #[.agg #[.int .i64 (y), .int .i64 (m), .int .i64 (d)]] w fun e w' => e = .returned (.tuple #[.string (⟨#[]⟩ ++ ty ++ ⟨#[45]⟩ ++ tm ++ ⟨#[45]⟩ ++ td), .int .i64 (0)]) ∧ Below w.heap.size w w' := by
  go_enter Tryz.func14, Tryz.ntmps14
  go_wp2_with fail
  refine (HG.out _).mono ?_
  rintro e w1 ⟨rfl, hb1⟩
  obtain ⟨hc1, hf1⟩ := bcell hb1
  have hz1 := hb1.size
  try simp at hz1
  have hs1x0 : w.heap.size < w1.heap.size := by omega
  have g1x0 : w1.cell? ⟨w.heap.size, 0, none⟩ = some (.int .i64 (y)) := (hc1 _ _ (by first | omega | (simp; done) | (simp; omega))).trans (by first | (with_reducible assumption) | (simp [go_sem]; done) | (simp [go_sem, *]; done) | assumption)
  have g1x1 : w1.cell? ⟨w.heap.size, 1, none⟩ = some (.int .i64 (m)) := (hc1 _ _ (by first | omega | (simp; done) | (simp; omega))).trans (by first | (with_reducible assumption) | (simp [go_sem]; done) | (simp [go_sem, *]; done) | assumption)
  have g1x2 : w1.cell? ⟨w.heap.size, 2, none⟩ = some (.int .i64 (d)) := (hc1 _ _ (by first | omega | (simp; done) | (simp; omega))).trans (by first | (with_reducible assumption) | (simp [go_sem]; done) | (simp [go_sem, *]; done) | assumption)
  go_wp2_with fail
  have hW1 : Below w.heap.size w w1 := by repeat (first | (with_reducible exact Below.refl _ _) | (with_reducible assumption) | (with_reducible refine bdrew ?_) | (with_reducible refine baa ?_ _) | (with_reducible refine bs ?_ (by first | exact Nat.le_refl _ | omega | (simp; done) | (simp; omega)) _) | (with_reducible refine bt ?_ (by with_reducible assumption)))
  refine wp_region_class (by kernel_rfl) (by kernel_rfl) (fun hall => ?_)
  repeat (first | go_big_quiet_skip | (go_big_quiet_want; first | (refine quiet_load1 _ _ _ rfl rfl ?_ ?_ ?_; (focus (intro _; simp; done)); (focus (first | assumption | omega | (simp; done) | (simp; omega))); apply Exists.intro; refine ⟨?_, ?_⟩; assumption; go_simp; go_big_quiet_on) | (refine quiet_load2 _ _ _ _ rfl rfl ?_ ?_ ?_ ?_; (focus (intro _; simp; done)); (focus (intro _; simp; done)); (focus (first | assumption | omega | (simp; done) | (simp; omega))); apply Exists.intro; apply Exists.intro; refine ⟨?_, ?_, ?_⟩; assumption; assumption; go_simp; go_big_quiet_on) | (refine quiet_load3 _ _ _ _ rfl rfl ?_ ?_ ?_ ?_; (focus (intro _; simp; done)); (focus (intro _; simp; done)); (focus (first | assumption | omega | (simp; done) | (simp; omega))); apply Exists.intro; apply Exists.intro; apply Exists.intro; refine ⟨?_, ?_, ?_, ?_⟩; assumption; assumption; assumption; go_simp; go_big_quiet_on) | (refine quiet_load4 _ _ _ _ rfl rfl ?_ ?_ ?_ ?_; (focus (intro _; simp; done)); (focus (intro _; simp; done)); (focus (first | assumption | omega | (simp; done) | (simp; omega))); apply Exists.intro; apply Exists.intro; apply Exists.intro; apply Exists.intro; refine ⟨?_, ?_, ?_, ?_, ?_⟩; assumption; assumption; assumption; assumption; go_simp; go_big_quiet_on) | (go_big_quiet_op; first | go_big_quiet_on | (apply Exists.intro; refine ⟨fun x hx => ?_, ?_⟩; (first | fail); go_big_quiet_on))))
  refine wpQuiet_nil ?_
  clear hall
  intro x4 hx4
  obtain ⟨hcr4, hfr4⟩ := bcell hx4
  have hzr4 := hx4.size
  try simp at hzr4
  have hsr4x0 : w.heap.size < x4.heap.size := by omega
  have gr4x0 : x4.cell? ⟨w.heap.size, 0, none⟩ = some (.int .i64 (y)) := (hcr4 _ _ (by first | omega | (simp; done) | (simp; omega))).trans (by first | (with_reducible assumption) | (simp [go_sem]; done) | (simp [go_sem, *]; done) | assumption)
  have gr4x1 : x4.cell? ⟨w.heap.size, 1, none⟩ = some (.int .i64 (m)) := (hcr4 _ _ (by first | omega | (simp; done) | (simp; omega))).trans (by first | (with_reducible assumption) | (simp [go_sem]; done) | (simp [go_sem, *]; done) | assumption)
  have gr4x2 : x4.cell? ⟨w.heap.size, 2, none⟩ = some (.int .i64 (d)) := (hcr4 _ _ (by first | omega | (simp; done) | (simp; omega))).trans (by first | (with_reducible assumption) | (simp [go_sem]; done) | (simp [go_sem, *]; done) | assumption)
  go_wp2_with fail
  refine wp_region_class (by kernel_rfl) (by kernel_rfl) (fun hall => ?_)
  repeat (first | go_big_quiet_skip | (go_big_quiet_want; first | (refine quiet_load1 _ _ _ rfl rfl ?_ ?_ ?_; (focus (intro _; simp; done)); (focus (first | assumption | omega | (simp; done) | (simp; omega))); apply Exists.intro; refine ⟨?_, ?_⟩; assumption; go_simp; go_big_quiet_on) | (refine quiet_load2 _ _ _ _ rfl rfl ?_ ?_ ?_ ?_; (focus (intro _; simp; done)); (focus (intro _; simp; done)); (focus (first | assumption | omega | (simp; done) | (simp; omega))); apply Exists.intro; apply Exists.intro; refine ⟨?_, ?_, ?_⟩; assumption; assumption; go_simp; go_big_quiet_on) | (refine quiet_load3 _ _ _ _ rfl rfl ?_ ?_ ?_ ?_; (focus (intro _; simp; done)); (focus (intro _; simp; done)); (focus (first | assumption | omega | (simp; done) | (simp; omega))); apply Exists.intro; apply Exists.intro; apply Exists.intro; refine ⟨?_, ?_, ?_, ?_⟩; assumption; assumption; assumption; go_simp; go_big_quiet_on) | (refine quiet_load4 _ _ _ _ rfl rfl ?_ ?_ ?_ ?_; (focus (intro _; simp; done)); (focus (intro _; simp; done)); (focus (first | assumption | omega | (simp; done) | (simp; omega))); apply Exists.intro; apply Exists.intro; apply Exists.intro; apply Exists.intro; refine ⟨?_, ?_, ?_, ?_, ?_⟩; assumption; assumption; assumption; assumption; go_simp; go_big_quiet_on) | (go_big_quiet_op; first | go_big_quiet_on | (apply Exists.intro; refine ⟨fun x hx => ?_, ?_⟩; (first | (with_reducible exact call_below hx (HY.out x)) | (with_reducible exact call_below hx (HM.out x)) | (with_reducible exact call_below hx (HD.out x)) | exact call_below hx (HY.out x) | exact call_below hx (HM.out x) | exact call_below hx (HD.out x)); go_big_quiet_on))))
  refine wpQuiet_nil ?_
  clear hall
  intro x7 hx7
  go_wp2_with fail
  go_ret2
  refine ⟨by first | rfl | simp, bt (bt hW1 hx4) hx7⟩
set_option maxHeartbeats 4000000 in
theorem ref13_Civil_neg (y m d : Int) (gv : Int) (ty tm td : ByteArray) (w : World) (HG : Hid (∀ w : World, Calls Tryz.prog 44 #[.agg #[.int .i64 (y), .int .i64 (m), .int .i64 (d)]] w fun e w' => e = .returned (.tuple #[.int .i64 gv, .int .i64 (0)]) ∧ Below w.heap.size w w')) (HY : Hid (∀ w : World, Calls Tryz.prog 42 #[.int .i64 (-y), .int .i64 4] w fun e w' => e = .returned (.string ty) ∧ Below w.heap.size w w')) (HM : Hid (∀ w : World, Calls Tryz.prog 42 #[.int .i64 (m), .int .i64 2] w fun e w' => e = .returned (.string tm) ∧ Below w.heap.size w w')) (HD : Hid (∀ w : World, Calls Tryz.prog 42 #[.int .i64 (d), .int .i64 2] w fun e w' => e = .returned (.string td) ∧ Below w.heap.size w w')) (s4 : ty.size ≤ 4) (s2 : tm.size ≤ 2) (s3 : td.size ≤ 2) (h1 : y < 0) (h2 : -4000 ≤ y) :
    Calls Tryz.prog 14 #[.agg #[.int .i64 (y), .int .i64 (m), .int .i64 (d)]] w fun e w' => e = .returned (.tuple #[.string (⟨#[45]⟩ ++ ty ++ ⟨#[45]⟩ ++ tm ++ ⟨#[45]⟩ ++ td), .int .i64 (0)]) ∧ Below w.heap.size w w' := by
  go_enter Tryz.func14, Tryz.ntmps14
  go_wp2_with fail
  refine (HG.out _).mono ?_
  rintro e w1 ⟨rfl, hb1⟩
  obtain ⟨hc1, hf1⟩ := bcell hb1
  have hz1 := hb1.size
  try simp at hz1
  have hs1x0 : w.heap.size < w1.heap.size := by omega
  have g1x0 : w1.cell? ⟨w.heap.size, 0, none⟩ = some (.int .i64 (y)) := (hc1 _ _ (by first | omega | (simp; done) | (simp; omega))).trans (by first | (with_reducible assumption) | (simp [go_sem]; done) | (simp [go_sem, *]; done) | assumption)
  have g1x1 : w1.cell? ⟨w.heap.size, 1, none⟩ = some (.int .i64 (m)) := (hc1 _ _ (by first | omega | (simp; done) | (simp; omega))).trans (by first | (with_reducible assumption) | (simp [go_sem]; done) | (simp [go_sem, *]; done) | assumption)
  have g1x2 : w1.cell? ⟨w.heap.size, 2, none⟩ = some (.int .i64 (d)) := (hc1 _ _ (by first | omega | (simp; done) | (simp; omega))).trans (by first | (with_reducible assumption) | (simp [go_sem]; done) | (simp [go_sem, *]; done) | assumption)
  go_wp2_with fail
  have hW1 : Below w.heap.size w w1 := by repeat (first | (with_reducible exact Below.refl _ _) | (with_reducible assumption) | (with_reducible refine bdrew ?_) | (with_reducible refine baa ?_ _) | (with_reducible refine bs ?_ (by first | exact Nat.le_refl _ | omega | (simp; done) | (simp; omega)) _) | (with_reducible refine bt ?_ (by with_reducible assumption)))
  refine wp_region_class (by kernel_rfl) (by kernel_rfl) (fun hall => ?_)
  repeat (first | go_big_quiet_skip | (go_big_quiet_want; first | (refine quiet_load1 _ _ _ rfl rfl ?_ ?_ ?_; (focus (intro _; simp; done)); (focus (first | assumption | omega | (simp; done) | (simp; omega))); apply Exists.intro; refine ⟨?_, ?_⟩; assumption; go_simp; go_big_quiet_on) | (refine quiet_load2 _ _ _ _ rfl rfl ?_ ?_ ?_ ?_; (focus (intro _; simp; done)); (focus (intro _; simp; done)); (focus (first | assumption | omega | (simp; done) | (simp; omega))); apply Exists.intro; apply Exists.intro; refine ⟨?_, ?_, ?_⟩; assumption; assumption; go_simp; go_big_quiet_on) | (refine quiet_load3 _ _ _ _ rfl rfl ?_ ?_ ?_ ?_; (focus (intro _; simp; done)); (focus (intro _; simp; done)); (focus (first | assumption | omega | (simp; done) | (simp; omega))); apply Exists.intro; apply Exists.intro; apply Exists.intro; refine ⟨?_, ?_, ?_, ?_⟩; assumption; assumption; assumption; go_simp; go_big_quiet_on) | (refine quiet_load4 _ _ _ _ rfl rfl ?_ ?_ ?_ ?_; (focus (intro _; simp; done)); (focus (intro _; simp; done)); (focus (first | assumption | omega | (simp; done) | (simp; omega))); apply Exists.intro; apply Exists.intro; apply Exists.intro; apply Exists.intro; refine ⟨?_, ?_, ?_, ?_, ?_⟩; assumption; assumption; assumption; assumption; go_simp; go_big_quiet_on) | (go_big_quiet_op; first | go_big_quiet_on | (apply Exists.intro; refine ⟨fun x hx => ?_, ?_⟩; (first | fail); go_big_quiet_on))))
  refine wpQuiet_nil ?_
  clear hall
  intro x4 hx4
  obtain ⟨hcr4, hfr4⟩ := bcell hx4
  have hzr4 := hx4.size
  try simp at hzr4
  have hsr4x0 : w.heap.size < x4.heap.size := by omega
  have gr4x0 : x4.cell? ⟨w.heap.size, 0, none⟩ = some (.int .i64 (y)) := (hcr4 _ _ (by first | omega | (simp; done) | (simp; omega))).trans (by first | (with_reducible assumption) | (simp [go_sem]; done) | (simp [go_sem, *]; done) | assumption)
  have gr4x1 : x4.cell? ⟨w.heap.size, 1, none⟩ = some (.int .i64 (m)) := (hcr4 _ _ (by first | omega | (simp; done) | (simp; omega))).trans (by first | (with_reducible assumption) | (simp [go_sem]; done) | (simp [go_sem, *]; done) | assumption)
  have gr4x2 : x4.cell? ⟨w.heap.size, 2, none⟩ = some (.int .i64 (d)) := (hcr4 _ _ (by first | omega | (simp; done) | (simp; omega))).trans (by first | (with_reducible assumption) | (simp [go_sem]; done) | (simp [go_sem, *]; done) | assumption)
  go_wp2_with fail
  refine wp_region_class (by kernel_rfl) (by kernel_rfl) (fun hall => ?_)
  repeat (first | go_big_quiet_skip | (go_big_quiet_want; first | (refine quiet_load1 _ _ _ rfl rfl ?_ ?_ ?_; (focus (intro _; simp; done)); (focus (first | assumption | omega | (simp; done) | (simp; omega))); apply Exists.intro; refine ⟨?_, ?_⟩; assumption; go_simp; go_big_quiet_on) | (refine quiet_load2 _ _ _ _ rfl rfl ?_ ?_ ?_ ?_; (focus (intro _; simp; done)); (focus (intro _; simp; done)); (focus (first | assumption | omega | (simp; done) | (simp; omega))); apply Exists.intro; apply Exists.intro; refine ⟨?_, ?_, ?_⟩; assumption; assumption; go_simp; go_big_quiet_on) | (refine quiet_load3 _ _ _ _ rfl rfl ?_ ?_ ?_ ?_; (focus (intro _; simp; done)); (focus (intro _; simp; done)); (focus (first | assumption | omega | (simp; done) | (simp; omega))); apply Exists.intro; apply Exists.intro; apply Exists.intro; refine ⟨?_, ?_, ?_, ?_⟩; assumption; assumption; assumption; go_simp; go_big_quiet_on) | (refine quiet_load4 _ _ _ _ rfl rfl ?_ ?_ ?_ ?_; (focus (intro _; simp; done)); (focus (intro _; simp; done)); (focus (first | assumption | omega | (simp; done) | (simp; omega))); apply Exists.intro; apply Exists.intro; apply Exists.intro; apply Exists.intro; refine ⟨?_, ?_, ?_, ?_, ?_⟩; assumption; assumption; assumption; assumption; go_simp; go_big_quiet_on) | (go_big_quiet_op; first | go_big_quiet_on | (apply Exists.intro; refine ⟨fun x hx => ?_, ?_⟩; (first | (with_reducible exact call_below hx (HY.out x)) | (with_reducible exact call_below hx (HM.out x)) | (with_reducible exact call_below hx (HD.out x)) | exact call_below hx (HY.out x) | exact call_below hx (HM.out x) | exact call_below hx (HD.out x)); go_big_quiet_on))))
  refine wpQuiet_nil ?_
  clear hall
  intro x7 hx7
  go_wp2_with fail
  go_ret2
  refine ⟨by first | rfl | simp, bt (bt hW1 hx4) hx7⟩
theorem ref13_Civil (y m d : Int) (w : World) :
    Calls Tryz.prog 14 #[.agg #[.int .i64 (y), .int .i64 (m), .int .i64 (d)]] w fun e w' => e = .returned (.tuple #[.string (civV y m d), .int .i64 (Gr.gtE y m d)]) ∧ Below w.heap.size w w' := by
  have HG := Lib.hid (fun w => ref11_ToDay y m d w)
  unfold civV
  by_cases h0 : Gr.gtE y m d = 0
  · obtain ⟨b1, b2, b3, b4, b5, b6⟩ := Gr.gt_in h0
    rw [h0] at HG
    rw [if_pos h0, h0]
    have HM := Lib.hid (fun w => ref13_digits_2 m (by omega) (by omega) w)
    have HD := Lib.hid (fun w => ref13_digits_2 d (by omega) (by omega) w)
    unfold civTxt sgn absV
    by_cases c : y < 0
    · have HY := Lib.hid (fun w => ref13_digits_4 (-y) (by omega) (by omega) w)
      rw [if_pos c, if_pos c]
      exact ref13_Civil_neg y m d _ _ _ _ w HG HY HM HD (by simp [digs, ByteArray.size]) (by simp [digs, ByteArray.size]) (by simp [digs, ByteArray.size]) c b1
    · have HY := Lib.hid (fun w => ref13_digits_4 y (by omega) (by omega) w)
      rw [if_neg c, if_neg c]
      exact ref13_Civil_pos y m d _ _ _ _ w HG HY HM HD (by simp [digs, ByteArray.size]) (by simp [digs, ByteArray.size]) (by simp [digs, ByteArray.size]) (by omega) b2
  · rw [if_neg h0]
    exact ref13_Civil_err y m d _ _ w HG (by simpa using h0)
end Go.Proofs.YtafenpgafmdenaaGreatDoor
/- Layer 13: the document's reading, at any text. -/
namespace Go.Proofs.YtafenpgafmdenaaGreatDoor
open Go.ChangeShapes Go.WideShapes Go.ChangeAt Go.RowKit
set_option linter.unusedVariables false
set_option maxRecDepth 100000
namespace D13
theorem at_some {G : ByteArray} {i : Nat} {v : UInt8} (h : G.data.toList[i]? = some v) : ∀ h' : i < G.size, ((G[i]'h').toNat : Int) = v.toNat := by
  intro h'
  obtain ⟨h1, h2⟩ := List.getElem?_eq_some_iff.1 h
  have e : G[i]'h' = G.data.toList[i]'h1 := rfl
  rw [e, h2]
theorem fromCut {G : ByteArray} (a b c : List UInt8) (e : G.data.toList = a ++ 45 :: (b ++ 45 :: c)) (ha : a.length = 4) (hc : c.length = 2) (k : Nat) (hk : k = 5 + b.length) :
    G.size = k + 3 ∧ (∀ h : 4 < G.size, ((G[4]'h).toNat : Int) = 45) ∧ (∀ h : k < G.size, ((G[k]'h).toNat : Int) = 45) ∧ (G.extract 0 4).data.toList = a ∧ (G.extract 5 k).data.toList = b ∧ (G.extract (k + 1) (k + 3)).data.toList = c := by
  have hl : G.data.toList.length = G.size := by simp
  have hz : G.size = k + 3 := by
    have := congrArg List.length e
    simp only [List.length_append, List.length_cons] at this
    omega
  have e1 : G.data.toList = (a ++ 45 :: b) ++ 45 :: c := by rw [e]; simp
  have l1 : (a ++ 45 :: b).length = k := by simp; omega
  have e2 : G.data.toList = (a ++ [45] ++ b ++ [45]) ++ c := by rw [e]; simp
  have l2 : (a ++ [45] ++ b ++ [45]).length = k + 1 := by simp; omega
  refine ⟨hz, at_some (G := G) (v := 45) ?_, at_some (G := G) (v := 45) ?_, ?_, ?_, ?_⟩
  · rw [e, List.getElem?_append_right (by omega), ha]; rfl
  · rw [e1, List.getElem?_append_right (by omega), l1, Nat.sub_self]; rfl
  · rw [ext_take, e, List.take_left' ha]; rfl
  · rw [ext_take, e1, List.take_left' l1, show a ++ 45 :: b = (a ++ [45]) ++ b by simp, List.drop_left' (by simp; omega)]
  · rw [ext_take, List.take_of_length_le (by omega), e2, List.drop_left' l2]
theorem split3 (L : List UInt8) (k : Nat) (hl : L.length = k + 3) (k5 : 5 ≤ k) (y4 : L[4]? = some 45) (yk : L[k]? = some 45) : L = L.take 4 ++ 45 :: ((L.take k).drop 5 ++ 45 :: L.drop (k + 1)) := by
  obtain ⟨_, y4⟩ := List.getElem?_eq_some_iff.1 y4
  obtain ⟨_, yk⟩ := List.getElem?_eq_some_iff.1 yk
  have e1 : L.drop k = 45 :: L.drop (k + 1) := by rw [List.drop_eq_getElem_cons (by omega), yk]
  have e2 : (L.take k).drop 4 = 45 :: (L.take k).drop 5 := by
    rw [List.drop_eq_getElem_cons (by simp; omega), List.getElem_take, y4]
  have e3 : (L.take k).take 4 = L.take 4 := by rw [List.take_take, Nat.min_eq_left (by omega)]
  have e4 : L = ((L.take k).take 4 ++ (L.take k).drop 4) ++ L.drop k := by rw [List.take_append_drop, List.take_append_drop]
  rw [e1, e2, e3] at e4
  rw [List.append_assoc, List.cons_append] at e4
  exact e4
theorem toCut {G : ByteArray} (k : Nat) (hk : G.size = k + 3) (k5 : 5 ≤ k) (x4 : ((G[4]'(by omega)).toNat : Int) = 45) (xk : ((G[k]'(by omega)).toNat : Int) = 45) :
    G.data.toList = (G.extract 0 4).data.toList ++ 45 :: ((G.extract 5 k).data.toList ++ 45 :: (G.extract (k + 1) (k + 3)).data.toList) := by
  have hl : G.data.toList.length = k + 3 := by rw [← hk]; simp
  have y4 : G.data.toList[4]'(by omega) = 45 := by rw [← UInt8.toNat_inj]; show (G[4]'(by omega)).toNat = 45; omega
  have yk : G.data.toList[k]'(by omega) = 45 := by rw [← UInt8.toNat_inj]; show (G[k]'(by omega)).toNat = 45; omega
  simp only [ext_take, List.drop_zero]
  rw [show G.data.toList.take (k + 3) = G.data.toList from List.take_of_length_le (by omega)]
  exact split3 _ k hl k5 (List.getElem?_eq_some_iff.2 ⟨_, y4⟩) (List.getElem?_eq_some_iff.2 ⟨_, yk⟩)
theorem cutsOf {G : ByteArray} {a b c : List UInt8} (e : G.data.toList = a ++ 45 :: (b ++ 45 :: c)) (hb : ∀ x ∈ b, ¬ x = 45) (hc : ∀ x ∈ c, ¬ x = 45) :
    (cutA (cutA G)).data.toList = a ∧ (cutB (cutA G)).data.toList = b ∧ (cutB G).data.toList = c := by
  obtain ⟨a1, a2⟩ := cut_dash (s := G) (b := a ++ 45 :: b) (c := c) (by rw [e]; simp) hc
  obtain ⟨a3, a4⟩ := cut_dash a1 hb
  exact ⟨a3, a4, a2⟩
theorem ok_len {l : List UInt8} {M : Nat} (h : numOk l M = true) : l.length = M := by
  unfold numOk at h; simp only [Bool.and_eq_true, decide_eq_true_eq] at h; exact h.1
theorem no_dash {l : List UInt8} {M : Nat} (h : numOk l M = true) : ∀ x ∈ l, ¬ x = 45 := fun x hx => (dig_ne (all_dig h x hx)).1
theorem sz (t : ByteArray) : t.size = t.data.toList.length := by simp
theorem num_bd2 (l : List UInt8) : numVal l 4 = numVal l 4 := rfl
end D13
theorem ref13_ReadHeb (s : ByteArray) (cn : Int) (cl ok : Bool) (hs : s.size ≤ 1000000) (w : World) (hc : IsCode (cutB (cutA (great s))) cn cl ok) :
    Calls Tryz.prog 16 #[.string s] w fun e w' => e = .returned (.tuple #[.agg #[.int .i64 (rhY s cn cl ok), .int .i64 (rhN s cn cl ok), .bool (rhL s cn cl ok), .int .i64 (rhD s cn cl ok)], .int .i64 (rhE s cn cl ok)]) ∧ Below w.heap.size w w' := by
  have HGr := Lib.hid (fun w => ref13_great s hs w)
  have hGs : (great s).size ≤ 1000000 := by unfold great; rw [greatB_size, greatB_size]; exact hs
  have bad : ∀ E : Int, rhE s cn cl ok = E → ¬ E = 0 → rhY s cn cl ok = 0 ∧ rhN s cn cl ok = 0 ∧ rhL s cn cl ok = false ∧ rhD s cn cl ok = 0 := by
    intro E e h
    have h' : ¬ rhE s cn cl ok = 0 := by rw [e]; exact h
    unfold rhY rhN rhL rhD
    rw [if_neg h', if_neg h', if_neg h', if_neg h']
    exact ⟨rfl, rfl, rfl, rfl⟩
  cases hC : (numOk (cutA (cutA (great s))).data.toList 4 && (ok && numOk (cutB (great s)).data.toList 2)) with
  | true =>
    have hC' := hC
    simp only [Bool.and_eq_true] at hC
    obtain ⟨c4, rfl, c2⟩ := hC
    have hcr : Cal.right cn cl = true ∧ codeTxt cn cl = cutB (cutA (great s)) := by
      rcases hc with ⟨_, r, eb⟩ | ⟨q, _⟩
      · exact ⟨r, eb⟩
      · cases q
    have e := D13.three c4 c2
    have l4 := D13.ok_len c4
    have l2 := D13.ok_len c2
    have lb : 3 ≤ (cutB (cutA (great s))).data.toList.length := by
      rw [← hcr.2]; unfold codeTxt; cases cl <;> simp
    obtain ⟨k, hk⟩ : ∃ k, k = 5 + (cutB (cutA (great s))).data.toList.length := ⟨_, rfl⟩
    obtain ⟨f1, f2, f3, f4, f5, f6⟩ := D13.fromCut _ _ _ e l4 l2 k hk
    have HN4 := Lib.hid (fun w => ref13_number (cutA (cutA (great s))) 4 w (by rw [D13.sz]; exact l4) (by omega))
    have HN2 := Lib.hid (fun w => ref13_number (cutB (great s)) 2 w (by rw [D13.sz]; exact l2) (by omega))
    have HCo := Lib.hid (fun w => ref9_Read_any (cutB (cutA (great s))) cn cl true w (by rw [D13.sz]; omega) hc)
    have hbd := D13.num_bd4 (cutA (cutA (great s))).data.toList
    have HCk := Lib.hid (fun w => ref10_Check (numVal (cutA (cutA (great s))).data.toList 4) cn cl (numVal (cutB (great s)).data.toList 2) w (by unfold I64; omega))
    rw [c4] at HN4
    rw [c2] at HN2
    by_cases h0 : D10.dateE (numVal (cutA (cutA (great s))).data.toList 4) cn cl (numVal (cutB (great s)).data.toList 2) = 0
    · have e0 : rhE s cn cl true = 0 := by unfold rhE; rw [if_pos hC', if_pos h0]
      unfold rhY rhN rhL rhD
      rw [if_pos e0, if_pos e0, if_pos e0, if_pos e0, e0]
      rw [h0] at HCk
      exact ref13_ReadHeb_ok s (great s) k f1 (by omega) (by omega) (by omega) (by omega) (by omega) (by omega) (by omega) (by omega) (by omega) (by omega) (by omega) (by omega) _ _ _ (D13.ext f4) (D13.ext f5) (D13.ext f6) _ _ _ _ w HGr (f2 (by omega)) (f3 (by omega)) HN4 HCo HN2 HCk
    · have e0 : rhE s cn cl true = 2 := by unfold rhE; rw [if_pos hC', if_neg h0]
      obtain ⟨b1, b2, b3, b4⟩ := bad 2 e0 (by omega)
      rw [b1, b2, b3, b4, e0]
      exact ref13_ReadHeb_rng s (great s) k f1 (by omega) (by omega) (by omega) (by omega) (by omega) (by omega) (by omega) (by omega) (by omega) (by omega) (by omega) (by omega) _ _ _ (D13.ext f4) (D13.ext f5) (D13.ext f6) _ _ _ _ _ w HGr (f2 (by omega)) (f3 (by omega)) HN4 HCo HN2 HCk (by simpa using h0)
  | false =>
    have e5 : rhE s cn cl ok = 5 := by unfold rhE; rw [hC]; rfl
    obtain ⟨b1, b2, b3, b4⟩ := bad 5 e5 (by omega)
    rw [b1, b2, b3, b4, e5]
    by_cases h11 : (great s).size < 11
    · exact ref13_ReadHeb_short s _ w HGr (by omega)
    obtain ⟨k, hk⟩ : ∃ k, (great s).size = k + 3 := ⟨(great s).size - 3, by omega⟩
    by_cases x4 : (((great s)[4]'(by omega)).toNat : Int) = 45
    · by_cases xk : (((great s)[k]'(by omega)).toNat : Int) = 45
      · have e := D13.toCut k hk (by omega) x4 xk
        obtain ⟨n', l', ok', hI⟩ := isCode_some ((great s).extract 5 k)
        have z4 : ((great s).extract 0 4).size = 4 := by simp [hk]; omega
        have z2 : ((great s).extract (k + 1) (k + 3)).size = 2 := by simp [hk]; try omega
        have z5 : ((great s).extract 5 k).size ≤ 1000000 := by simp [hk]; omega
        have HN4 := Lib.hid (fun w => ref13_number ((great s).extract 0 4) 4 w z4 (by omega))
        have HN2 := Lib.hid (fun w => ref13_number ((great s).extract (k + 1) (k + 3)) 2 w z2 (by omega))
        have HCo := Lib.hid (fun w => ref9_Read_any ((great s).extract 5 k) n' l' ok' w z5 hI)
        cases o4 : numOk ((great s).extract 0 4).data.toList 4 with
        | false =>
          rw [o4] at HN4
          exact ref13_ReadHeb_n4 s (great s) k hk (by omega) (by omega) (by omega) (by omega) (by omega) (by omega) (by omega) (by omega) (by omega) (by omega) (by omega) (by omega) _ _ _ rfl rfl rfl _ _ _ _ _ _ w HGr x4 xk HN4 HCo HN2
        | true =>
          rw [o4] at HN4
          cases ok' with
          | false => exact ref13_ReadHeb_nc s (great s) k hk (by omega) (by omega) (by omega) (by omega) (by omega) (by omega) (by omega) (by omega) (by omega) (by omega) (by omega) (by omega) _ _ _ rfl rfl rfl _ _ _ _ _ w HGr x4 xk HN4 HCo HN2
          | true =>
            cases o2 : numOk ((great s).extract (k + 1) (k + 3)).data.toList 2 with
            | false =>
              rw [o2] at HN2
              exact ref13_ReadHeb_n2 s (great s) k hk (by omega) (by omega) (by omega) (by omega) (by omega) (by omega) (by omega) (by omega) (by omega) (by omega) (by omega) (by omega) _ _ _ rfl rfl rfl _ _ _ _ w HGr x4 xk HN4 HCo HN2
            | true =>
              exfalso
              rcases hI with ⟨_, r, eb⟩ | ⟨q, _⟩
              · obtain ⟨a1, a2, a3⟩ := D13.cutsOf e (by rw [← eb]; exact fun x hx => (D13.code_bytes r x hx).1) (D13.no_dash o2)
                rw [a1, a3, o4, o2] at hC
                rcases hc with ⟨q, _⟩ | ⟨q, _, _, hno⟩
                · rw [q] at hC; cases hC
                · exact hno n' l' r (eb.trans (D13.ext a2).symm)
              · cases q
      · exact ref13_ReadHeb_bk s (great s) k hk (by omega) (by omega) (by omega) (by omega) (by omega) (by omega) (by omega) (by omega) (by omega) (by omega) (by omega) (by omega) w HGr x4 (by simpa using xk)
    · exact ref13_ReadHeb_b4 s (great s) k hk (by omega) (by omega) (by omega) (by omega) (by omega) (by omega) (by omega) (by omega) (by omega) (by omega) (by omega) (by omega) w HGr (by simpa using x4)
/-- Ten bytes: year, month, day. -/
def OKB (B : ByteArray) : Prop := ∃ h : B.size = 10, ((B[4]'(by omega)).toNat : Int) = 45 ∧ ((B[7]'(by omega)).toNat : Int) = 45 ∧ numOk (B.extract 0 4).data.toList 4 = true ∧ numOk (B.extract 5 7).data.toList 2 = true ∧ numOk (B.extract 8 10).data.toList 2 = true
theorem parts10 (B : ByteArray) (h : B.size = 10) : (B.extract 0 4).size = 4 ∧ (B.extract 5 7).size = 2 ∧ (B.extract 8 10).size = 2 := by
  refine ⟨?_, ?_, ?_⟩ <;> simp [h]
theorem ref13_ReadCivil_pbad (s : ByteArray) (sp : (0 : Int) < (s.size : Int)) (sj : 0 < s.size) (x0 : (((s[0]'sj).toNat : Int) == 45) = false) (w : World) (hb : ¬ OKB s) :
    Calls Tryz.prog 18 #[.string s] w fun e w' => e = .returned (.tuple #[.agg #[.int .i64 (0), .int .i64 (0), .int .i64 (0)], .int .i64 (5)]) ∧ Below w.heap.size w w' := by
  by_cases hl : s.size = 10
  · obtain ⟨z4, z5, z8⟩ := parts10 s hl
    by_cases x4 : ((s[4]'(by omega)).toNat : Int) = 45
    · by_cases x7 : ((s[7]'(by omega)).toNat : Int) = 45
      · have HN4 := Lib.hid (fun w => ref13_number (s.extract 0 4) 4 w z4 (by omega))
        have HNm := Lib.hid (fun w => ref13_number (s.extract 5 7) 2 w z5 (by omega))
        have HNd := Lib.hid (fun w => ref13_number (s.extract 8 10) 2 w z8 (by omega))
        cases o4 : numOk (s.extract 0 4).data.toList 4 with
        | false =>
          rw [o4] at HN4
          exact ref13_ReadCivil_pn4 s sp sj x0 w hl x4 x7 _ _ _ rfl rfl rfl _ _ _ _ _ HN4 HNm HNd
        | true =>
          rw [o4] at HN4
          cases o5 : numOk (s.extract 5 7).data.toList 2 with
          | false =>
            rw [o5] at HNm
            exact ref13_ReadCivil_pn5 s sp sj x0 w hl x4 x7 _ _ _ rfl rfl rfl _ _ _ _ HN4 HNm HNd
          | true =>
            rw [o5] at HNm
            cases o8 : numOk (s.extract 8 10).data.toList 2 with
            | false =>
              rw [o8] at HNd
              exact ref13_ReadCivil_pn8 s sp sj x0 w hl x4 x7 _ _ _ rfl rfl rfl _ _ _ HN4 HNm HNd
            | true => exact absurd ⟨hl, x4, x7, o4, o5, o8⟩ hb
      · exact ref13_ReadCivil_pb7 s sp sj x0 w hl x4 (by simpa using x7)
    · exact ref13_ReadCivil_pb4 s sp sj x0 w hl (by simpa using x4)
  · exact ref13_ReadCivil_plen s sp sj x0 w (by simp; omega)
theorem ref13_ReadCivil_pgood (s : ByteArray) (sp : (0 : Int) < (s.size : Int)) (sj : 0 < s.size) (x0 : (((s[0]'sj).toNat : Int) == 45) = false) (w : World) (hb : OKB s) (h0 : Gr.gtE (numVal (s.extract 0 4).data.toList 4) (numVal (s.extract 5 7).data.toList 2) (numVal (s.extract 8 10).data.toList 2) = 0) :
    Calls Tryz.prog 18 #[.string s] w fun e w' => e = .returned (.tuple #[.agg #[.int .i64 (numVal (s.extract 0 4).data.toList 4), .int .i64 (numVal (s.extract 5 7).data.toList 2), .int .i64 (numVal (s.extract 8 10).data.toList 2)], .int .i64 (0)]) ∧ Below w.heap.size w w' := by
  obtain ⟨hl, x4, x7, o4, o5, o8⟩ := hb
  obtain ⟨z4, z5, z8⟩ := parts10 s hl
  have bd := D13.num_bd4 (s.extract 0 4).data.toList
  have HN4 := Lib.hid (fun w => ref13_number (s.extract 0 4) 4 w z4 (by omega))
  have HNm := Lib.hid (fun w => ref13_number (s.extract 5 7) 2 w z5 (by omega))
  have HNd := Lib.hid (fun w => ref13_number (s.extract 8 10) 2 w z8 (by omega))
  rw [o4] at HN4
  rw [o5] at HNm
  rw [o8] at HNd
  have HG := Lib.hid (fun w => ref11_ToDay (numVal (s.extract 0 4).data.toList 4) (numVal (s.extract 5 7).data.toList 2) (numVal (s.extract 8 10).data.toList 2) w)
  rw [h0] at HG
  exact ref13_ReadCivil_pok s sp sj x0 w hl x4 x7 _ _ _ rfl rfl rfl _ _ _ bd.1 bd.2 HN4 HNm HNd _ HG
theorem ref13_ReadCivil_prange (s : ByteArray) (sp : (0 : Int) < (s.size : Int)) (sj : 0 < s.size) (x0 : (((s[0]'sj).toNat : Int) == 45) = false) (w : World) (hb : OKB s) (h0 : ¬ Gr.gtE (numVal (s.extract 0 4).data.toList 4) (numVal (s.extract 5 7).data.toList 2) (numVal (s.extract 8 10).data.toList 2) = 0) :
    Calls Tryz.prog 18 #[.string s] w fun e w' => e = .returned (.tuple #[.agg #[.int .i64 (0), .int .i64 (0), .int .i64 (0)], .int .i64 (2)]) ∧ Below w.heap.size w w' := by
  obtain ⟨hl, x4, x7, o4, o5, o8⟩ := hb
  obtain ⟨z4, z5, z8⟩ := parts10 s hl
  have bd := D13.num_bd4 (s.extract 0 4).data.toList
  have HN4 := Lib.hid (fun w => ref13_number (s.extract 0 4) 4 w z4 (by omega))
  have HNm := Lib.hid (fun w => ref13_number (s.extract 5 7) 2 w z5 (by omega))
  have HNd := Lib.hid (fun w => ref13_number (s.extract 8 10) 2 w z8 (by omega))
  rw [o4] at HN4
  rw [o5] at HNm
  rw [o8] at HNd
  have HG := Lib.hid (fun w => ref11_ToDay (numVal (s.extract 0 4).data.toList 4) (numVal (s.extract 5 7).data.toList 2) (numVal (s.extract 8 10).data.toList 2) w)
  exact ref13_ReadCivil_prng s sp sj x0 w hl x4 x7 _ _ _ rfl rfl rfl _ _ _ bd.1 bd.2 HN4 HNm HNd _ _ HG (by simpa using h0)
theorem ref13_ReadCivil_nbad (s B : ByteArray) (sp : (0 : Int) < (s.size : Int)) (s1 : (1 : Int) ≤ (s.size : Int)) (sj : 0 < s.size) (x0 : ((s[0]'sj).toNat : Int) = 45) (eB : s.extract 1 s.size = B) (w : World) (hb : ¬ OKB B) :
    Calls Tryz.prog 18 #[.string s] w fun e w' => e = .returned (.tuple #[.agg #[.int .i64 (0), .int .i64 (0), .int .i64 (0)], .int .i64 (5)]) ∧ Below w.heap.size w w' := by
  by_cases hl : B.size = 10
  · obtain ⟨z4, z5, z8⟩ := parts10 B hl
    by_cases x4 : ((B[4]'(by omega)).toNat : Int) = 45
    · by_cases x7 : ((B[7]'(by omega)).toNat : Int) = 45
      · have HN4 := Lib.hid (fun w => ref13_number (B.extract 0 4) 4 w z4 (by omega))
        have HNm := Lib.hid (fun w => ref13_number (B.extract 5 7) 2 w z5 (by omega))
        have HNd := Lib.hid (fun w => ref13_number (B.extract 8 10) 2 w z8 (by omega))
        cases o4 : numOk (B.extract 0 4).data.toList 4 with
        | false =>
          rw [o4] at HN4
          exact ref13_ReadCivil_nn4 s B sp s1 sj x0 eB w hl x4 x7 _ _ _ rfl rfl rfl _ _ _ _ _ HN4 HNm HNd
        | true =>
          rw [o4] at HN4
          cases o5 : numOk (B.extract 5 7).data.toList 2 with
          | false =>
            rw [o5] at HNm
            exact ref13_ReadCivil_nn5 s B sp s1 sj x0 eB w hl x4 x7 _ _ _ rfl rfl rfl _ _ _ _ HN4 HNm HNd
          | true =>
            rw [o5] at HNm
            cases o8 : numOk (B.extract 8 10).data.toList 2 with
            | false =>
              rw [o8] at HNd
              exact ref13_ReadCivil_nn8 s B sp s1 sj x0 eB w hl x4 x7 _ _ _ rfl rfl rfl _ _ _ HN4 HNm HNd
            | true => exact absurd ⟨hl, x4, x7, o4, o5, o8⟩ hb
      · exact ref13_ReadCivil_nb7 s B sp s1 sj x0 eB w hl x4 (by simpa using x7)
    · exact ref13_ReadCivil_nb4 s B sp s1 sj x0 eB w hl (by simpa using x4)
  · exact ref13_ReadCivil_nlen s B sp s1 sj x0 eB w (by simp; omega)
theorem ref13_ReadCivil_nzero (s B : ByteArray) (sp : (0 : Int) < (s.size : Int)) (s1 : (1 : Int) ≤ (s.size : Int)) (sj : 0 < s.size) (x0 : ((s[0]'sj).toNat : Int) = 45) (eB : s.extract 1 s.size = B) (w : World) (hb : OKB B) (yz : (numVal (B.extract 0 4).data.toList 4 == 0) = true) :
    Calls Tryz.prog 18 #[.string s] w fun e w' => e = .returned (.tuple #[.agg #[.int .i64 (0), .int .i64 (0), .int .i64 (0)], .int .i64 (5)]) ∧ Below w.heap.size w w' := by
  obtain ⟨hl, x4, x7, o4, o5, o8⟩ := hb
  obtain ⟨z4, z5, z8⟩ := parts10 B hl
  have bd := D13.num_bd4 (B.extract 0 4).data.toList
  have HN4 := Lib.hid (fun w => ref13_number (B.extract 0 4) 4 w z4 (by omega))
  have HNm := Lib.hid (fun w => ref13_number (B.extract 5 7) 2 w z5 (by omega))
  have HNd := Lib.hid (fun w => ref13_number (B.extract 8 10) 2 w z8 (by omega))
  rw [o4] at HN4
  rw [o5] at HNm
  rw [o8] at HNd
  exact ref13_ReadCivil_nz s B sp s1 sj x0 eB w hl x4 x7 _ _ _ rfl rfl rfl _ _ _ HN4 HNm HNd yz
theorem ref13_ReadCivil_ngood (s B : ByteArray) (sp : (0 : Int) < (s.size : Int)) (s1 : (1 : Int) ≤ (s.size : Int)) (sj : 0 < s.size) (x0 : ((s[0]'sj).toNat : Int) = 45) (eB : s.extract 1 s.size = B) (w : World) (hb : OKB B) (yz : (numVal (B.extract 0 4).data.toList 4 == 0) = false) (h0 : Gr.gtE (-(numVal (B.extract 0 4).data.toList 4)) (numVal (B.extract 5 7).data.toList 2) (numVal (B.extract 8 10).data.toList 2) = 0) :
    Calls Tryz.prog 18 #[.string s] w fun e w' => e = .returned (.tuple #[.agg #[.int .i64 (-(numVal (B.extract 0 4).data.toList 4)), .int .i64 (numVal (B.extract 5 7).data.toList 2), .int .i64 (numVal (B.extract 8 10).data.toList 2)], .int .i64 (0)]) ∧ Below w.heap.size w w' := by
  obtain ⟨hl, x4, x7, o4, o5, o8⟩ := hb
  obtain ⟨z4, z5, z8⟩ := parts10 B hl
  have bd := D13.num_bd4 (B.extract 0 4).data.toList
  have HN4 := Lib.hid (fun w => ref13_number (B.extract 0 4) 4 w z4 (by omega))
  have HNm := Lib.hid (fun w => ref13_number (B.extract 5 7) 2 w z5 (by omega))
  have HNd := Lib.hid (fun w => ref13_number (B.extract 8 10) 2 w z8 (by omega))
  rw [o4] at HN4
  rw [o5] at HNm
  rw [o8] at HNd
  have HG := Lib.hid (fun w => ref11_ToDay (-(numVal (B.extract 0 4).data.toList 4)) (numVal (B.extract 5 7).data.toList 2) (numVal (B.extract 8 10).data.toList 2) w)
  rw [h0] at HG
  exact ref13_ReadCivil_nok s B sp s1 sj x0 eB w hl x4 x7 _ _ _ rfl rfl rfl _ _ _ bd.1 bd.2 yz HN4 HNm HNd _ HG
theorem ref13_ReadCivil_nrange (s B : ByteArray) (sp : (0 : Int) < (s.size : Int)) (s1 : (1 : Int) ≤ (s.size : Int)) (sj : 0 < s.size) (x0 : ((s[0]'sj).toNat : Int) = 45) (eB : s.extract 1 s.size = B) (w : World) (hb : OKB B) (yz : (numVal (B.extract 0 4).data.toList 4 == 0) = false) (h0 : ¬ Gr.gtE (-(numVal (B.extract 0 4).data.toList 4)) (numVal (B.extract 5 7).data.toList 2) (numVal (B.extract 8 10).data.toList 2) = 0) :
    Calls Tryz.prog 18 #[.string s] w fun e w' => e = .returned (.tuple #[.agg #[.int .i64 (0), .int .i64 (0), .int .i64 (0)], .int .i64 (2)]) ∧ Below w.heap.size w w' := by
  obtain ⟨hl, x4, x7, o4, o5, o8⟩ := hb
  obtain ⟨z4, z5, z8⟩ := parts10 B hl
  have bd := D13.num_bd4 (B.extract 0 4).data.toList
  have HN4 := Lib.hid (fun w => ref13_number (B.extract 0 4) 4 w z4 (by omega))
  have HNm := Lib.hid (fun w => ref13_number (B.extract 5 7) 2 w z5 (by omega))
  have HNd := Lib.hid (fun w => ref13_number (B.extract 8 10) 2 w z8 (by omega))
  rw [o4] at HN4
  rw [o5] at HNm
  rw [o8] at HNd
  have HG := Lib.hid (fun w => ref11_ToDay (-(numVal (B.extract 0 4).data.toList 4)) (numVal (B.extract 5 7).data.toList 2) (numVal (B.extract 8 10).data.toList 2) w)
  exact ref13_ReadCivil_nrng s B sp s1 sj x0 eB w hl x4 x7 _ _ _ rfl rfl rfl _ _ _ bd.1 bd.2 yz HN4 HNm HNd _ _ HG (by simpa using h0)
theorem okb_of {B : ByteArray} {a b c : ByteArray} (e : B.data.toList = a.data.toList ++ 45 :: (b.data.toList ++ 45 :: c.data.toList)) (o4 : numOk a.data.toList 4 = true) (om : numOk b.data.toList 2 = true) (od : numOk c.data.toList 2 = true) :
    OKB B ∧ B.extract 0 4 = a ∧ B.extract 5 7 = b ∧ B.extract 8 10 = c := by
  have lb := D13.ok_len om
  obtain ⟨f1, f2, f3, f4, f5, f6⟩ := D13.fromCut _ _ _ e (D13.ok_len o4) (D13.ok_len od) 7 (by omega)
  have g4 := D13.ext f4; have g5 := D13.ext f5; have g8 := D13.ext f6
  refine ⟨⟨f1, f2 (by omega), f3 (by omega), ?_, ?_, ?_⟩, g4, g5, g8⟩
  · rw [g4]; exact o4
  · rw [g5]; exact om
  · rw [show (8 : Nat) = 7 + 1 from rfl, show (10 : Nat) = 7 + 3 from rfl, g8]; exact od
theorem okb_list {B : ByteArray} (h : OKB B) : B.data.toList = (B.extract 0 4).data.toList ++ 45 :: ((B.extract 5 7).data.toList ++ 45 :: (B.extract 8 10).data.toList) := by
  obtain ⟨hl, x4, x7, o4, o5, o8⟩ := h
  exact D13.toCut 7 hl (by omega) x4 x7
theorem ref13_ReadCivil (s : ByteArray) (hs : s.size ≤ 1000000) (w : World) :
    Calls Tryz.prog 18 #[.string s] w fun e w' => e = .returned (.tuple #[.agg #[.int .i64 (rcY s), .int .i64 (rcM s), .int .i64 (rcD s)], .int .i64 (rcE s)]) ∧ Below w.heap.size w w' := by
  have hls : s.data.toList.length = s.size := by simp
  have bad : ∀ E : Int, rcE s = E → ¬ E = 0 → rcY s = 0 ∧ rcM s = 0 ∧ rcD s = 0 := by
    intro E e h
    have h' : ¬ rcE s = 0 := by rw [e]; exact h
    unfold rcY rcM rcD
    rw [if_neg h', if_neg h', if_neg h']
    exact ⟨rfl, rfl, rfl⟩
  cases hD : (numOk (bare (cutA (cutA s))).data.toList 4 && (numOk (cutB (cutA s)).data.toList 2 && numOk (cutB s).data.toList 2)) with
  | true =>
    have hD' := hD
    simp only [Bool.and_eq_true] at hD
    obtain ⟨o4, om, od⟩ := hD
    have ne4 : ¬ (bare (cutA (cutA s))).data.toList = [] := by intro e; rw [e] at o4; revert o4; decide
    rcases D13.bare_of (t := cutA (cutA s)) with ⟨f1, f2⟩ | ⟨f1, f2⟩
    · have e := D13.three' (X := s) (by rw [f2]; simp)
      have hB : (s.extract 1 s.size).data.toList = (bare (cutA (cutA s))).data.toList ++ 45 :: ((cutB (cutA s)).data.toList ++ 45 :: (cutB s).data.toList) := by
        rw [D13.ext_take, ← hls, List.take_length, e, f2]; rfl
      obtain ⟨hok, g4, g5, g8⟩ := okb_of hB o4 om od
      have sj : 0 < s.size := by rw [← hls, e, f2]; simp
      have x0 : ((s[0]'sj).toNat : Int) = 45 := D13.at_some (v := 45) (by rw [e, f2]; rfl) sj
      have hyv : rcYv s = -(numVal (bare (cutA (cutA s))).data.toList 4) := by unfold rcYv; rw [if_pos f1]
      cases hz : (numVal (bare (cutA (cutA s))).data.toList 4 == 0) with
      | true =>
        have e5 : rcE s = 5 := by unfold rcE rcOk; rw [hD', f1, hz]; rfl
        obtain ⟨b1, b2, b3⟩ := bad 5 e5 (by omega)
        rw [b1, b2, b3, e5]
        exact ref13_ReadCivil_nzero s _ (by omega) (by omega) sj x0 rfl w hok (by rw [g4]; exact hz)
      | false =>
        have ok : rcOk s = true := by unfold rcOk; rw [hD', f1, hz]; rfl
        by_cases h0 : Gr.gtE (rcYv s) (numVal (cutB (cutA s)).data.toList 2) (numVal (cutB s).data.toList 2) = 0
        · have e0 : rcE s = 0 := by unfold rcE; rw [if_pos ok, if_pos h0]
          unfold rcY rcM rcD
          rw [if_pos e0, if_pos e0, if_pos e0, e0, hyv]
          rw [hyv] at h0
          have := ref13_ReadCivil_ngood s _ (by omega) (by omega) sj x0 rfl w hok (by rw [g4]; exact hz) (by rw [g4, g5, g8]; exact h0)
          rw [g4, g5, g8] at this
          exact this
        · have e0 : rcE s = 2 := by unfold rcE; rw [if_pos ok, if_neg h0]
          obtain ⟨b1, b2, b3⟩ := bad 2 e0 (by omega)
          rw [b1, b2, b3, e0]
          rw [hyv] at h0
          exact ref13_ReadCivil_nrange s _ (by omega) (by omega) sj x0 rfl w hok (by rw [g4]; exact hz) (by rw [g4, g5, g8]; exact h0)
    · have e := D13.three' (X := s) (by rw [← f2]; exact ne4)
      rw [← f2] at e
      obtain ⟨hok, g4, g5, g8⟩ := okb_of e o4 om od
      obtain ⟨x, l, hx⟩ : ∃ x l, (bare (cutA (cutA s))).data.toList = x :: l := by
        cases h : (bare (cutA (cutA s))).data.toList with
        | nil => exact absurd h ne4
        | cons x l => exact ⟨x, l, rfl⟩
      have hxd : ¬ x = 45 := D13.no_dash o4 x (by rw [hx]; exact List.mem_cons_self)
      have sj : 0 < s.size := by rw [← hls, e, hx]; simp
      have x0 : (((s[0]'sj).toNat : Int) == 45) = false := by
        have := D13.at_some (G := s) (i := 0) (v := x) (by rw [e, hx]; rfl) sj
        rw [this]
        simp only [beq_eq_false_iff_ne, ne_eq]
        intro q
        exact hxd (by rw [← UInt8.toNat_inj]; show _ = 45; omega)
      have hyv : rcYv s = numVal (bare (cutA (cutA s))).data.toList 4 := by unfold rcYv; rw [f1]; exact if_neg (by simp)
      have ok : rcOk s = true := by unfold rcOk; rw [hD', f1]; rfl
      by_cases h0 : Gr.gtE (rcYv s) (numVal (cutB (cutA s)).data.toList 2) (numVal (cutB s).data.toList 2) = 0
      · have e0 : rcE s = 0 := by unfold rcE; rw [if_pos ok, if_pos h0]
        unfold rcY rcM rcD
        rw [if_pos e0, if_pos e0, if_pos e0, e0, hyv]
        rw [hyv] at h0
        have := ref13_ReadCivil_pgood s (by omega) sj x0 w hok (by rw [g4, g5, g8]; exact h0)
        rw [g4, g5, g8] at this
        exact this
      · have e0 : rcE s = 2 := by unfold rcE; rw [if_pos ok, if_neg h0]
        obtain ⟨b1, b2, b3⟩ := bad 2 e0 (by omega)
        rw [b1, b2, b3, e0]
        rw [hyv] at h0
        exact ref13_ReadCivil_prange s (by omega) sj x0 w hok (by rw [g4, g5, g8]; exact h0)
  | false =>
    have e5 : rcE s = 5 := by unfold rcE rcOk; rw [hD]; rfl
    obtain ⟨b1, b2, b3⟩ := bad 5 e5 (by omega)
    rw [b1, b2, b3, e5]
    by_cases h0 : s.size = 0
    · exact ref13_ReadCivil_pe s w h0
    have sj : 0 < s.size := by omega
    by_cases x0 : ((s[0]'sj).toNat : Int) = 45
    · refine ref13_ReadCivil_nbad s _ (by omega) (by omega) sj x0 rfl w (fun hok => ?_)
      have hB := okb_list hok
      obtain ⟨hl, x4, x7, o4, o5, o8⟩ := hok
      have hS : s.data.toList = 45 :: (s.extract 1 s.size).data.toList := by
        rw [D13.ext_take, ← hls, List.take_length]
        have h1 : 0 < s.data.toList.length := by omega
        have h2 : s.data.toList[0]'h1 = 45 := by rw [← UInt8.toNat_inj]; show (s[0]'sj).toNat = 45; omega
        have h3 := List.drop_eq_getElem_cons h1
        rw [h2, List.drop_zero] at h3
        exact h3
      obtain ⟨a1, a2, a3⟩ := D13.cutsOf (G := s) (a := 45 :: ((s.extract 1 s.size).extract 0 4).data.toList) (by rw [hS]; exact congrArg (45 :: ·) hB) (D13.no_dash o5) (D13.no_dash o8)
      obtain ⟨_, a4⟩ := D13.bare_dash a1
      rw [a4, a2, a3, o4, o5, o8] at hD
      cases hD
    · refine ref13_ReadCivil_pbad s (by omega) sj (by simpa using x0) w (fun hok => ?_)
      have hB := okb_list hok
      obtain ⟨hl, x4, x7, o4, o5, o8⟩ := hok
      obtain ⟨a1, a2, a3⟩ := D13.cutsOf hB (D13.no_dash o5) (D13.no_dash o8)
      have a4 : (bare (cutA (cutA s))).data.toList = (s.extract 0 4).data.toList := by
        cases h : (s.extract 0 4).data.toList with
        | nil => rw [h] at o4; exact absurd o4 (by decide)
        | cons x l =>
          rw [h] at a1
          exact (D13.bare_dig a1 (D13.no_dash o4 x (by rw [h]; exact List.mem_cons_self))).2
      rw [a4, a2, a3, o4, o5, o8] at hD
      cases hD
end Go.Proofs.YtafenpgafmdenaaGreatDoor
/- Layer 13: TextTells. -/
namespace Go.Proofs.YtafenpgafmdenaaGreatDoor
open Go.ChangeShapes Go.WideShapes Go.ChangeAt Go.RowKit
set_option linter.unusedVariables false
set_option maxRecDepth 100000
theorem TextTells_walk (y n : Int) (l : Bool) (d cy cm cd : Int) (s : ByteArray) (hy : I64 y) (hn : I64 n) (hd : I64 d) (hcy : I64 cy) (hcm : I64 cm) (hcd : I64 cd) (hsz : s.size ≤ maxLen) (m : Int) (w : World) (hm : MaxAt w m) (hT : Tab w 8 kevCells) (hL : Tab w 6 lenCells) (hG : Tab w 2 Gr.gregCells) (hP : Tab w 1 powCells) :
    Calls Tryz.prog 3 #[.agg #[.int .i64 (y), .int .i64 (n), .bool (l), .int .i64 (d)], .agg #[.int .i64 (cy), .int .i64 (cm), .int .i64 (cd)], .string s] w fun e w' => e = .returned (.bool true) ∧ Below w.heap.size w w' := by
  have HW := Lib.hid (fun w hT hL hP hG hm => awake13 w hT hL hP hG m hm)
  by_cases h100 : (100 : Int) < (s.size : Int)
  · exact TextTells_long y n l d cy cm cd s w hT hL hP hG m hm h100 HW
  have hs : s.size ≤ 1000000 := by omega
  obtain ⟨cn, cl, ok, hI⟩ := isCode_some (cutB (cutA (great s)))
  exact TextTells_go y n l d cy cm cd s (hebV y n l d) (civV cy cm cd) _ _ _ _ _ _ _ _ _ _ _ w hT hL hP hG m hm h100 HW
    (Lib.hid (fun w hT hL hP => text_Heb y n l d w hy hT hL hP)) (Lib.hid (fun w => ref13_Heb y n l d w hy))
    (Lib.hid (fun w hG hP => text_Civil cy cm cd w hG hP)) (Lib.hid (fun w => ref13_Civil cy cm cd w))
    (Lib.hid (fun w hT hL hm => text_ReadHeb s cn cl ok m hs w hT hL hm hI)) (Lib.hid (fun w => ref13_ReadHeb s cn cl ok hs w hI))
    (Lib.hid (fun w hG => text_ReadCivil s hs w hG)) (Lib.hid (fun w => ref13_ReadCivil s hs w))
end Go.Proofs.YtafenpgafmdenaaGreatDoor
