/- Layer 14: a date's words. -/
import Derived.Test.YtagmdglmflcegaaGreatDoorName2
import Derived.Test.YtagmdglmflcegaaGreatDoorLib
import Derived.Lib.ItoaLen
import Derived.Lib.SmallJoins
import Derived.Lib.AppendIntMem
import Derived.LoopTactic
import Derived.Outline
namespace Go.Proofs.YtagmdglmflcegaaGreatDoor
open Go.ChangeShapes Go.WideShapes Go.ChangeAt Go.RowKit
set_option linter.unusedVariables false
set_option maxRecDepth 100000
theorem itoa_at (v : Int) (hv : I64 v) (w : World) (h : Lib.TabIs Tryz.prog w "internal/strconv.uint64pow10" .u64 Lib.pow10Tab) :
    Calls Tryz.prog 35 #[.int .i64 v] w fun e w' => e = .returned (.string ⟨(Lib.itoa v).toArray⟩) ∧ Below w.heap.size w w' := by
  refine (Tryz.strconv_Itoa v hv.1 hv.2 w h).mono ?_
  rintro e w1 ⟨rfl, k, os, rfl⟩
  exact ⟨rfl, Lib.below_grow _ _ (Nat.le_refl _) _ _⟩
theorem pow_stays {w w' : World} (h : Lib.TabIs Tryz.prog w "internal/strconv.uint64pow10" .u64 Lib.pow10Tab) (hb : Below w.heap.size w w') : Lib.TabIs Tryz.prog w' "internal/strconv.uint64pow10" .u64 Lib.pow10Tab :=
  Joins.tab_stays (g := 4) (by kernel_rfl) h hb (Nat.le_refl _)
set_option maxHeartbeats 2000000 in
theorem name_Print_err (y n : Int) (l : Bool) (d er : Int) (w : World) (hT : Tab w 2 kevCells) (hL : Tab w 3 lenCells) (HC : Hid (∀ w : World, Tab w 2 kevCells → Tab w 3 lenCells → Calls Tryz.prog 34 #[.agg #[.int .i64 y, .int .i64 n, .bool l, .int .i64 d]] w fun e w' => e = .returned (.int .i64 (er)) ∧ Below w.heap.size w w')) (h : (er != 0) = true) :
    Calls Tryz.prog 11 #[.agg #[.int .i64 y, .int .i64 n, .bool l, .int .i64 d]] w fun e w' => e = .returned (.tuple #[.string ⟨#[]⟩, .int .i64 (er)]) ∧ Below w.heap.size w w' := by
  go_enter Tryz.func11, Tryz.ntmps11
  go_wp2_with fail
  refine (HC.out _ (Tab.below hT (by repeat (first | exact Below.refl _ _ | assumption | (with_reducible refine bdrew ?_) | (with_reducible refine baa ?_ _) | (with_reducible refine bs ?_ (by first | exact Nat.le_refl _ | omega | (simp; done) | (simp; omega)) _) | (with_reducible refine bt ?_ (by assumption))))) (Tab.below hL (by repeat (first | exact Below.refl _ _ | assumption | (with_reducible refine bdrew ?_) | (with_reducible refine baa ?_ _) | (with_reducible refine bs ?_ (by first | exact Nat.le_refl _ | omega | (simp; done) | (simp; omega)) _) | (with_reducible refine bt ?_ (by assumption)))))).mono ?_
  rintro e w1 ⟨rfl, hb1⟩
  obtain ⟨hc1, hf1⟩ := bcell hb1
  have hz1 := hb1.size
  try simp at hz1
  have hs1x0 : w.heap.size < w1.heap.size := by omega
  have g1x0 : w1.cell? ⟨w.heap.size, 0, none⟩ = some (.int .i64 y) := (hc1 _ _ (by first | omega | (simp; done) | (simp; omega))).trans (by first | (with_reducible assumption) | (simp [go_sem]; done) | (simp [go_sem, *]; done) | assumption)
  have g1x1 : w1.cell? ⟨w.heap.size, 1, none⟩ = some (.int .i64 n) := (hc1 _ _ (by first | omega | (simp; done) | (simp; omega))).trans (by first | (with_reducible assumption) | (simp [go_sem]; done) | (simp [go_sem, *]; done) | assumption)
  have g1x2 : w1.cell? ⟨w.heap.size, 2, none⟩ = some (.bool l) := (hc1 _ _ (by first | omega | (simp; done) | (simp; omega))).trans (by first | (with_reducible assumption) | (simp [go_sem]; done) | (simp [go_sem, *]; done) | assumption)
  have g1x3 : w1.cell? ⟨w.heap.size, 3, none⟩ = some (.int .i64 d) := (hc1 _ _ (by first | omega | (simp; done) | (simp; omega))).trans (by first | (with_reducible assumption) | (simp [go_sem]; done) | (simp [go_sem, *]; done) | assumption)
  go_wp2_with fail
  go_ret2
  refine ⟨rfl, ?_⟩
  repeat (first | exact Below.refl _ _ | assumption | (with_reducible refine bdrew ?_) | (with_reducible refine baa ?_ _) | (with_reducible refine bs ?_ (by first | exact Nat.le_refl _ | omega | (simp; done) | (simp; omega)) _) | (with_reducible refine bt ?_ (by assumption)))
set_option maxHeartbeats 4000000 in
theorem name_Print_ok (y n : Int) (l : Bool) (d : Int) (sn sd sy : ByteArray) (w : World) (hT : Tab w 2 kevCells) (hL : Tab w 3 lenCells) (hN : Tab w 0 nameCells) (hI : Lib.TabIs Tryz.prog w "internal/strconv.uint64pow10" .u64 Lib.pow10Tab) (HC : Hid (∀ w : World, Tab w 2 kevCells → Tab w 3 lenCells → Calls Tryz.prog 34 #[.agg #[.int .i64 y, .int .i64 n, .bool l, .int .i64 d]] w fun e w' => e = .returned (.int .i64 (0)) ∧ Below w.heap.size w w')) (HM : Hid (∀ w : World, Tab w 2 kevCells → Tab w 3 lenCells → Tab w 0 nameCells → Calls Tryz.prog 9 #[.int .i64 y, .agg #[.int .i64 n, .bool l]] w fun e w' => e = .returned (.tuple #[.string sn, .int .i64 0]) ∧ Below w.heap.size w w')) (HD : Hid (∀ w : World, Lib.TabIs Tryz.prog w "internal/strconv.uint64pow10" .u64 Lib.pow10Tab → Calls Tryz.prog 35 #[.int .i64 d] w fun e w' => e = .returned (.string sd) ∧ Below w.heap.size w w')) (HY : Hid (∀ w : World, Lib.TabIs Tryz.prog w "internal/strconv.uint64pow10" .u64 Lib.pow10Tab → Calls Tryz.prog 35 #[.int .i64 y] w fun e w' => e = .returned (.string sy) ∧ Below w.heap.size w w')) (z1 : sn.size ≤ 100) (z2 : sd.size ≤ 100) (z3 : sy.size ≤ 100) :
    Calls Tryz.prog 11 #[.agg #[.int .i64 y, .int .i64 n, .bool l, .int .i64 d]] w fun e w' => e = .returned (.tuple #[.string (sd ++ ⟨#[32]⟩ ++ sn ++ ⟨#[32]⟩ ++ sy), .int .i64 (0)]) ∧ Below w.heap.size w w' := by
  go_enter Tryz.func11, Tryz.ntmps11
  go_wp2_with fail
  refine (HC.out _ (Tab.below hT (by repeat (first | exact Below.refl _ _ | assumption | (with_reducible refine bdrew ?_) | (with_reducible refine baa ?_ _) | (with_reducible refine bs ?_ (by first | exact Nat.le_refl _ | omega | (simp; done) | (simp; omega)) _) | (with_reducible refine bt ?_ (by assumption))))) (Tab.below hL (by repeat (first | exact Below.refl _ _ | assumption | (with_reducible refine bdrew ?_) | (with_reducible refine baa ?_ _) | (with_reducible refine bs ?_ (by first | exact Nat.le_refl _ | omega | (simp; done) | (simp; omega)) _) | (with_reducible refine bt ?_ (by assumption)))))).mono ?_
  rintro e w1 ⟨rfl, hb1⟩
  obtain ⟨hc1, hf1⟩ := bcell hb1
  have hz1 := hb1.size
  try simp at hz1
  have hs1x0 : w.heap.size < w1.heap.size := by omega
  have g1x0 : w1.cell? ⟨w.heap.size, 0, none⟩ = some (.int .i64 y) := (hc1 _ _ (by first | omega | (simp; done) | (simp; omega))).trans (by first | (with_reducible assumption) | (simp [go_sem]; done) | (simp [go_sem, *]; done) | assumption)
  have g1x1 : w1.cell? ⟨w.heap.size, 1, none⟩ = some (.int .i64 n) := (hc1 _ _ (by first | omega | (simp; done) | (simp; omega))).trans (by first | (with_reducible assumption) | (simp [go_sem]; done) | (simp [go_sem, *]; done) | assumption)
  have g1x2 : w1.cell? ⟨w.heap.size, 2, none⟩ = some (.bool l) := (hc1 _ _ (by first | omega | (simp; done) | (simp; omega))).trans (by first | (with_reducible assumption) | (simp [go_sem]; done) | (simp [go_sem, *]; done) | assumption)
  have g1x3 : w1.cell? ⟨w.heap.size, 3, none⟩ = some (.int .i64 d) := (hc1 _ _ (by first | omega | (simp; done) | (simp; omega))).trans (by first | (with_reducible assumption) | (simp [go_sem]; done) | (simp [go_sem, *]; done) | assumption)
  go_wp2_with fail
  refine (HM.out _ (Tab.below hT (by repeat (first | exact Below.refl _ _ | assumption | (with_reducible refine bdrew ?_) | (with_reducible refine baa ?_ _) | (with_reducible refine bs ?_ (by first | exact Nat.le_refl _ | omega | (simp; done) | (simp; omega)) _) | (with_reducible refine bt ?_ (by assumption))))) (Tab.below hL (by repeat (first | exact Below.refl _ _ | assumption | (with_reducible refine bdrew ?_) | (with_reducible refine baa ?_ _) | (with_reducible refine bs ?_ (by first | exact Nat.le_refl _ | omega | (simp; done) | (simp; omega)) _) | (with_reducible refine bt ?_ (by assumption))))) (Tab.below hN (by repeat (first | exact Below.refl _ _ | assumption | (with_reducible refine bdrew ?_) | (with_reducible refine baa ?_ _) | (with_reducible refine bs ?_ (by first | exact Nat.le_refl _ | omega | (simp; done) | (simp; omega)) _) | (with_reducible refine bt ?_ (by assumption)))))).mono ?_
  rintro e w2 ⟨rfl, hb2⟩
  obtain ⟨hc2, hf2⟩ := bcell hb2
  have hz2 := hb2.size
  try simp at hz2
  have hs2x0 : w.heap.size < w2.heap.size := by omega
  have g2x0 : w2.cell? ⟨w.heap.size, 0, none⟩ = some (.int .i64 y) := (hc2 _ _ (by first | omega | (simp; done) | (simp; omega))).trans (by first | (with_reducible assumption) | (simp [go_sem]; done) | (simp [go_sem, *]; done) | assumption)
  have g2x1 : w2.cell? ⟨w.heap.size, 1, none⟩ = some (.int .i64 n) := (hc2 _ _ (by first | omega | (simp; done) | (simp; omega))).trans (by first | (with_reducible assumption) | (simp [go_sem]; done) | (simp [go_sem, *]; done) | assumption)
  have g2x2 : w2.cell? ⟨w.heap.size, 2, none⟩ = some (.bool l) := (hc2 _ _ (by first | omega | (simp; done) | (simp; omega))).trans (by first | (with_reducible assumption) | (simp [go_sem]; done) | (simp [go_sem, *]; done) | assumption)
  have g2x3 : w2.cell? ⟨w.heap.size, 3, none⟩ = some (.int .i64 d) := (hc2 _ _ (by first | omega | (simp; done) | (simp; omega))).trans (by first | (with_reducible assumption) | (simp [go_sem]; done) | (simp [go_sem, *]; done) | assumption)
  go_wp2_with fail
  have hW2 : Below w.heap.size w w2 := by repeat (first | (with_reducible exact Below.refl _ _) | (with_reducible assumption) | (with_reducible refine bdrew ?_) | (with_reducible refine baa ?_ _) | (with_reducible refine bs ?_ (by first | exact Nat.le_refl _ | omega | (simp; done) | (simp; omega)) _) | (with_reducible refine bt ?_ (by with_reducible assumption)))
  refine wp_region_class (by kernel_rfl) (by kernel_rfl) (fun hall => ?_)
  repeat (first | go_big_quiet_skip | (go_big_quiet_want; first | (refine quiet_load1 _ _ _ rfl rfl ?_ ?_ ?_; (focus (intro _; simp; done)); (focus (first | assumption | omega | (simp; done) | (simp; omega))); apply Exists.intro; refine ⟨?_, ?_⟩; assumption; go_simp; go_big_quiet_on) | (refine quiet_load2 _ _ _ _ rfl rfl ?_ ?_ ?_ ?_; (focus (intro _; simp; done)); (focus (intro _; simp; done)); (focus (first | assumption | omega | (simp; done) | (simp; omega))); apply Exists.intro; apply Exists.intro; refine ⟨?_, ?_, ?_⟩; assumption; assumption; go_simp; go_big_quiet_on) | (refine quiet_load3 _ _ _ _ rfl rfl ?_ ?_ ?_ ?_; (focus (intro _; simp; done)); (focus (intro _; simp; done)); (focus (first | assumption | omega | (simp; done) | (simp; omega))); apply Exists.intro; apply Exists.intro; apply Exists.intro; refine ⟨?_, ?_, ?_, ?_⟩; assumption; assumption; assumption; go_simp; go_big_quiet_on) | (refine quiet_load4 _ _ _ _ rfl rfl ?_ ?_ ?_ ?_; (focus (intro _; simp; done)); (focus (intro _; simp; done)); (focus (first | assumption | omega | (simp; done) | (simp; omega))); apply Exists.intro; apply Exists.intro; apply Exists.intro; apply Exists.intro; refine ⟨?_, ?_, ?_, ?_, ?_⟩; assumption; assumption; assumption; assumption; go_simp; go_big_quiet_on) | (go_big_quiet_op; first | go_big_quiet_on | (apply Exists.intro; refine ⟨fun x hx => ?_, ?_⟩; (first | (with_reducible exact call_below hx (HD.out x (pow_stays hI (bt hW2 hx)))) | (with_reducible exact call_below hx (HY.out x (pow_stays hI (bt hW2 hx)))) | exact call_below hx (HD.out x (pow_stays hI (bt hW2 hx))) | exact call_below hx (HY.out x (pow_stays hI (bt hW2 hx)))); go_big_quiet_on))))
  refine wpQuiet_nil ?_
  clear hall
  intro x3 hx3
  go_wp2_with fail
  go_ret2
  exact ⟨rfl, bt hW2 hx3⟩
def wordsV (y n : Int) (l : Bool) (d : Int) : ByteArray := ⟨(Lib.itoa d).toArray⟩ ++ ⟨#[32]⟩ ++ nameV y n l ++ ⟨#[32]⟩ ++ ⟨(Lib.itoa y).toArray⟩
theorem nameV_size (y n : Int) (l : Bool) (h : 1 ≤ n ∧ n ≤ 12) : (nameV y n l).size ≤ 100 := by
  unfold nameV
  split
  · decide
  · split
    · decide
    · have hn : n = 1 ∨ n = 2 ∨ n = 3 ∨ n = 4 ∨ n = 5 ∨ n = 6 ∨ n = 7 ∨ n = 8 ∨ n = 9 ∨ n = 10 ∨ n = 11 ∨ n = 12 := by omega
      rcases hn with rfl | rfl | rfl | rfl | rfl | rfl | rfl | rfl | rfl | rfl | rfl | rfl <;> decide
theorem name_Print (y n : Int) (l : Bool) (d : Int) (w : World) (hy : I64 y) (hd : I64 d) (hT : Tab w 2 kevCells) (hL : Tab w 3 lenCells) (hN : Tab w 0 nameCells) (hI : Lib.TabIs Tryz.prog w "internal/strconv.uint64pow10" .u64 Lib.pow10Tab) :
    Calls Tryz.prog 11 #[.agg #[.int .i64 y, .int .i64 n, .bool l, .int .i64 d]] w fun e w' => e = .returned (.tuple #[.string (if D10.dateE y n l d = 0 then wordsV y n l d else ⟨#[]⟩), .int .i64 (D10.dateE y n l d)]) ∧ Below w.heap.size w w' := by
  have HC := Lib.hid (fun w hT hL => heb_Check y n l d w hy hT hL)
  by_cases c : D10.dateE y n l d = 0
  · rw [c] at HC
    rw [c, if_pos rfl]
    obtain ⟨⟨y1, y2, _⟩, hp⟩ := D10.date_valid c
    have hL0 : D10.lastE y n l = 0 := by
      unfold D10.lastE
      rw [show Cal.yearIn y = true by simp [Cal.yearIn]; omega, hp]; rfl
    have HM := Lib.hid (fun w hT hL hN => name_Month y n l w hy hT hL hN)
    rw [hL0, if_pos rfl] at HM
    have hr : 1 ≤ n ∧ n ≤ 12 := by
      simp [Cal.plOk, Cal.right] at hp; omega
    exact name_Print_ok y n l d _ _ _ w hT hL hN hI HC HM (Lib.hid (fun w h => itoa_at d hd w h)) (Lib.hid (fun w h => itoa_at y hy w h)) (nameV_size y n l hr)
      (by have := Lib.itoa_length_le d hd.1 hd.2; simp [ByteArray.size]; omega) (by have := Lib.itoa_length_le y hy.1 hy.2; simp [ByteArray.size]; omega)
  · rw [if_neg c]
    exact name_Print_err y n l d _ w hT hL HC (by simpa using c)
end Go.Proofs.YtagmdglmflcegaaGreatDoor
