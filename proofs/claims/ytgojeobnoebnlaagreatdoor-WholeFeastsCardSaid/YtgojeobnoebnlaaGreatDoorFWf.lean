import Derived.Test.YtgojeobnoebnlaaGreatDoorFWf0
set_option maxHeartbeats 8000000
set_option maxRecDepth 100000
set_option linter.unusedSimpArgs false
set_option linter.unusedVariables false
namespace Go.Proofs.YtgojeobnoebnlaaGreatDoor
open Go.ChangeShapes Go.WideShapes Go.ChangeAt Go.RowKit Go.Lib Go.Sort Go.Shelf
namespace Dy
theorem feq {n na nb nc : Nat} (hn : n ≤ 240) (hs : na + nb + nc ≤ n) : wrap64 ((na : Int) + (nb : Int)) = (na : Int) + (nb : Int) ∧ wrap64 ((na : Int) + (nb : Int) + (nc : Int)) = (na : Int) + (nb : Int) + (nc : Int) ∧ decide ((n : Int) < (na : Int) + (nb : Int) + (nc : Int)) = false ∧ (¬ (n : Int) < (na : Int) + (nb : Int) + (nc : Int)) ∧ (¬ n < na + nb + nc) ∧ decide (n < na + nb + nc) = false :=
 ⟨IntWalk.wrap64_in _ ⟨by omega, by omega⟩, IntWalk.wrap64_in _ ⟨by omega, by omega⟩, decide_eq_false (by omega), by omega, by omega, decide_eq_false (by omega)⟩
end Dy
theorem WholeFeasts_go (y u pl : Int) (n na nb nc : Nat) (L A B E : List (Int × Int)) (w : World) (hy : 0 ≤ y ∧ y ≤ 65535) (hu : 0 ≤ u ∧ u ≤ 255) (hpl : u % 2 = pl) (hl : L.length = n) (hla : A.length = na) (hlb : B.length = nb) (hlc : E.length = nc) (hn : n ≤ 240) (hs : na + nb + nc ≤ n) (hT : Tab w 6 kevCells) (hL : Tab w 3 lenCells) (hF : Tab w 0 Fe.cells) (hA : Tab w 1 Fa.cells) (hG : Tab w 5 Gr.gregCells) (hP : Tab w 4 powCells)
  (HE : Hid (∀ w : World, Tab w 6 kevCells → Tab w 3 lenCells → Tab w 0 Fe.cells → Tab w 1 Fa.cells → Calls Tryo.prog 6 #[.int .i64 (1 + y % 9999), .int .i64 pl] w fun e w' => ∃ v, e = .returned (.tuple #[v, .int .i64 0]) ∧ Ev.Own w' w.heap.size v L ∧ Below w.heap.size w w'))
  (HFe : Hid (∀ w : World, Tab w 6 kevCells → Tab w 3 lenCells → Tab w 0 Fe.cells → Calls Tryo.prog 7 #[.int .i64 (1 + y % 9999), .int .i64 pl] w fun e w' => ∃ v, e = .returned (.tuple #[v, .int .i64 0]) ∧ Ev.Own w' w.heap.size v A ∧ Below w.heap.size w w'))
  (HFa : Hid (∀ w : World, Tab w 6 kevCells → Tab w 3 lenCells → Tab w 1 Fa.cells → Calls Tryo.prog 8 #[.int .i64 (1 + y % 9999)] w fun e w' => ∃ v, e = .returned (.tuple #[v, .int .i64 0]) ∧ Ev.Own w' w.heap.size v B ∧ Below w.heap.size w w'))
  (HSp : Hid (∀ w : World, Tab w 6 kevCells → Tab w 3 lenCells → Calls Tryo.prog 9 #[.int .i64 (1 + y % 9999)] w fun e w' => ∃ v, e = .returned (.tuple #[v, .int .i64 0]) ∧ Ev.Own w' w.heap.size v E ∧ Below w.heap.size w w'))
  (HDy : Hid (∀ (j : Nat) (kd D : Int), L[j]? = some (kd, D) → ∃ (num d : Int) (lf : Bool), 1 ≤ num ∧ num ≤ 13 ∧ 1 ≤ d ∧ d ≤ 30 ∧ Dy.go9 kd num d (D % 7) lf = true ∧ Hid (∀ w : World, Tab w 6 kevCells → Tab w 3 lenCells → Calls Tryo.prog 10 #[.int .i64 D] w fun e w' => e = .returned (.tuple #[.agg #[.int .i64 (1 + y % 9999), .int .i64 num, .bool lf, .int .i64 d], .int .i64 0]) ∧ Below w.heap.size w w'))) :
  Calls Tryo.prog 3 #[.int .u16 y, .int .u8 u] w fun e w' => e = .returned (.bool true) ∧ Below w.heap.size w w' := by
 have HW := Lib.hid (fun w hT hL hG hF hP => awake28 w hT hL hG hF hP)
 have HY := Lib.hid (fun w => top_year9 y hy w)
 have HN := Lib.hid hl
 have HEQ := Lib.hid (Dy.feq hn hs)
 obtain ⟨y1, y2⟩ := hy
 obtain ⟨u1, u2⟩ := hu
 have k1 := Int.emod_nonneg y (show (9999 : Int) ≠ 0 by decide)
 have k2 := Int.emod_lt_of_pos y (show (0 : Int) < 9999 by decide)
 have l0 : u.tmod 2 = pl := (Int.tmod_eq_emod_of_nonneg u1).trans hpl
 have hpl2 : 0 ≤ pl ∧ pl ≤ 1 := by omega
 obtain ⟨q1, q2⟩ := hpl2
 clear hpl
 go_enter Tryo.func3, Tryz.ntmps3
 go_wp2_with fail
 refine (HY.out _).mono ?_
 rintro e w' ⟨rfl, rfl⟩
 go_wp2_with fail
 refine (HE.out _ (Tab.below hT bel) (Tab.below hL bel) (Tab.below hF bel) (Tab.below hA bel)).mono ?_
 rintro e w1 ⟨v1, rfl, ho1, hb1⟩
 have hB1 : Below w.heap.size w w1 := bel
 obtain ⟨p1, c1, rfl⟩ := ho1.row.len
 rw [hl] at ho1 ⊢
 go_wp2_with fail
 refine (HFe.out _ (Tab.below hT bel) (Tab.below hL bel) (Tab.below hF bel)).mono ?_
 rintro e w2 ⟨v2, rfl, ho2, hb2⟩
 have hB12 : Below w1.heap.size w1 w2 := bel
 have hB2 : Below w.heap.size w w2 := bt hB1 hB12
 obtain ⟨p2, c2, rfl⟩ := ho2.row.len
 rw [hla]
 clear ho2 hb2
 go_wp2_with fail
 refine (HFa.out _ (Tab.below hT bel) (Tab.below hL bel) (Tab.below hA bel)).mono ?_
 rintro e w3 ⟨v3, rfl, ho3, hb3⟩
 have hB23 : Below w2.heap.size w2 w3 := bel
 have hB3 : Below w.heap.size w w3 := bt hB2 hB23
 obtain ⟨p3, c3, rfl⟩ := ho3.row.len
 rw [hlb]
 clear ho3 hb3
 go_wp2_with fail
 refine (HSp.out _ (Tab.below hT bel) (Tab.below hL bel)).mono ?_
 rintro e w4 ⟨v4, rfl, ho4, hb4⟩
 have hB34 : Below w3.heap.size w3 w4 := bel
 have hB4 : Below w.heap.size w w4 := bt hB3 hB34
 have hB14 : Below w1.heap.size w1 w4 := bt hB12 (bt hB23 hB34)
 obtain ⟨p4, c4, rfl⟩ := ho4.row.len
 rw [hlc]
 have R4 := Lib.hid (ho1.row.below hB14)
 clear ho4 hb4 hb1 ho1 hB12 hB23 hB34 hB14 hB1 hB2 hB3 HE HFe HFa HSp HY
 obtain ⟨e1, e2, e3, e4, e5, e6⟩ := HEQ.out
 clear HEQ k1 k2 l0 q1 q2 u1 u2 y1 y2 hla hlb hlc hl hs
 go_wp2_with fail
 clear e1 e2 e3 e4 e5 e6
 go_loopw [15] (fun iv wr => ∃ j : Nat, j ≤ n ∧ iv = .int .i64 (j : Int) ∧ Below w4.heap.size w4 wr) (fun i _ => n - (intOf i).toNat)
 case atStart => exact ⟨0, Nat.zero_le _, rfl, Below.refl _ _⟩
 case round =>
  obtain ⟨j, hj, rfl, hB⟩ := hrel
  obtain ⟨w9, rfl⟩ : ∃ x, x = wr := ⟨_, rfl⟩
  have hB9 : Below w.heap.size w w9 := bt hB4 hB
  by_cases hlt : j < n
  ·obtain ⟨⟨kd, D⟩, hx⟩ : ∃ x, L[j]? = some x := ⟨_, List.getElem?_eq_getElem (by rw [HN.out]; exact hlt)⟩
   obtain ⟨num, d, lf, n1, n2, d1, d2, hg, HF⟩ := HDy.out j kd D hx
   obtain ⟨b, off, cc, hp1, hc⟩ := (R4.out.below hB).at_some (by rw [HN.out]; omega)
   rw [HN.out] at hp1
   simp only [Value.slice.injEq] at hp1
   obtain ⟨rfl, _, rfl⟩ := hp1
   obtain ⟨x1, x2⟩ := Ev.cells_at hc j (kd, D) hx
   have lx := World.block_lt_of_cell? _ _ x1
   dsimp only at lx x1 x2
   have j0 : (0 : Int) ≤ (j : Int) := by omega
   have j1 : (j : Int) < (n : Int) := by omega
   obtain ⟨wd, hwd⟩ : ∃ x, D % 7 = x := ⟨_, rfl⟩
   have HWk := Lib.hid (fun w => (hwd ▸ ref4_Weekday D w : Calls Tryo.prog 11 #[.int .i64 D] w fun e w' => e = .returned (.int .i64 wd) ∧ w = w'))
   have hg2 := Dy.go9_of hg
   rw [hwd] at hg2
   clear hc hx hwd hg
   go_wp2_with fail
   refine (HF.out _ (Tab.below hT hB9) (Tab.below hL hB9)).mono ?_
   rintro e w6 ⟨rfl, hb6⟩
   have z1 := (hb6.cell lx).trans x1
   have z2 := (hb6.cell lx).trans x2
   have hz6 := hb6.size
   have lz : b < w6.heap.size := by omega
   have hB6 : Below w4.heap.size w4 w6 := bt hB hb6
   have ne6 : b ≠ w6.heap.size := by omega
   clear x1 x2 lx
   go_wp2_with fail
   refine (HWk.out _).mono ?_
   rintro e w' ⟨rfl, rfl⟩
   have hk : ((1 + y % 9999) != (1 + y % 9999)) = false := by simp
   have a1 : wrap64 (100 * num) = 100 * num := IntWalk.wrap64_in _ ⟨by omega, by omega⟩
   have a2 : wrap64 (100 * num + d) = 100 * num + d := IntWalk.wrap64_in _ ⟨by omega, by omega⟩
   go_upto_region 17 with fail
   clear a1 a2 hk HF HWk HDy
   rcases hg2 with ⟨rfl, rfl, ⟨rfl, hw⟩ | ⟨rfl, rfl⟩⟩ | ⟨rfl, rfl, rfl⟩ | ⟨rfl, rfl, rfl, hw⟩ | ⟨rfl, rfl, ⟨rfl, hw⟩ | ⟨rfl, rfl⟩⟩ | ⟨rfl, rfl, rfl, rfl⟩ | ⟨rfl, rfl, ⟨rfl, hw⟩ | ⟨rfl, rfl⟩⟩ | ⟨rfl, rfl, ⟨rfl, hw⟩ | ⟨rfl, rfl⟩⟩ | ⟨rfl, rfl, ⟨rfl, hw⟩ | ⟨rfl, rfl⟩⟩ | ⟨rfl, rfl, ⟨rfl, rfl⟩ | ⟨rfl, rfl⟩ | ⟨rfl, rfl⟩ | ⟨rfl, rfl⟩⟩ | ⟨b1, b2, rfl⟩ | ⟨m1, m2, m3, m4, m5, m6, m7, m8, m9, m10⟩
   ·have g6 : (wd != 6) = true := by simpa using hw
    as_aux_lemma =>
     go_wp2_with fail
     go_roundw
     case rel => exact ⟨j + 1, hlt, by go_num, bel⟩
     case measure => first | (simp [intOf]; done) | (simp [intOf]; omega)
   ·as_aux_lemma =>
     go_wp2_with fail
     go_roundw
     case rel => exact ⟨j + 1, hlt, by go_num, bel⟩
     case measure => first | (simp [intOf]; done) | (simp [intOf]; omega)
   ·as_aux_lemma =>
     go_wp2_with fail
     go_roundw
     case rel => exact ⟨j + 1, hlt, by go_num, bel⟩
     case measure => first | (simp [intOf]; done) | (simp [intOf]; omega)
   ·have g6 : (wd != 6) = true := by simpa using hw
    as_aux_lemma =>
     go_wp2_with fail
     go_roundw
     case rel => exact ⟨j + 1, hlt, by go_num, bel⟩
     case measure => first | (simp [intOf]; done) | (simp [intOf]; omega)
   ·have g6 : (wd != 6) = true := by simpa using hw
    as_aux_lemma =>
     go_wp2_with fail
     go_roundw
     case rel => exact ⟨j + 1, hlt, by go_num, bel⟩
     case measure => first | (simp [intOf]; done) | (simp [intOf]; omega)
   ·as_aux_lemma =>
     go_wp2_with fail
     go_roundw
     case rel => exact ⟨j + 1, hlt, by go_num, bel⟩
     case measure => first | (simp [intOf]; done) | (simp [intOf]; omega)
   ·as_aux_lemma =>
     go_wp2_with fail
     go_roundw
     case rel => exact ⟨j + 1, hlt, by go_num, bel⟩
     case measure => first | (simp [intOf]; done) | (simp [intOf]; omega)
   ·have g6 : (wd != 6) = true := by simpa using hw
    as_aux_lemma =>
     go_wp2_with fail
     go_roundw
     case rel => exact ⟨j + 1, hlt, by go_num, bel⟩
     case measure => first | (simp [intOf]; done) | (simp [intOf]; omega)
   ·as_aux_lemma =>
     go_wp2_with fail
     go_roundw
     case rel => exact ⟨j + 1, hlt, by go_num, bel⟩
     case measure => first | (simp [intOf]; done) | (simp [intOf]; omega)
   ·have g6 : (wd != 6) = true := by simpa using hw
    as_aux_lemma =>
     go_wp2_with fail
     go_roundw
     case rel => exact ⟨j + 1, hlt, by go_num, bel⟩
     case measure => first | (simp [intOf]; done) | (simp [intOf]; omega)
   ·as_aux_lemma =>
     go_wp2_with fail
     go_roundw
     case rel => exact ⟨j + 1, hlt, by go_num, bel⟩
     case measure => first | (simp [intOf]; done) | (simp [intOf]; omega)
   ·have g6 : (wd != 6) = true := by simpa using hw
    as_aux_lemma =>
     go_wp2_with fail
     go_roundw
     case rel => exact ⟨j + 1, hlt, by go_num, bel⟩
     case measure => first | (simp [intOf]; done) | (simp [intOf]; omega)
   ·as_aux_lemma =>
     go_wp2_with fail
     go_roundw
     case rel => exact ⟨j + 1, hlt, by go_num, bel⟩
     case measure => first | (simp [intOf]; done) | (simp [intOf]; omega)
   ·as_aux_lemma =>
     go_wp2_with fail
     go_roundw
     case rel => exact ⟨j + 1, hlt, by go_num, bel⟩
     case measure => first | (simp [intOf]; done) | (simp [intOf]; omega)
   ·as_aux_lemma =>
     go_wp2_with fail
     go_roundw
     case rel => exact ⟨j + 1, hlt, by go_num, bel⟩
     case measure => first | (simp [intOf]; done) | (simp [intOf]; omega)
   ·as_aux_lemma =>
     go_wp2_with fail
     go_roundw
     case rel => exact ⟨j + 1, hlt, by go_num, bel⟩
     case measure => first | (simp [intOf]; done) | (simp [intOf]; omega)
   ·as_aux_lemma =>
     go_wp2_with fail
     go_roundw
     case rel => exact ⟨j + 1, hlt, by go_num, bel⟩
     case measure => first | (simp [intOf]; done) | (simp [intOf]; omega)
   ·rcases (show kd = 30 ∨ kd = 31 ∨ kd = 32 ∨ kd = 33 ∨ kd = 34 ∨ kd = 35 ∨ kd = 36 ∨ kd = 37 by omega) with rfl | rfl | rfl | rfl | rfl | rfl | rfl | rfl
    ·clear b1 b2
     as_aux_lemma =>
      go_wp2_with fail
      go_roundw
      case rel => exact ⟨j + 1, hlt, by go_num, bel⟩
      case measure => first | (simp [intOf]; done) | (simp [intOf]; omega)
    ·clear b1 b2
     as_aux_lemma =>
      go_wp2_with fail
      go_roundw
      case rel => exact ⟨j + 1, hlt, by go_num, bel⟩
      case measure => first | (simp [intOf]; done) | (simp [intOf]; omega)
    ·clear b1 b2
     as_aux_lemma =>
      go_wp2_with fail
      go_roundw
      case rel => exact ⟨j + 1, hlt, by go_num, bel⟩
      case measure => first | (simp [intOf]; done) | (simp [intOf]; omega)
    ·clear b1 b2
     as_aux_lemma =>
      go_wp2_with fail
      go_roundw
      case rel => exact ⟨j + 1, hlt, by go_num, bel⟩
      case measure => first | (simp [intOf]; done) | (simp [intOf]; omega)
    ·clear b1 b2
     as_aux_lemma =>
      go_wp2_with fail
      go_roundw
      case rel => exact ⟨j + 1, hlt, by go_num, bel⟩
      case measure => first | (simp [intOf]; done) | (simp [intOf]; omega)
    ·clear b1 b2
     as_aux_lemma =>
      go_wp2_with fail
      go_roundw
      case rel => exact ⟨j + 1, hlt, by go_num, bel⟩
      case measure => first | (simp [intOf]; done) | (simp [intOf]; omega)
    ·clear b1 b2
     as_aux_lemma =>
      go_wp2_with fail
      go_roundw
      case rel => exact ⟨j + 1, hlt, by go_num, bel⟩
      case measure => first | (simp [intOf]; done) | (simp [intOf]; omega)
    ·clear b1 b2
     as_aux_lemma =>
      go_wp2_with fail
      go_roundw
      case rel => exact ⟨j + 1, hlt, by go_num, bel⟩
      case measure => first | (simp [intOf]; done) | (simp [intOf]; omega)
   ·have q2 : (kd == 2) = false := by simpa using m1
    have q3 : (kd == 3) = false := by simpa using m2
    have q10 : (kd == 10) = false := by simpa using m3
    have q13 : (kd == 13) = false := by simpa using m4
    have q14 : (kd == 14) = false := by simpa using m5
    have q16 : (kd == 16) = false := by simpa using m6
    have q26 : (kd == 26) = false := by simpa using m7
    have q27 : (kd == 27) = false := by simpa using m8
    have q21 : (kd == 21) = false := by simpa using m9
    have m30 : kd ≠ 30 := by omega
    have q30 : (kd == 30) = false := by simpa using m30
    have m31 : kd ≠ 31 := by omega
    have q31 : (kd == 31) = false := by simpa using m31
    have m32 : kd ≠ 32 := by omega
    have q32 : (kd == 32) = false := by simpa using m32
    have m33 : kd ≠ 33 := by omega
    have q33 : (kd == 33) = false := by simpa using m33
    have m34 : kd ≠ 34 := by omega
    have q34 : (kd == 34) = false := by simpa using m34
    have m35 : kd ≠ 35 := by omega
    have q35 : (kd == 35) = false := by simpa using m35
    have m36 : kd ≠ 36 := by omega
    have q36 : (kd == 36) = false := by simpa using m36
    have m37 : kd ≠ 37 := by omega
    have q37 : (kd == 37) = false := by simpa using m37
    as_aux_lemma =>
     go_wp2_with fail
     go_roundw
     case rel => exact ⟨j + 1, hlt, by go_num, bel⟩
     case measure => first | (simp [intOf]; done) | (simp [intOf]; omega)
  ·obtain rfl : j = n := by omega
   clear hlt HDy R4
   go_wp2_with fail
   refine (HW.out _ (Tab.below hT bel) (Tab.below hL bel) (Tab.below hG bel) (Tab.below hF bel) (Tab.below hP bel)).mono ?_
   rintro e w8 ⟨rfl, hb8⟩
   go_wp2_with fail
   go_ret
   exact ⟨by first | rfl | (simp [*]; done), bel⟩
theorem WholeFeasts_walk (y u : Int) (hy : 0 ≤ y ∧ y ≤ 65535) (hu : 0 ≤ u ∧ u ≤ 255) (w : World) (hT : Tab w 6 kevCells) (hL : Tab w 3 lenCells) (hG : Tab w 5 Gr.gregCells) (hF : Tab w 0 Fe.cells) (hA : Tab w 1 Fa.cells) (hP : Tab w 4 powCells) :
  Calls Tryo.prog 3 #[.int .u16 y, .int .u8 u] w fun e w' => e = .returned (.bool true) ∧ Below w.heap.size w w' := by
 have k1 := Int.emod_nonneg y (show (9999 : Int) ≠ 0 by decide)
 have k2 := Int.emod_lt_of_pos y (show (0 : Int) < 9999 by decide)
 obtain ⟨p, hpe⟩ : ∃ p : Bool, u % 2 = if p then 1 else 0 := by
  rcases (show u % 2 = 0 ∨ u % 2 = 1 by omega) with h | h
  ·exact ⟨false, h⟩
  ·exact ⟨true, h⟩
 obtain ⟨i, h⟩ := Yr.is_some (1 + y % 9999) (by omega) (by omega)
 have hi := h.2.2.1
 refine WholeFeasts_go y u (if p then 1 else 0) _ _ _ _ (Dy.evs i p (Cal.first (1 + y % 9999))) ((Fe.feastL i p).map (Ev.sh (Cal.first (1 + y % 9999)))) ((Fa.fastL i).map (Ev.sh (Cal.first (1 + y % 9999)))) ((Sp.spL i).map (Ev.sh (Cal.first (1 + y % 9999)))) w hy hu hpe rfl rfl rfl rfl (Dy.evs_len hi p _) (Dy.evs_more i p _) hT hL hF hA hG hP (Lib.hid fun w hT hL hF hA => day_Events _ i p w h hT hL hF hA) (Lib.hid fun w hT hL hF => feast_Of_at _ i p w h hT hL hF) (Lib.hid fun w hT hL hA => fast_Of_at _ i w h hT hL hA) (Lib.hid fun w hT hL => special_Of_at _ i w h hT hL) (Lib.hid fun j kd D hj => ?_)
 obtain ⟨m, d, hv, rfl, n1, n2, d2, hg⟩ := Dy.ev_good h p kd D (List.mem_of_getElem? hj)
 exact ⟨_, d, _, n1, n2, hv.2.2.2.2.1, d2, hg, Lib.hid fun w hT hL => heb_FromDay_at _ m d w hT hL hv⟩
end Go.Proofs.YtgojeobnoebnlaaGreatDoor
