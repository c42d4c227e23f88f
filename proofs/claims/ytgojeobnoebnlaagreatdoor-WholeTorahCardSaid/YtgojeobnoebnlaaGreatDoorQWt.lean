import Derived.Test.YtgojeobnoebnlaaGreatDoorQWt1
import Derived.Test.YtgojeobnoebnlaaGreatDoorQRC
import Derived.Test.YtgojeobnoebnlaaGreatDoorQW28
set_option maxHeartbeats 8000000
set_option maxRecDepth 100000
set_option linter.unusedSimpArgs false
set_option linter.unusedVariables false
namespace Go.Proofs.YtgojeobnoebnlaaGreatDoor
open Go.ChangeShapes Go.WideShapes Go.ChangeAt Go.RowKit Go.Lib Go.Sort Go.Shelf
namespace Dy
theorem any_next (l : List Int) (q : Nat) (x : Int) (h : l[q]? = some x) : (l.take (q + 1)).any Fe.restV = ((l.take q).any Fe.restV || Fe.restV x) := by
 rw [List.take_add_one, h, List.any_append]
 simp
end Dy
theorem WholeTorah_go (y u pl S A E : Int) (n : Nat) (L : List Rd) (w : World) (hy : 0 ≤ y ∧ y ≤ 65535) (hu : 0 ≤ u ∧ u ≤ 255) (hpl : u % 2 = pl) (hl : L.length = n) (hn : n ≤ 100) (hT : Tab w 6 kevCells) (hL : Tab w 3 lenCells) (hF : Tab w 0 Fe.cells) (hA : Tab w 1 Fa.cells) (hG : Tab w 5 Gr.gregCells) (hP : Tab w 4 powCells) (hQ : Tab w 2 Rd.prCells)
  (HTor : Hid (Dy.tor S A E L 1 0 0 0 = true))
  (HC : Hid (∀ w : World, Tab w 6 kevCells → Tab w 3 lenCells → Tab w 0 Fe.cells → Calls Tryo.prog 13 #[.int .i64 (1 + y % 9998), .int .i64 pl] w fun e w' => ∃ v, e = .returned (.tuple #[v, .int .i64 0]) ∧ Rd.Own w' w.heap.size v L ∧ Below w.heap.size w w'))
  (HSh : Hid (∀ w : World, Calls Tryo.prog 14 #[.int .i64 (1 + y % 9998), .int .i64 9, .int .i64 6] w fun e w' => e = .returned (.int .i64 S) ∧ Below w.heap.size w w'))
  (HAv : Hid (∀ w : World, Calls Tryo.prog 14 #[.int .i64 (1 + y % 9998), .int .i64 11, .int .i64 9] w fun e w' => e = .returned (.int .i64 A) ∧ Below w.heap.size w w'))
  (HEn : Hid (∀ w : World, Calls Tryo.prog 15 #[.int .i64 ((1 + y % 9998) + 1)] w fun e w' => e = .returned (.tuple #[.int .i64 E, .int .i64 0]) ∧ Below w.heap.size w w'))
  (HDy : Hid (∀ (j : Nat) (r1 r2 D : Int), L[j]? = some (r1, r2, D) → ∃ (f2 f3 : Int) (f4 : Bool) (f5 f6 f7 f8 f10 : Int) (Ks : List Int), Ks.any Fe.restV = decide (r2 = 0) ∧ Ks.length ≤ 240 ∧ Hid (∀ w : World, Tab w 6 kevCells → Tab w 3 lenCells → Tab w 0 Fe.cells → Tab w 1 Fa.cells → Tab w 5 Gr.gregCells → Calls Tryo.prog 16 #[.int .i64 D, .int .i64 pl] w fun e w' => ∃ v, e = .returned (.tuple #[.agg #[.int .i64 D, .int .i64 f2, .int .i64 f3, .bool f4, .int .i64 f5, .int .i64 f6, .int .i64 f7, .int .i64 f8, .int .i64 6, .int .i64 f10, v, .int .i64 r1, .int .i64 r2, .int .i64 D], .int .i64 0]) ∧ Il.Row w' v Ks ∧ Below w.heap.size w w'))) :
  Calls Tryo.prog 4 #[.int .u16 y, .int .u8 u] w fun e w' => e = .returned (.bool true) ∧ Below w.heap.size w w' := by
 have HW := Lib.hid (fun w hT hL hG hF hP => awake28 w hT hL hG hF hP)
 have HRt := Lib.hid (fun x w => feast_Rest x w)
 have HPr := Lib.hid (fun x w hQ => rd_Pair x w hQ)
 have HN := Lib.hid hl
 obtain ⟨y1, y2⟩ := hy
 obtain ⟨u1, u2⟩ := hu
 have k0 : y.tmod 9998 = y % 9998 := Int.tmod_eq_emod_of_nonneg y1
 have k1 := Int.emod_nonneg y (show (9998 : Int) ≠ 0 by decide)
 have k2 := Int.emod_lt_of_pos y (show (0 : Int) < 9998 by decide)
 have l0 : u.tmod 2 = pl := (Int.tmod_eq_emod_of_nonneg u1).trans hpl
 have hpl2 : 0 ≤ pl ∧ pl ≤ 1 := by omega
 obtain ⟨q1, q2⟩ := hpl2
 clear hpl
 go_enter Tryo.func4, Tryz.ntmps4
 go_wp2_with fail
 refine (HC.out _ (Tab.below hT bel) (Tab.below hL bel) (Tab.below hF bel)).mono ?_
 rintro e w1 ⟨v1, rfl, ho1, hb1⟩
 have hB1 : Below w.heap.size w w1 := bel
 have hr1 := ho1.row
 obtain ⟨p1, c1, rfl⟩ := hr1.len
 rw [hl]
 clear ho1 hl hb1
 go_wp2_with fail
 refine (HSh.out _).mono ?_
 rintro e w2 ⟨rfl, hb2⟩
 go_wp2_with fail
 refine (HAv.out _).mono ?_
 rintro e w3 ⟨rfl, hb3⟩
 go_wp2_with fail
 refine (HEn.out _).mono ?_
 rintro e w4 ⟨rfl, hb4⟩
 have hB14 : Below w1.heap.size w1 w4 := bel
 have hB4 : Below w.heap.size w w4 := bt hB1 hB14
 have R4 := Lib.hid (hr1.below hB14)
 clear hr1 hb2 hb3 hb4 HC HSh HAv HEn
 go_wp2_with fail
 go_loopw [13, 14, 15, 16, 17] (fun a b c d i wr => ∃ (j : Nat) (nx be vi la : Int), j ≤ n ∧ i = .int .i64 (j : Int) ∧ a = .int .i64 nx ∧ b = .int .i64 be ∧ c = .int .i64 vi ∧ d = .int .i64 la ∧ (1 ≤ nx ∧ nx ≤ 1 + 2 * (j : Int)) ∧ Hid (Dy.tor S A E (L.drop j) nx be vi la = true) ∧ Below w4.heap.size w4 wr) (fun _ _ _ _ i _ => n - (intOf i).toNat)
 case atStart => exact ⟨0, 1, 0, 0, 0, Nat.zero_le _, rfl, rfl, rfl, rfl, rfl, by omega, by rw [List.drop_zero]; exact HTor, Below.refl _ _⟩
 case round =>
  obtain ⟨j, nx, be, vi, la, hj, rfl, rfl, rfl, rfl, rfl, hnx, HO, hB⟩ := hrel
  obtain ⟨w9, rfl⟩ : ∃ x, x = wr := ⟨_, rfl⟩
  have hB9 : Below w.heap.size w w9 := bt hB4 hB
  by_cases hlt : j < n
  ·obtain ⟨⟨r1, r2, D⟩, hx⟩ : ∃ x, L[j]? = some x := ⟨_, List.getElem?_eq_getElem (by rw [HN.out]; exact hlt)⟩
   have hd : L.drop j = (r1, r2, D) :: L.drop (j + 1) := by
    have hk := (List.getElem?_eq_some_iff.1 hx).1
    rw [List.drop_eq_getElem_cons hk]
    congr 1
    exact (List.getElem?_eq_some_iff.1 hx).2
   have HO1 := HO.out
   rw [hd] at HO1
   unfold Dy.tor at HO1
   dsimp only at HO1
   have HOO := Lib.hid HO1
   obtain ⟨f2, f3, f4, f5, f6, f7, f8, f10, Ks, hany, hkl, HD⟩ := HDy.out j r1 r2 D hx
   have HANY := Lib.hid hany
   obtain ⟨b, off, cc, hp1, hc⟩ := (R4.out.below hB).at_some (by rw [HN.out]; omega)
   rw [HN.out] at hp1
   simp only [Value.slice.injEq] at hp1
   obtain ⟨rfl, _, rfl⟩ := hp1
   obtain ⟨x1, x2, x3⟩ := Rd.cells_at hc j (r1, r2, D) hx
   have lx := World.block_lt_of_cell? _ _ x1
   dsimp only at lx x1 x2 x3
   have j0 : (0 : Int) ≤ (j : Int) := by omega
   have j1 : (j : Int) < (n : Int) := by omega
   clear hc hx hd HO HO1 hany
   go_wp2_with fail
   refine (HD.out _ (Tab.below hT bel) (Tab.below hL bel) (Tab.below hF bel) (Tab.below hA bel) (Tab.below hG bel)).mono ?_
   rintro e w6 ⟨v6, rfl, hrow6, hb6⟩
   have hB96 : Below w9.heap.size w9 w6 := bel
   obtain ⟨hc6, hf6⟩ := bcell hb6
   have hz6 := hb6.size
   try simp at hz6
   have hl6 : w9.heap.size < w6.heap.size := by omega
   have y0 : w6.cell? ⟨w9.heap.size, 0, none⟩ = some (.int .i64 r1) := (hc6 _ _ (by simp)).trans (by simp [go_sem])
   have y1 : w6.cell? ⟨w9.heap.size, 1, none⟩ = some (.int .i64 r2) := (hc6 _ _ (by simp)).trans (by simp [go_sem])
   have y2 : w6.cell? ⟨w9.heap.size, 2, none⟩ = some (.int .i64 D) := (hc6 _ _ (by simp)).trans (by simp [go_sem])
   obtain ⟨p6, c6, rfl⟩ := hrow6.len
   obtain ⟨m, hm⟩ : ∃ m, Ks.length = m := ⟨_, rfl⟩
   rw [hm]
   have R6 := Lib.hid hrow6
   have HM := Lib.hid hm
   have hm240 : m ≤ 240 := by omega
   clear hrow6 hm hb6 hc6 hf6 x1 x2 x3 hkl
   go_wp2_with fail
   go_loopw [21, 22] (fun rs iv wr => ∃ q : Nat, q ≤ m ∧ iv = .int .i64 (q : Int) ∧ rs = .bool ((Ks.take q).any Fe.restV) ∧ wr.cell? ⟨w6.heap.size, 8, none⟩ = some (.int .i64 6) ∧ wr.cell? ⟨w6.heap.size, 10, none⟩ = some (.slice p6 m c6) ∧ wr.cell? ⟨w6.heap.size, 11, none⟩ = some (.int .i64 r1) ∧ wr.cell? ⟨w6.heap.size, 12, none⟩ = some (.int .i64 r2) ∧ wr.cell? ⟨w6.heap.size, 13, none⟩ = some (.int .i64 D) ∧ w6.heap.size < wr.heap.size ∧ Below w6.heap.size w6 wr) (fun _ i _ => m - (intOf i).toNat)
   case atStart => exact ⟨0, Nat.zero_le _, rfl, rfl, by simp [go_sem], by simp [go_sem], by simp [go_sem], by simp [go_sem], by simp [go_sem], by simp, bel⟩
   case round =>
    obtain ⟨q, hq, rfl, rfl, z8, z10, z11, z12, z13, hl7, hB67⟩ := hrel
    obtain ⟨w7, rfl⟩ : ∃ x, x = wr := ⟨_, rfl⟩
    have t0 := (hB67.cell (p := ⟨w9.heap.size, 0, none⟩) hl6).trans y0
    have t1 := (hB67.cell (p := ⟨w9.heap.size, 1, none⟩) hl6).trans y1
    have t2 := (hB67.cell (p := ⟨w9.heap.size, 2, none⟩) hl6).trans y2
    have hl97 : w9.heap.size < w7.heap.size := by omega
    have hB97 : Below w9.heap.size w9 w7 := bt hB96 hB67
    have hB7 : Below w.heap.size w w7 := bt hB9 hB97
    have hB47 : Below w4.heap.size w4 w7 := bt hB hB97
    by_cases hlt2 : q < m
    ·obtain ⟨kd, hkd⟩ : ∃ x, Ks[q]? = some x := ⟨_, List.getElem?_eq_getElem (by rw [HM.out]; exact hlt2)⟩
     have HX := Lib.hid (Dy.any_next Ks q kd hkd)
     obtain ⟨b6, o6, cc6, hp6, hc6⟩ := (R6.out.below hB67).at_some (by rw [HM.out]; omega)
     rw [HM.out] at hp6
     simp only [Value.slice.injEq] at hp6
     obtain ⟨rfl, _, rfl⟩ := hp6
     have ck := hc6 q kd hkd
     have lk := World.block_lt_of_cell? _ _ ck
     dsimp only at lk
     have g0 : (0 : Int) ≤ (q : Int) := by omega
     have g1 : (q : Int) < (m : Int) := by omega
     clear hc6 hkd
     cases hbb : (Ks.take q).any Fe.restV with
     | true =>
      rw [hbb] at HX
      go_wp2_with fail
      go_roundw
      case rel => exact ⟨q + 1, hlt2, by go_num, by rw [HX.out]; rfl, z8, z10, z11, z12, z13, hl7, hB67⟩
      case measure => first | (simp [intOf]; done) | (simp [intOf]; omega)
     | false =>
      rw [hbb] at HX
      go_wp2_with fail
      refine (HRt.out kd _).mono ?_
      rintro e w' ⟨rfl, rfl⟩
      go_wp2_with fail
      go_roundw
      case rel => exact ⟨q + 1, hlt2, by go_num, by rw [HX.out]; rfl, z8, z10, z11, z12, z13, hl7, hB67⟩
      case measure => first | (simp [intOf]; done) | (simp [intOf]; omega)
    ·obtain rfl : q = m := by omega
     have e9 : Ks.take q = Ks := List.take_of_length_le (by rw [HM.out]; exact Nat.le_refl _)
     rw [e9, HANY.out]
     have HQ7 := Lib.hid (Tab.below hQ hB7)
     clear e9 hlt2 HANY R6 HM hB96 hB67 HD y0 y1 y2
     by_cases hz : r2 = 0
     ·subst hz
      have h9 := HOO.out
      rw [if_pos rfl] at h9
      have d0 : decide ((0 : Int) = 0) = true := by decide
      rw [d0]
      clear HOO
      go_wp2_with fail
      go_roundw
      case rel => exact ⟨j + 1, nx, be, vi, la, hlt, by go_num, rfl, rfl, rfl, rfl, by omega, Lib.hid h9, hB47⟩
      case measure => first | (simp [intOf]; done) | (simp [intOf]; omega)
     ·have h9 := HOO.out
      rw [if_neg hz] at h9
      simp only [Bool.and_eq_true, Bool.or_eq_true, decide_eq_true_eq] at h9
      obtain ⟨rfl, h12, h9⟩ := h9
      have dz : decide (r2 = 0) = false := decide_eq_false hz
      rw [dz]
      have H9 := Lib.hid h9
      clear HOO h9 dz
      have hnx2 : r1 ≤ 201 := by omega
      rcases h12 with rfl | ⟨rfl, hpr⟩
      ·have e1 : wrap64 (r1 + 1) = r1 + 1 := IntWalk.wrap64_in _ ⟨by omega, by omega⟩
       have e2 : wrap64 (r1 + 1 - 1) = r1 + 1 - 1 := IntWalk.wrap64_in _ ⟨by omega, by omega⟩
       have en : (r1 != r1) = false := by simp
       have e3 : wrap64 r1 = r1 := IntWalk.wrap64_in _ ⟨by omega, by omega⟩
       have e4 : wrap64 (r1 + 1) = r1 + 1 := IntWalk.wrap64_in _ ⟨by omega, by omega⟩
       have e5 : r1 + 1 - 1 = r1 := by omega
       have HNX := Lib.hid (show 1 ≤ r1 + 1 ∧ r1 + 1 ≤ 1 + 2 * ((j + 1 : Nat) : Int) by omega)
       clear hz hnx hnx2
       by_cases cS : D < S <;> by_cases cA : D ≤ A <;> by_cases cE : D < E
       all_goals (first | rw [if_pos cS] at H9 | rw [if_neg cS] at H9)
       all_goals (first | rw [if_pos cA] at H9 | rw [if_neg cA] at H9)
       all_goals (first | rw [if_pos cE] at H9 | rw [if_neg cE] at H9)
       all_goals go_wp2_with fail
       all_goals go_roundw
       all_goals (try simp only [e1, e2, e3, e4, e5] at H9 ⊢)
       all_goals first | (simp [intOf]; done) | (simp [intOf]; omega) | exact ⟨j + 1, _, _, _, _, hlt, by go_num, rfl, rfl, rfl, rfl, HNX.out, H9, hB47⟩
      ·have hpd : decide (r1 ∈ Rd.prL) = true := decide_eq_true hpr
       have HP2 := Lib.hid (fun w hQ => (hpd ▸ rd_Pair r1 w hQ : Calls Tryo.prog 18 #[.int .i64 r1] w fun e w' => e = .returned (.bool true) ∧ w = w'))
       clear hpd hpr
       have e1 : wrap64 (r1 + 2) = r1 + 2 := IntWalk.wrap64_in _ ⟨by omega, by omega⟩
       have e2 : wrap64 (r1 + 2 - 1) = r1 + 2 - 1 := IntWalk.wrap64_in _ ⟨by omega, by omega⟩
       have en : (r1 != r1) = false := by simp
       have e3 : wrap64 r1 = r1 := IntWalk.wrap64_in _ ⟨by omega, by omega⟩
       have e4 : wrap64 (r1 + 1) = r1 + 1 := IntWalk.wrap64_in _ ⟨by omega, by omega⟩
       have e5 : r1 + 2 - 1 = r1 + 1 := by omega
       have HNX := Lib.hid (show 1 ≤ r1 + 2 ∧ r1 + 2 ≤ 1 + 2 * ((j + 1 : Nat) : Int) by omega)
       clear hz hnx hnx2
       go_wp2_with fail
       refine (HP2.out _ HQ7.out).mono ?_
       rintro e w' ⟨rfl, rfl⟩
       by_cases cS : D < S <;> by_cases cA : D ≤ A <;> by_cases cE : D < E
       all_goals (first | rw [if_pos cS] at H9 | rw [if_neg cS] at H9)
       all_goals (first | rw [if_pos cA] at H9 | rw [if_neg cA] at H9)
       all_goals (first | rw [if_pos cE] at H9 | rw [if_neg cE] at H9)
       all_goals go_wp2_with fail
       all_goals go_roundw
       all_goals (try simp only [e1, e2, e3, e4, e5] at H9 ⊢)
       all_goals first | (simp [intOf]; done) | (simp [intOf]; omega) | exact ⟨j + 1, _, _, _, _, hlt, by go_num, rfl, rfl, rfl, rfl, HNX.out, H9, hB47⟩
  ·obtain rfl : j = n := by omega
   have h9 := HO.out
   rw [List.drop_of_length_le (by rw [HN.out]; exact Nat.le_refl _)] at h9
   unfold Dy.tor at h9
   simp only [Bool.and_eq_true, Bool.or_eq_true, decide_eq_true_eq] at h9
   obtain ⟨rfl, hbe, rfl, rfl⟩ := h9
   clear HO hlt HDy R4
   rcases hbe with rfl | rfl
   ·go_wp2_with fail
    refine (HW.out _ (Tab.below hT bel) (Tab.below hL bel) (Tab.below hG bel) (Tab.below hF bel) (Tab.below hP bel)).mono ?_
    rintro e w8 ⟨rfl, hb8⟩
    go_wp2_with fail
    go_ret
    exact ⟨by first | rfl | (simp [*]; done), bel⟩
   ·go_wp2_with fail
    refine (HW.out _ (Tab.below hT bel) (Tab.below hL bel) (Tab.below hG bel) (Tab.below hF bel) (Tab.below hP bel)).mono ?_
    rintro e w8 ⟨rfl, hb8⟩
    go_wp2_with fail
    go_ret
    exact ⟨by first | rfl | (simp [*]; done), bel⟩
end Go.Proofs.YtgojeobnoebnlaaGreatDoor
