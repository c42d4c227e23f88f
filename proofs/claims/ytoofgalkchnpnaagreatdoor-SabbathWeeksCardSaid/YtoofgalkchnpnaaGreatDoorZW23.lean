/- Layer 23: the laws' common example; SabbathParts. -/
import Derived.Test.YtoofgalkchnpnaaGreatDoorZSB
namespace Go.Proofs.YtoofgalkchnpnaaGreatDoor
open Go.ChangeShapes Go.WideShapes Go.ChangeAt Go.RowKit Go.Lib Go.Sort Go.Shelf
set_option linter.unusedVariables false
set_option maxRecDepth 100000
theorem Yr.is_5784' : Yr.Is 5784 12 := ⟨by omega, by omega, by omega, by decide +kernel, by decide +kernel, by decide +kernel⟩
set_option maxHeartbeats 4000000 in
theorem awake23_go (l : List Int) (n : Nat) (w : World) (hT : Tab w 4 kevCells) (hL : Tab w 3 lenCells) (hF : Tab w 2 Fe.cells) (hl : l.length = n) (hn : 0 < n) (hn2 : n ≤ 60) (H0 : Hid (l[0]? = some 738807))
    (HA : Hid (∀ w : World, Tab w 4 kevCells → Tab w 3 lenCells → Tab w 2 Fe.cells → Calls Tryo.prog 10 #[.int .i64 5784, .int .i64 0] w fun e w' => ∃ v, e = .returned (.tuple #[v, .int .i64 0]) ∧ Il.Own w' w.heap.size v l ∧ Below w.heap.size w w'))
    (HC : Hid (∀ w : World, Tab w 4 kevCells → Tab w 3 lenCells → Tab w 2 Fe.cells → Calls Tryo.prog 12 #[.int .i64 738807, .int .i64 0] w fun e w' => e = .returned (.tuple #[.int .i64 5784, .int .i64 0]) ∧ Below w.heap.size w w'))
    (HP : Hid (∀ w : World, Tab w 4 kevCells → Tab w 3 lenCells → Calls Tryo.prog 16 #[.int .i64 5784, .int .i64 738807] w fun e w' => e = .returned (.tuple #[.int .i64 1, .int .i64 0]) ∧ Below w.heap.size w w'))
    (HH : Hid (∀ w : World, Calls Tryo.prog 10 #[.int .i64 9999, .int .i64 0] w fun e w' => e = .returned (.tuple #[.slice none 0 0, .int .i64 2]) ∧ w = w')) :
    Calls Tryo.prog 15 #[] w fun e w' => e = .returned (.bool true) ∧ Below w.heap.size w w' := by
  go_enter Tryo.func15, Tryz.ntmps15
  go_wp2_with fail
  refine (HA.out _ (Tab.below hT (by repeat (first | (with_reducible exact Below.refl _ _) | (with_reducible assumption) | (with_reducible refine bdrew ?_) | (with_reducible refine baa ?_ _) | (with_reducible refine bs ?_ (by first | exact Nat.le_refl _ | omega | (simp; done) | (simp; omega)) _) | (with_reducible refine bt ?_ (by with_reducible assumption))))) (Tab.below hL (by repeat (first | (with_reducible exact Below.refl _ _) | (with_reducible assumption) | (with_reducible refine bdrew ?_) | (with_reducible refine baa ?_ _) | (with_reducible refine bs ?_ (by first | exact Nat.le_refl _ | omega | (simp; done) | (simp; omega)) _) | (with_reducible refine bt ?_ (by with_reducible assumption))))) (Tab.below hF (by repeat (first | (with_reducible exact Below.refl _ _) | (with_reducible assumption) | (with_reducible refine bdrew ?_) | (with_reducible refine baa ?_ _) | (with_reducible refine bs ?_ (by first | exact Nat.le_refl _ | omega | (simp; done) | (simp; omega)) _) | (with_reducible refine bt ?_ (by with_reducible assumption)))))).mono ?_
  rintro e w1 ⟨v1, rfl, ho1, hb1⟩
  have hr := ho1.row
  obtain ⟨b, off, cc, rfl, hcs⟩ := hr.at_some (by omega)
  rw [hl]
  have lx := World.block_lt_of_cell? _ _ (hcs 0 _ H0.out)
  have cx := hcs 0 _ H0.out
  dsimp only at lx cx
  clear ho1 hr hcs
  have n0 : (0 : Int) < (n : Int) := by omega
  go_wp2_with fail
  refine (HC.out _ (Tab.below hT (by repeat (first | (with_reducible exact Below.refl _ _) | (with_reducible assumption) | (with_reducible refine bdrew ?_) | (with_reducible refine baa ?_ _) | (with_reducible refine bs ?_ (by first | exact Nat.le_refl _ | omega | (simp; done) | (simp; omega)) _) | (with_reducible refine bt ?_ (by with_reducible assumption))))) (Tab.below hL (by repeat (first | (with_reducible exact Below.refl _ _) | (with_reducible assumption) | (with_reducible refine bdrew ?_) | (with_reducible refine baa ?_ _) | (with_reducible refine bs ?_ (by first | exact Nat.le_refl _ | omega | (simp; done) | (simp; omega)) _) | (with_reducible refine bt ?_ (by with_reducible assumption))))) (Tab.below hF (by repeat (first | (with_reducible exact Below.refl _ _) | (with_reducible assumption) | (with_reducible refine bdrew ?_) | (with_reducible refine baa ?_ _) | (with_reducible refine bs ?_ (by first | exact Nat.le_refl _ | omega | (simp; done) | (simp; omega)) _) | (with_reducible refine bt ?_ (by with_reducible assumption)))))).mono ?_
  rintro e w2 ⟨rfl, hb2⟩
  go_wp2_with fail
  refine (HP.out _ (Tab.below hT (by repeat (first | (with_reducible exact Below.refl _ _) | (with_reducible assumption) | (with_reducible refine bdrew ?_) | (with_reducible refine baa ?_ _) | (with_reducible refine bs ?_ (by first | exact Nat.le_refl _ | omega | (simp; done) | (simp; omega)) _) | (with_reducible refine bt ?_ (by with_reducible assumption))))) (Tab.below hL (by repeat (first | (with_reducible exact Below.refl _ _) | (with_reducible assumption) | (with_reducible refine bdrew ?_) | (with_reducible refine baa ?_ _) | (with_reducible refine bs ?_ (by first | exact Nat.le_refl _ | omega | (simp; done) | (simp; omega)) _) | (with_reducible refine bt ?_ (by with_reducible assumption)))))).mono ?_
  rintro e w3 ⟨rfl, hb3⟩
  go_wp2_with fail
  have cx3 : w3.cell? ⟨b, off, none⟩ = some (.int .i64 738807) := (hb3.cell (by have := hb2.size; show b < _; omega)).trans ((hb2.cell lx).trans cx)
  have hB3 : Below w.heap.size w w3 := by repeat (first | (with_reducible exact Below.refl _ _) | (with_reducible assumption) | (with_reducible refine bdrew ?_) | (with_reducible refine baa ?_ _) | (with_reducible refine bs ?_ (by first | exact Nat.le_refl _ | omega | (simp; done) | (simp; omega)) _) | (with_reducible refine bt ?_ (by with_reducible assumption)))
  refine (HH.out _).mono ?_
  rintro e w' ⟨rfl, rfl⟩
  go_wp2_with fail
  go_ret
  exact ⟨rfl, hB3⟩
theorem awake23 (w : World) (hT : Tab w 4 kevCells) (hL : Tab w 3 lenCells) (hF : Tab w 2 Fe.cells) : Calls Tryo.prog 15 #[] w fun e w' => e = .returned (.bool true) ∧ Below w.heap.size w w' := by
  obtain ⟨i2, h2⟩ := Yr.is_some (5784 + 1) (by omega) (by omega)
  have h := Yr.is_5784'
  obtain ⟨n1, n2, n3, n4⟩ := Sb.nSat_ok false h
  have e0 : Sat.firstSat (Sb.rj 5784 false + 1) = 738807 := of_decide_eq_true (show decide (Sat.firstSat (Sb.rj 5784 false + 1) = 738807) = true by decide +kernel)
  have e1 : Sb.part 738807 (D10.dayV 5784 7 false 15) (D10.dayV 5784 9 false 5) (D10.dayV 5784 11 false 9) (D10.dayV (5784 + 1) 1 false 1) = 1 := of_decide_eq_true (show decide (Sb.part 738807 (D10.dayV 5784 7 false 15) (D10.dayV 5784 9 false 5) (D10.dayV 5784 11 false 9) (D10.dayV (5784 + 1) 1 false 1) = 1) = true by decide +kernel)
  have e2 : Sb.rj 5784 false < 738807 := of_decide_eq_true (show decide (Sb.rj 5784 false < 738807) = true by decide +kernel)
  have e3 := n1 0 (by omega)
  rw [e0] at e3
  refine awake23_go (Sb.sabs 5784 false) (Sb.nSat 5784 false) w hT hL hF (Sb.sabs_len _ _) (by omega) (by omega) (Lib.hid (by rw [Sb.sabs_get (by omega), e0]; rfl)) (Lib.hid (fun w hT hL hF => sab_All 5784 12 i2 false w h h2 hT hL hF)) (Lib.hid (fun w hT hL hF => sab_Cycle 5784 12 i2 false 738807 w h h2 e2 (by omega) hT hL hF))
    (Lib.hid (fun w hT hL => by have := sab_Part 5784 738807 w (by omega) (by omega) hT hL; rwa [e1] at this)) (Lib.hid (fun w => sab_All_hi 9999 false w (by omega)))
theorem Sb.part_bd (d e A B C E : Int) (h : d ≤ e) : 1 ≤ Sb.part d A B C E ∧ Sb.part d A B C E ≤ Sb.part e A B C E ∧ Sb.part e A B C E ≤ 5 := by
  unfold Sb.part
  refine ⟨?_, ?_, ?_⟩ <;> (repeat' split) <;> omega
set_option maxHeartbeats 4000000 in
theorem SabbathParts_go (y d m a b : Int) (w : World) (hy : 0 ≤ y ∧ y ≤ 65535) (hd : -2147483648 ≤ d ∧ d ≤ 2147483647) (hm : 0 ≤ m ∧ m ≤ 65535) (hT : Tab w 4 kevCells) (hL : Tab w 3 lenCells) (hF : Tab w 2 Fe.cells)
    (HP : Hid (∀ w : World, Tab w 4 kevCells → Tab w 3 lenCells → Calls Tryo.prog 16 #[.int .i64 (1 + y % 9998), .int .i64 d] w fun e w' => e = .returned (.tuple #[.int .i64 a, .int .i64 0]) ∧ Below w.heap.size w w'))
    (HQ : Hid (∀ w : World, Tab w 4 kevCells → Tab w 3 lenCells → Calls Tryo.prog 16 #[.int .i64 (1 + y % 9998), .int .i64 (d + m)] w fun e w' => e = .returned (.tuple #[.int .i64 b, .int .i64 0]) ∧ Below w.heap.size w w'))
    (HW : Hid (∀ w : World, Tab w 4 kevCells → Tab w 3 lenCells → Tab w 2 Fe.cells → Calls Tryo.prog 15 #[] w fun e w' => e = .returned (.bool true) ∧ Below w.heap.size w w')) (h1 : 1 ≤ a) (h2 : a ≤ b) (h3 : b ≤ 5) :
    Calls Tryo.prog 4 #[.int .u16 y, .int .i32 d, .int .u16 m] w fun e w' => e = .returned (.bool true) ∧ Below w.heap.size w w' := by
  obtain ⟨y1, y2⟩ := hy
  obtain ⟨d1, d2⟩ := hd
  obtain ⟨m1, m2⟩ := hm
  have k0 : y.tmod 9998 = y % 9998 := Int.tmod_eq_emod_of_nonneg y1
  have k1 := Int.emod_nonneg y (show (9998 : Int) ≠ 0 by decide)
  have k2 := Int.emod_lt_of_pos y (show (0 : Int) < 9998 by decide)
  have HE := Lib.hid k0
  go_enter Tryo.func4, Tryz.ntmps4
  go_wp2_with fail
  refine (HP.out _ (Tab.below hT (by repeat (first | (with_reducible exact Below.refl _ _) | (with_reducible assumption) | (with_reducible refine bdrew ?_) | (with_reducible refine baa ?_ _) | (with_reducible refine bs ?_ (by first | exact Nat.le_refl _ | omega | (simp; done) | (simp; omega)) _) | (with_reducible refine bt ?_ (by with_reducible assumption))))) (Tab.below hL (by repeat (first | (with_reducible exact Below.refl _ _) | (with_reducible assumption) | (with_reducible refine bdrew ?_) | (with_reducible refine baa ?_ _) | (with_reducible refine bs ?_ (by first | exact Nat.le_refl _ | omega | (simp; done) | (simp; omega)) _) | (with_reducible refine bt ?_ (by with_reducible assumption)))))).mono ?_
  rintro e w1 ⟨rfl, hb1⟩
  go_wp2_with fail
  refine (HQ.out _ (Tab.below hT (by repeat (first | (with_reducible exact Below.refl _ _) | (with_reducible assumption) | (with_reducible refine bdrew ?_) | (with_reducible refine baa ?_ _) | (with_reducible refine bs ?_ (by first | exact Nat.le_refl _ | omega | (simp; done) | (simp; omega)) _) | (with_reducible refine bt ?_ (by with_reducible assumption))))) (Tab.below hL (by repeat (first | (with_reducible exact Below.refl _ _) | (with_reducible assumption) | (with_reducible refine bdrew ?_) | (with_reducible refine baa ?_ _) | (with_reducible refine bs ?_ (by first | exact Nat.le_refl _ | omega | (simp; done) | (simp; omega)) _) | (with_reducible refine bt ?_ (by with_reducible assumption)))))).mono ?_
  rintro e w2 ⟨rfl, hb2⟩
  go_wp2_with fail
  refine (HW.out _ (Tab.below hT (by repeat (first | (with_reducible exact Below.refl _ _) | (with_reducible assumption) | (with_reducible refine bdrew ?_) | (with_reducible refine baa ?_ _) | (with_reducible refine bs ?_ (by first | exact Nat.le_refl _ | omega | (simp; done) | (simp; omega)) _) | (with_reducible refine bt ?_ (by with_reducible assumption))))) (Tab.below hL (by repeat (first | (with_reducible exact Below.refl _ _) | (with_reducible assumption) | (with_reducible refine bdrew ?_) | (with_reducible refine baa ?_ _) | (with_reducible refine bs ?_ (by first | exact Nat.le_refl _ | omega | (simp; done) | (simp; omega)) _) | (with_reducible refine bt ?_ (by with_reducible assumption))))) (Tab.below hF (by repeat (first | (with_reducible exact Below.refl _ _) | (with_reducible assumption) | (with_reducible refine bdrew ?_) | (with_reducible refine baa ?_ _) | (with_reducible refine bs ?_ (by first | exact Nat.le_refl _ | omega | (simp; done) | (simp; omega)) _) | (with_reducible refine bt ?_ (by with_reducible assumption)))))).mono ?_
  rintro e w3 ⟨rfl, hb3⟩
  have hB3 : Below w.heap.size w w3 := by repeat (first | (with_reducible exact Below.refl _ _) | (with_reducible assumption) | (with_reducible refine bdrew ?_) | (with_reducible refine baa ?_ _) | (with_reducible refine bs ?_ (by first | exact Nat.le_refl _ | omega | (simp; done) | (simp; omega)) _) | (with_reducible refine bt ?_ (by with_reducible assumption)))
  have e1 : decide (1 ≤ a) = true := decide_eq_true h1
  have e2 : decide (a ≤ b) = true := decide_eq_true h2
  have e3 : decide (b ≤ 5) = true := decide_eq_true h3
  go_wp2_with fail
  go_ret
  exact ⟨rfl, hB3⟩
theorem SabbathParts_walk (y d m : Int) (hy : 0 ≤ y ∧ y ≤ 65535) (hd : -2147483648 ≤ d ∧ d ≤ 2147483647) (hm : 0 ≤ m ∧ m ≤ 65535) (w : World) (hT : Tab w 4 kevCells) (hL : Tab w 3 lenCells) (hF : Tab w 2 Fe.cells) :
    Calls Tryo.prog 4 #[.int .u16 y, .int .i32 d, .int .u16 m] w fun e w' => e = .returned (.bool true) ∧ Below w.heap.size w w' := by
  have k1 := Int.emod_nonneg y (show (9998 : Int) ≠ 0 by decide)
  have k2 := Int.emod_lt_of_pos y (show (0 : Int) < 9998 by decide)
  obtain ⟨p1, p2, p3⟩ := Sb.part_bd d (d + m) (D10.dayV (1 + y % 9998) 7 false 15) (D10.dayV (1 + y % 9998) 9 false 5) (D10.dayV (1 + y % 9998) 11 false 9) (D10.dayV (1 + y % 9998 + 1) 1 false 1) (by omega)
  exact SabbathParts_go y d m _ _ w hy hd hm hT hL hF (Lib.hid (fun w hT hL => sab_Part _ d w (by omega) (by omega) hT hL)) (Lib.hid (fun w hT hL => sab_Part _ (d + m) w (by omega) (by omega) hT hL)) (Lib.hid (fun w hT hL hF => awake23 w hT hL hF)) p1 p2 p3
end Go.Proofs.YtoofgalkchnpnaaGreatDoor
