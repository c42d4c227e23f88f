/- Layer 24: TorahAnchors. -/
import Derived.Test.YtoofgalkchnpnaaGreatDoorZW24
import Derived.Test.YtoofgalkchnpnaaGreatDoorZTp
namespace Go.Proofs.YtoofgalkchnpnaaGreatDoor
open Go.ChangeShapes Go.WideShapes Go.ChangeAt Go.RowKit Go.Lib Go.Sort Go.Shelf
set_option linter.unusedVariables false
set_option linter.unusedSimpArgs false
set_option maxRecDepth 100000
set_option linter.unnecessarySimpa false
namespace Rd
/-- The last reading that has a portion, of part q (from 1 on). -/
def pick (part : Int → Nat) (q : Nat) (r x : Rd) : Rd := if 0 < x.1 ∧ part x.2.2 + 1 = q then x else r
def lastAt (part : Int → Nat) (L : List Rd) (q : Nat) : Rd := L.foldl (pick part q) (0, 0, 0)
theorem lastAt_next (part : Int → Nat) (L : List Rd) (j : Nat) (x : Rd) (hx : L[j]? = some x) (q : Nat) : lastAt part (L.take (j + 1)) q = pick part q (lastAt part (L.take j) q) x := by
  unfold lastAt
  rw [List.take_add_one, hx, List.foldl_append]
  rfl
def Alike (c : Int) (r r' : Rd) : Prop := r'.1 = r.1 ∧ r'.2.1 = r.2.1 ∧ (0 < r.1 → r'.2.2 = c + r.2.2)
theorem lastAt_sh (part part' : Int → Nat) (c : Int) (h : ∀ d, part' (c + d) = part d) (q : Nat) : ∀ (L : List Rd) (r r' : Rd), Alike c r r' → Alike c (L.foldl (pick part q) r) ((L.map (sh c)).foldl (pick part' q) r')
  | [], r, r', k => k
  | x :: L, r, r', k => by
    rw [List.map_cons, List.foldl_cons, List.foldl_cons]
    refine lastAt_sh part part' c h q L _ _ ?_
    unfold pick
    have e : part' (sh c x).2.2 = part x.2.2 := h _
    have e1 : (sh c x).1 = x.1 := rfl
    rw [e, e1]
    by_cases g : 0 < x.1 ∧ part x.2.2 + 1 = q
    · rw [if_pos g, if_pos g]; exact ⟨rfl, rfl, fun _ => rfl⟩
    · rw [if_neg g, if_neg g]; exact k
def ends (i : Nat) (p : Bool) (q : Nat) : Rd := lastAt (part0 i) (cyc0 i p) q
/-- The anchors of a cycle. -/
def anch (i : Nat) (p : Bool) : Bool :=
  (if kevL i then decide ((ends i p 1).1 + (ends i p 1).2.1 - 1 = 28) || decide ((ends i p 1).1 + (ends i p 1).2.1 - 1 = 29) else decide ((ends i p 1).1 + (ends i p 1).2.1 - 1 = 25)) &&
  ((decide ((ends i p 2).1 + (ends i p 2).2.1 - 1 = 34) || decide ((ends i p 2).1 + (ends i p 2).2.1 - 1 = 35)) && (decide ((ends i p 3).1 + (ends i p 3).2.1 - 1 = 44) && (decide ((ends i p 4).1 = 51) && (decide ((ends i p 5).1 = 53) && (decide ((ends i p 5).2.1 = 1) && decide ((ends i p 5).2.2 < kevB i + Yr.lenV i + 14))))))
theorem anch_all : ((List.range 14).all fun i => [false, true].all fun p => anch i p) = true := by decide +kernel
theorem anch_at {i : Nat} (hi : i < 14) (p : Bool) : anch i p = true := by
  have h := List.all_eq_true.1 anch_all i (List.mem_range.2 hi)
  exact List.all_eq_true.1 h p (by cases p <;> simp)
/-- Six readings in the cells of block g. -/
def Six (w : World) (g : Nat) (f : Nat → Rd) : Prop := g < w.heap.size ∧ (∀ i, w.frozen? ⟨g, i, none⟩ = false) ∧ ∀ q, q < 6 → w.cell? ⟨g, q * 3, none⟩ = some (.int .i64 (f q).1) ∧ w.cell? ⟨g, q * 3 + 1, none⟩ = some (.int .i64 (f q).2.1) ∧ w.cell? ⟨g, q * 3 + 2, none⟩ = some (.int .i64 (f q).2.2)
theorem Six.below {w w' : World} {g : Nat} {f : Nat → Rd} (h : Six w g f) (hb : Below w.heap.size w w') : Six w' g f := by
  obtain ⟨h1, h2, h3⟩ := h
  have c := fun i => hb.cell (p := ⟨g, i, none⟩) h1
  exact ⟨Nat.lt_of_lt_of_le h1 hb.size, fun i => (hb.frozen (p := ⟨g, i, none⟩) h1).trans (h2 i), fun q hq => ⟨(c _).trans (h3 q hq).1, (c _).trans (h3 q hq).2.1, (c _).trans (h3 q hq).2.2⟩⟩
theorem Six.put {w : World} {g k : Nat} {f : Nat → Rd} (h : Six w g f) (hk : k < 6) (a b d : Int) : Six (((w.setCell ⟨g, k * 3, none⟩ (.int .i64 a)).setCell ⟨g, k * 3 + 1, none⟩ (.int .i64 b)).setCell ⟨g, k * 3 + 2, none⟩ (.int .i64 d)) g (fun q => if q = k then (a, b, d) else f q) := by
  obtain ⟨h1, h2, h3⟩ := h
  refine ⟨by simpa [World.setCell] using h1, fun i => by rw [World.frozen?_setCell, World.frozen?_setCell, World.frozen?_setCell]; exact h2 i, fun q hq => ?_⟩
  obtain ⟨c1, c2, c3⟩ := h3 q hq
  obtain ⟨k1, k2, k3⟩ := h3 k hk
  by_cases e : q = k
  · subst e
    simp only [if_true]
    have m1 : ∀ (o : Nat) (u v : Value) (W : World), o ≠ q * 3 + 2 → (W.setCell ⟨g, q * 3 + 2, none⟩ u).cell? ⟨g, o, none⟩ = W.cell? ⟨g, o, none⟩ := fun o u v W ho => World.cell?_setCell_other _ _ _ _ (by simpa using ho)
    have m2 : ∀ (o : Nat) (u v : Value) (W : World), o ≠ q * 3 + 1 → (W.setCell ⟨g, q * 3 + 1, none⟩ u).cell? ⟨g, o, none⟩ = W.cell? ⟨g, o, none⟩ := fun o u v W ho => World.cell?_setCell_other _ _ _ _ (by simpa using ho)
    have m3 : ∀ (o : Nat) (u v : Value) (W : World), o ≠ q * 3 → (W.setCell ⟨g, q * 3, none⟩ u).cell? ⟨g, o, none⟩ = W.cell? ⟨g, o, none⟩ := fun o u v W ho => World.cell?_setCell_other _ _ _ _ (by simpa using ho)
    refine ⟨?_, ?_, ?_⟩
    · rw [m1 _ _ .nilFunc _ (by omega), m2 _ _ .nilFunc _ (by omega)]; exact World.cell?_setCell_same _ _ _ c1
    · rw [m1 _ _ .nilFunc _ (by omega)]; exact World.cell?_setCell_same _ _ _ ((m3 _ _ .nilFunc _ (by omega)).trans c2)
    · exact World.cell?_setCell_same _ _ _ (((m2 _ _ .nilFunc _ (by omega)).trans (m3 _ _ .nilFunc _ (by omega))).trans c3)
  · dsimp only
    rw [if_neg e]
    have m : ∀ (o o' : Nat) (u : Value) (W : World), o ≠ o' → (W.setCell ⟨g, o', none⟩ u).cell? ⟨g, o, none⟩ = W.cell? ⟨g, o, none⟩ := fun o o' u W ho => World.cell?_setCell_other _ _ _ _ (by simpa using ho)
    refine ⟨?_, ?_, ?_⟩
    · rw [m _ _ _ _ (by omega), m _ _ _ _ (by omega), m _ _ _ _ (by omega)]; exact c1
    · rw [m _ _ _ _ (by omega), m _ _ _ _ (by omega), m _ _ _ _ (by omega)]; exact c2
    · rw [m _ _ _ _ (by omega), m _ _ _ _ (by omega), m _ _ _ _ (by omega)]; exact c3
theorem ok15_all : ((List.range 14).all fun i => Yr.okV i 1 false 15 && decide (Yr.offV i 1 false 15 = 14)) = true := by decide +kernel
theorem ok15_at (i : Nat) (hi : i < 14) : Yr.okV i 1 false 15 = true ∧ Yr.offV i 1 false 15 = 14 := by
  have h := List.all_eq_true.1 ok15_all i (List.mem_range.2 hi)
  simpa only [Bool.and_eq_true, decide_eq_true_eq] using h
end Rd
set_option maxHeartbeats 4000000 in
theorem TorahAnchors_go (y u pl T E1 E2 : Int) (lp : Bool) (n : Nat) (La : List Rd) (part : Int → Nat) (w : World) (hy : 0 ≤ y ∧ y ≤ 65535) (hu : 0 ≤ u ∧ u ≤ 255) (hT : Tab w 4 kevCells) (hL : Tab w 3 lenCells) (hF : Tab w 2 Fe.cells) (hla : La.length = n) (hn : n ≤ 100)
    (HD : Hid (∀ d, part d < 5)) (hpl : u % 2 = pl)
    (HA : Hid (∀ w : World, Tab w 4 kevCells → Tab w 3 lenCells → Tab w 2 Fe.cells → Calls Tryo.prog 17 #[.int .i64 (1 + y % 9998), .int .i64 pl] w fun e w' => ∃ v, e = .returned (.tuple #[v, .int .i64 0]) ∧ Rd.Own w' w.heap.size v La ∧ Below w.heap.size w w'))
    (HP : Hid (∀ (d : Int) (w : World), Calls Tryo.prog 29 #[.int .i64 (1 + y % 9998), .int .i64 d] w fun e w' => e = .returned (.tuple #[.int .i64 ((part d : Int) + 1), .int .i64 0]) ∧ Below w.heap.size w w'))
    (HI : Hid (∀ w : World, Calls Tryo.prog 30 #[.int .i64 (1 + y % 9998)] w fun e w' => e = .returned (.bool lp) ∧ w = w'))
    (HY : Hid (∀ w : World, Calls Tryo.prog 31 #[.int .i64 (1 + y % 9998 + 1), .int .i64 1, .int .i64 15] w fun e w' => e = .returned (.int .i64 T) ∧ Below w.heap.size w w'))
    (HW : Hid (∀ W, Below w.heap.size w W → Calls Tryo.prog 21 #[] W fun e w' => e = .returned (.bool true) ∧ Below W.heap.size W w'))
    (h1 : (Rd.lastAt part La 1).1 + (Rd.lastAt part La 1).2.1 - 1 = E1) (h1' : -1000 ≤ (Rd.lastAt part La 1).1 + (Rd.lastAt part La 1).2.1 ∧ (Rd.lastAt part La 1).1 + (Rd.lastAt part La 1).2.1 ≤ 1000)
    (h2 : (Rd.lastAt part La 2).1 + (Rd.lastAt part La 2).2.1 - 1 = E2) (h2' : -1000 ≤ (Rd.lastAt part La 2).1 + (Rd.lastAt part La 2).2.1 ∧ (Rd.lastAt part La 2).1 + (Rd.lastAt part La 2).2.1 ≤ 1000)
    (h3 : (Rd.lastAt part La 3).1 + (Rd.lastAt part La 3).2.1 - 1 = 44) (h4 : (Rd.lastAt part La 4).1 = 51) (h5 : (Rd.lastAt part La 5).1 = 53) (h6 : (Rd.lastAt part La 5).2.1 = 1) (h7 : (Rd.lastAt part La 5).2.2 < T)
    (hE1 : lp = false ∧ E1 = 25 ∨ lp = true ∧ E1 = 28 ∨ lp = true ∧ E1 = 29) (hE2 : E2 = 34 ∨ E2 = 35) :
    Calls Tryo.prog 7 #[.int .u16 y, .int .u8 u] w fun e w' => e = .returned (.bool true) ∧ Below w.heap.size w w' := by
  obtain ⟨y1, y2⟩ := hy
  obtain ⟨t1, t2⟩ := hu
  have k0 : y.tmod 9998 = y % 9998 := Int.tmod_eq_emod_of_nonneg y1
  have k1 := Int.emod_nonneg y (show (9998 : Int) ≠ 0 by decide)
  have k2 := Int.emod_lt_of_pos y (show (0 : Int) < 9998 by decide)
  have l0 : u.tmod 2 = pl := (Int.tmod_eq_emod_of_nonneg t1).trans hpl
  have hpl2 : 0 ≤ pl ∧ pl ≤ 1 := by omega
  obtain ⟨q1, q2⟩ := hpl2
  clear hpl
  go_enter Tryo.func7, Tryz.ntmps7
  go_wp2_with fail
  refine (HA.out _ (Tab.below hT (by repeat (first | (with_reducible exact Below.refl _ _) | (with_reducible assumption) | (with_reducible refine bdrew ?_) | (with_reducible refine baa ?_ _) | (with_reducible refine bs ?_ (by first | exact Nat.le_refl _ | omega | (simp; done) | (simp; omega)) _) | (with_reducible refine bt ?_ (by with_reducible assumption))))) (Tab.below hL (by repeat (first | (with_reducible exact Below.refl _ _) | (with_reducible assumption) | (with_reducible refine bdrew ?_) | (with_reducible refine baa ?_ _) | (with_reducible refine bs ?_ (by first | exact Nat.le_refl _ | omega | (simp; done) | (simp; omega)) _) | (with_reducible refine bt ?_ (by with_reducible assumption))))) (Tab.below hF (by repeat (first | (with_reducible exact Below.refl _ _) | (with_reducible assumption) | (with_reducible refine bdrew ?_) | (with_reducible refine baa ?_ _) | (with_reducible refine bs ?_ (by first | exact Nat.le_refl _ | omega | (simp; done) | (simp; omega)) _) | (with_reducible refine bt ?_ (by with_reducible assumption)))))).mono ?_
  rintro e w1 ⟨va, rfl, ho1, hb1⟩
  have hB1 : Below w.heap.size w w1 := by repeat (first | (with_reducible exact Below.refl _ _) | (with_reducible assumption) | (with_reducible refine bdrew ?_) | (with_reducible refine baa ?_ _) | (with_reducible refine bs ?_ (by first | exact Nat.le_refl _ | omega | (simp; done) | (simp; omega)) _) | (with_reducible refine bt ?_ (by with_reducible assumption)))
  have hra := ho1.row
  obtain ⟨pa, ca, rfl⟩ := hra.len
  rw [hla]
  have HNA := Lib.hid hla
  have HFIN := Lib.hid (And.intro h1 (And.intro h1' (And.intro h2 (And.intro h2' (And.intro h3 (And.intro h4 (And.intro h5 (And.intro h6 h7))))))))
  have e0 : wrap64 (1 + y % 9998 + 1) = 1 + y % 9998 + 1 := IntWalk.wrap64_in _ ⟨by omega, by omega⟩
  have kb : 1 ≤ 1 + y % 9998 ∧ 1 + y % 9998 ≤ 9998 := by omega
  clear ho1 HA hla h1 h1' h2 h2' h3 h4 h5 h6 h7
  generalize hk : 1 + y % 9998 = k at *
  go_wp2_with fail
  go_loopw [10] (fun i wr => ∃ j : Nat, j ≤ n ∧ i = .int .i64 (j : Int) ∧ Rd.Six wr w1.heap.size (Rd.lastAt part (La.take j)) ∧ Below w1.heap.size w1 wr) (fun i _ => n - (intOf i).toNat)
  case atStart =>
    refine ⟨0, Nat.zero_le _, rfl, ⟨by simp, fun i => by simp [go_sem], fun q hq => ?_⟩, by repeat (first | (with_reducible exact Below.refl _ _) | (with_reducible assumption) | (with_reducible refine bdrew ?_) | (with_reducible refine baa ?_ _) | (with_reducible refine bs ?_ (by first | exact Nat.le_refl _ | omega | (simp; done) | (simp; omega)) _) | (with_reducible refine bt ?_ (by with_reducible assumption)))⟩
    rcases (show q = 0 ∨ q = 1 ∨ q = 2 ∨ q = 3 ∨ q = 4 ∨ q = 5 by omega) with rfl | rfl | rfl | rfl | rfl | rfl <;> simp [go_sem, Rd.lastAt]
  case round =>
    obtain ⟨j, hj, rfl, HS, hB⟩ := hrel
    obtain ⟨w9, rfl⟩ : ∃ x, x = wr := ⟨_, rfl⟩
    have hBw : Below w.heap.size w w9 := bt hB1 hB
    by_cases hlt : j < n
    · obtain ⟨xa, hxa⟩ : ∃ x, La[j]? = some x := ⟨_, List.getElem?_eq_getElem (by rw [HNA.out]; exact hlt)⟩
      have HX := Lib.hid (Rd.lastAt_next part La j xa hxa)
      obtain ⟨a1, a2, D⟩ := xa
      have hpd := HD.out D
      have HPd := Lib.hid (HP.out D)
      obtain ⟨ba, oa, cca, hp1, hca⟩ := (hra.below hB).at_some (by rw [HNA.out]; omega)
      rw [HNA.out] at hp1
      simp only [Value.slice.injEq] at hp1
      obtain ⟨rfl, _, rfl⟩ := hp1
      obtain ⟨x1, x2, x3⟩ := Rd.cells_at hca j (a1, a2, D) hxa
      have lx := World.block_lt_of_cell? _ _ x1
      dsimp only at lx x1 x2 x3
      have j0 : (0 : Int) ≤ (j : Int) := by omega
      have j1 : (j : Int) < (n : Int) := by omega
      obtain ⟨m, hm⟩ : ∃ m, m = part D + 1 := ⟨_, rfl⟩
      have HM := Lib.hid hm
      have hm6 : m < 6 := by omega
      rw [show ((part D : Int) + 1) = (m : Int) by rw [hm]; push_cast; rfl] at HPd
      have m0 : (0 : Int) ≤ (m : Int) := by omega
      have m1 : (m : Int) < 6 := by omega
      clear hca hxa hm hpd
      go_wp2_with fail
      refine (HPd.out _).mono ?_
      rintro e w3 ⟨rfl, hb3⟩
      obtain ⟨hc3, hf3⟩ := bcell hb3
      have u1 := (hc3 _ _ lx).trans x1
      have u2 := (hc3 _ _ lx).trans x2
      have u3 := (hc3 _ _ lx).trans x3
      have hz3 := hb3.size
      have lu : ba < w3.heap.size := by omega
      have HS3 := Lib.hid (HS.below hb3)
      obtain ⟨s1, s2, s3⟩ := HS3.out
      obtain ⟨s4, s5, s6⟩ := s3 m hm6
      have hB3 : Below w1.heap.size w1 w3 := by repeat (first | (with_reducible exact Below.refl _ _) | (with_reducible assumption) | (with_reducible refine bdrew ?_) | (with_reducible refine baa ?_ _) | (with_reducible refine bs ?_ (by first | exact Nat.le_refl _ | omega | (simp; done) | (simp; omega)) _) | (with_reducible refine bt ?_ (by with_reducible assumption)))
      clear x1 x2 x3 hc3 hf3 s3 HS
      by_cases ca1 : 0 < a1
      · have d1 : decide (0 < a1) = true := decide_eq_true ca1
        have HC := Lib.hid ca1
        go_wp2_with fail
        go_roundw
        case rel =>
          refine ⟨j + 1, by omega, by go_num, ?_, by repeat (first | (with_reducible exact Below.refl _ _) | (with_reducible assumption) | (with_reducible refine bdrew ?_) | (with_reducible refine baa ?_ _) | (with_reducible refine bs ?_ (by first | exact Nat.le_refl _ | omega | (simp; done) | (simp; omega)) _) | (with_reducible refine bt ?_ (by with_reducible assumption)))⟩
          have h9 := Rd.Six.put HS3.out hm6 a1 a2 D
          have e9 : Rd.lastAt part (La.take (j + 1)) = fun q => if q = m then (a1, a2, D) else Rd.lastAt part (La.take j) q := by
            funext q
            rw [HX.out q]
            unfold Rd.pick
            by_cases e : q = m
            · rw [if_pos e, if_pos ⟨HC.out, by have := HM.out; dsimp only; omega⟩]
            · rw [if_neg e, if_neg (fun h => e (by have := HM.out; have := h.2; dsimp only at this; omega))]
          rw [e9]
          exact h9
        case measure => simp [intOf]; omega
      · have d1 : decide (0 < a1) = false := decide_eq_false ca1
        have HC := Lib.hid ca1
        go_wp2_with fail
        go_roundw
        case rel =>
          refine ⟨j + 1, by omega, by go_num, ?_, by repeat (first | (with_reducible exact Below.refl _ _) | (with_reducible assumption) | (with_reducible refine bdrew ?_) | (with_reducible refine baa ?_ _) | (with_reducible refine bs ?_ (by first | exact Nat.le_refl _ | omega | (simp; done) | (simp; omega)) _) | (with_reducible refine bt ?_ (by with_reducible assumption)))⟩
          have e9 : Rd.lastAt part (La.take (j + 1)) = Rd.lastAt part (La.take j) := by
            funext q
            rw [HX.out q]
            unfold Rd.pick
            rw [if_neg (fun h => by have h8 := HC.out; have h7 := h.1; dsimp only at h7; omega)]
          rw [e9]
          exact HS3.out
        case measure => simp [intOf]; omega
    · obtain rfl : j = n := by omega
      rw [List.take_of_length_le (by rw [HNA.out]; exact Nat.le_refl _)] at HS
      obtain ⟨h1, h1', h2, h2', h3, h4, h5, h6, h7⟩ := HFIN.out
      obtain ⟨s1, s2, s3⟩ := HS
      have r1 := s3 1 (by omega)
      have r2 := s3 2 (by omega)
      have r3 := s3 3 (by omega)
      have r4 := s3 4 (by omega)
      have r5 := s3 5 (by omega)
      rw [h4] at r4
      rw [h5, h6] at r5
      generalize Rd.lastAt part La 1 = x1 at *
      generalize Rd.lastAt part La 2 = x2 at *
      generalize Rd.lastAt part La 3 = x3 at *
      generalize Rd.lastAt part La 4 = x4 at *
      generalize Rd.lastAt part La 5 = x5 at *
      obtain ⟨a1, b1, c1⟩ := x1
      obtain ⟨a2, b2, c2⟩ := x2
      obtain ⟨a3, b3, c3⟩ := x3
      obtain ⟨a4, b4, c4⟩ := x4
      obtain ⟨a5, b5, c5⟩ := x5
      dsimp only at h1 h1' h2 h2' h3 h4 h5 h6 h7 r1 r2 r3 r4 r5
      simp only [Nat.reduceMul, Nat.reduceAdd, Nat.one_mul] at r1 r2 r3 r4 r5
      obtain ⟨v11, v12, v13⟩ := r1
      obtain ⟨v21, v22, v23⟩ := r2
      obtain ⟨v31, v32, v33⟩ := r3
      obtain ⟨v41, v42, v43⟩ := r4
      obtain ⟨v51, v52, v53⟩ := r5
      have w11 : wrap64 (a1 + b1) = a1 + b1 := IntWalk.wrap64_in _ ⟨by omega, by omega⟩
      have w12 : wrap64 (a1 + b1 - 1) = E1 := by rw [h1]; exact IntWalk.wrap64_in _ ⟨by omega, by omega⟩
      have w21 : wrap64 (a2 + b2) = a2 + b2 := IntWalk.wrap64_in _ ⟨by omega, by omega⟩
      have w22 : wrap64 (a2 + b2 - 1) = E2 := by rw [h2]; exact IntWalk.wrap64_in _ ⟨by omega, by omega⟩
      have w31 : wrap64 (a3 + b3) = a3 + b3 := IntWalk.wrap64_in _ ⟨by omega, by omega⟩
      have w32 : wrap64 (a3 + b3 - 1) = 44 := by rw [h3]; exact IntWalk.wrap64_in _ ⟨by omega, by omega⟩
      have g5 : decide (c5 < T) = true := decide_eq_true h7
      clear h4 h5 h6 h1' h2' s3 hlt
      rcases hE1 with ⟨rfl, rfl⟩ | ⟨rfl, rfl⟩ | ⟨rfl, rfl⟩ <;> rcases hE2 with rfl | rfl
      · go_wp2_with fail
        refine (HI.out _).mono ?_
        rintro e w' ⟨rfl, rfl⟩
        go_wp2_with fail
        refine (HI.out _).mono ?_
        rintro e w' ⟨rfl, rfl⟩
        go_wp2_with fail
        refine wp_region_class (by kernel_rfl) (by kernel_rfl) (fun hall => ?_)
        repeat (first | go_big_quiet_skip | (go_big_quiet_want; first | (refine quiet_load1 _ _ _ rfl rfl ?_ ?_ ?_; (focus (intro _; simp; done)); (focus (first | assumption | omega | (simp; done) | (simp; omega))); apply Exists.intro; refine ⟨?_, ?_⟩; assumption; go_simp; go_big_quiet_on) | (refine quiet_load2 _ _ _ _ rfl rfl ?_ ?_ ?_ ?_; (focus (intro _; simp; done)); (focus (intro _; simp; done)); (focus (first | assumption | omega | (simp; done) | (simp; omega))); apply Exists.intro; apply Exists.intro; refine ⟨?_, ?_, ?_⟩; assumption; assumption; go_simp; go_big_quiet_on) | (refine quiet_load3 _ _ _ _ rfl rfl ?_ ?_ ?_ ?_; (focus (intro _; simp; done)); (focus (intro _; simp; done)); (focus (first | assumption | omega | (simp; done) | (simp; omega))); apply Exists.intro; apply Exists.intro; apply Exists.intro; refine ⟨?_, ?_, ?_, ?_⟩; assumption; assumption; assumption; go_simp; go_big_quiet_on) | (refine quiet_load4 _ _ _ _ rfl rfl ?_ ?_ ?_ ?_; (focus (intro _; simp; done)); (focus (intro _; simp; done)); (focus (first | assumption | omega | (simp; done) | (simp; omega))); apply Exists.intro; apply Exists.intro; apply Exists.intro; apply Exists.intro; refine ⟨?_, ?_, ?_, ?_, ?_⟩; assumption; assumption; assumption; assumption; go_simp; go_big_quiet_on) | (go_big_quiet_op; first | go_big_quiet_on | (apply Exists.intro; refine ⟨fun x hx => ?_, ?_⟩; (first | (with_reducible exact call_below hx (HW.out x (bt hBw hx))) | (with_reducible exact call_below hx (HY.out x)) | exact call_below hx (HW.out x (bt hBw hx)) | exact call_below hx (HY.out x)); go_big_quiet_on))))
        refine wpQuiet_nil ?_
        clear hall
        intro x6 hx6
        go_wp2_with fail
        go_ret
        exact ⟨rfl, bt hBw hx6⟩
      · go_wp2_with fail
        refine (HI.out _).mono ?_
        rintro e w' ⟨rfl, rfl⟩
        go_wp2_with fail
        refine (HI.out _).mono ?_
        rintro e w' ⟨rfl, rfl⟩
        go_wp2_with fail
        refine wp_region_class (by kernel_rfl) (by kernel_rfl) (fun hall => ?_)
        repeat (first | go_big_quiet_skip | (go_big_quiet_want; first | (refine quiet_load1 _ _ _ rfl rfl ?_ ?_ ?_; (focus (intro _; simp; done)); (focus (first | assumption | omega | (simp; done) | (simp; omega))); apply Exists.intro; refine ⟨?_, ?_⟩; assumption; go_simp; go_big_quiet_on) | (refine quiet_load2 _ _ _ _ rfl rfl ?_ ?_ ?_ ?_; (focus (intro _; simp; done)); (focus (intro _; simp; done)); (focus (first | assumption | omega | (simp; done) | (simp; omega))); apply Exists.intro; apply Exists.intro; refine ⟨?_, ?_, ?_⟩; assumption; assumption; go_simp; go_big_quiet_on) | (refine quiet_load3 _ _ _ _ rfl rfl ?_ ?_ ?_ ?_; (focus (intro _; simp; done)); (focus (intro _; simp; done)); (focus (first | assumption | omega | (simp; done) | (simp; omega))); apply Exists.intro; apply Exists.intro; apply Exists.intro; refine ⟨?_, ?_, ?_, ?_⟩; assumption; assumption; assumption; go_simp; go_big_quiet_on) | (refine quiet_load4 _ _ _ _ rfl rfl ?_ ?_ ?_ ?_; (focus (intro _; simp; done)); (focus (intro _; simp; done)); (focus (first | assumption | omega | (simp; done) | (simp; omega))); apply Exists.intro; apply Exists.intro; apply Exists.intro; apply Exists.intro; refine ⟨?_, ?_, ?_, ?_, ?_⟩; assumption; assumption; assumption; assumption; go_simp; go_big_quiet_on) | (go_big_quiet_op; first | go_big_quiet_on | (apply Exists.intro; refine ⟨fun x hx => ?_, ?_⟩; (first | (with_reducible exact call_below hx (HW.out x (bt hBw hx))) | (with_reducible exact call_below hx (HY.out x)) | exact call_below hx (HW.out x (bt hBw hx)) | exact call_below hx (HY.out x)); go_big_quiet_on))))
        refine wpQuiet_nil ?_
        clear hall
        intro x6 hx6
        go_wp2_with fail
        go_ret
        exact ⟨rfl, bt hBw hx6⟩
      · go_wp2_with fail
        refine (HI.out _).mono ?_
        rintro e w' ⟨rfl, rfl⟩
        go_wp2_with fail
        refine (HI.out _).mono ?_
        rintro e w' ⟨rfl, rfl⟩
        go_wp2_with fail
        refine wp_region_class (by kernel_rfl) (by kernel_rfl) (fun hall => ?_)
        repeat (first | go_big_quiet_skip | (go_big_quiet_want; first | (refine quiet_load1 _ _ _ rfl rfl ?_ ?_ ?_; (focus (intro _; simp; done)); (focus (first | assumption | omega | (simp; done) | (simp; omega))); apply Exists.intro; refine ⟨?_, ?_⟩; assumption; go_simp; go_big_quiet_on) | (refine quiet_load2 _ _ _ _ rfl rfl ?_ ?_ ?_ ?_; (focus (intro _; simp; done)); (focus (intro _; simp; done)); (focus (first | assumption | omega | (simp; done) | (simp; omega))); apply Exists.intro; apply Exists.intro; refine ⟨?_, ?_, ?_⟩; assumption; assumption; go_simp; go_big_quiet_on) | (refine quiet_load3 _ _ _ _ rfl rfl ?_ ?_ ?_ ?_; (focus (intro _; simp; done)); (focus (intro _; simp; done)); (focus (first | assumption | omega | (simp; done) | (simp; omega))); apply Exists.intro; apply Exists.intro; apply Exists.intro; refine ⟨?_, ?_, ?_, ?_⟩; assumption; assumption; assumption; go_simp; go_big_quiet_on) | (refine quiet_load4 _ _ _ _ rfl rfl ?_ ?_ ?_ ?_; (focus (intro _; simp; done)); (focus (intro _; simp; done)); (focus (first | assumption | omega | (simp; done) | (simp; omega))); apply Exists.intro; apply Exists.intro; apply Exists.intro; apply Exists.intro; refine ⟨?_, ?_, ?_, ?_, ?_⟩; assumption; assumption; assumption; assumption; go_simp; go_big_quiet_on) | (go_big_quiet_op; first | go_big_quiet_on | (apply Exists.intro; refine ⟨fun x hx => ?_, ?_⟩; (first | (with_reducible exact call_below hx (HW.out x (bt hBw hx))) | (with_reducible exact call_below hx (HY.out x)) | exact call_below hx (HW.out x (bt hBw hx)) | exact call_below hx (HY.out x)); go_big_quiet_on))))
        refine wpQuiet_nil ?_
        clear hall
        intro x6 hx6
        go_wp2_with fail
        go_ret
        exact ⟨rfl, bt hBw hx6⟩
      · go_wp2_with fail
        refine (HI.out _).mono ?_
        rintro e w' ⟨rfl, rfl⟩
        go_wp2_with fail
        refine (HI.out _).mono ?_
        rintro e w' ⟨rfl, rfl⟩
        go_wp2_with fail
        refine wp_region_class (by kernel_rfl) (by kernel_rfl) (fun hall => ?_)
        repeat (first | go_big_quiet_skip | (go_big_quiet_want; first | (refine quiet_load1 _ _ _ rfl rfl ?_ ?_ ?_; (focus (intro _; simp; done)); (focus (first | assumption | omega | (simp; done) | (simp; omega))); apply Exists.intro; refine ⟨?_, ?_⟩; assumption; go_simp; go_big_quiet_on) | (refine quiet_load2 _ _ _ _ rfl rfl ?_ ?_ ?_ ?_; (focus (intro _; simp; done)); (focus (intro _; simp; done)); (focus (first | assumption | omega | (simp; done) | (simp; omega))); apply Exists.intro; apply Exists.intro; refine ⟨?_, ?_, ?_⟩; assumption; assumption; go_simp; go_big_quiet_on) | (refine quiet_load3 _ _ _ _ rfl rfl ?_ ?_ ?_ ?_; (focus (intro _; simp; done)); (focus (intro _; simp; done)); (focus (first | assumption | omega | (simp; done) | (simp; omega))); apply Exists.intro; apply Exists.intro; apply Exists.intro; refine ⟨?_, ?_, ?_, ?_⟩; assumption; assumption; assumption; go_simp; go_big_quiet_on) | (refine quiet_load4 _ _ _ _ rfl rfl ?_ ?_ ?_ ?_; (focus (intro _; simp; done)); (focus (intro _; simp; done)); (focus (first | assumption | omega | (simp; done) | (simp; omega))); apply Exists.intro; apply Exists.intro; apply Exists.intro; apply Exists.intro; refine ⟨?_, ?_, ?_, ?_, ?_⟩; assumption; assumption; assumption; assumption; go_simp; go_big_quiet_on) | (go_big_quiet_op; first | go_big_quiet_on | (apply Exists.intro; refine ⟨fun x hx => ?_, ?_⟩; (first | (with_reducible exact call_below hx (HW.out x (bt hBw hx))) | (with_reducible exact call_below hx (HY.out x)) | exact call_below hx (HW.out x (bt hBw hx)) | exact call_below hx (HY.out x)); go_big_quiet_on))))
        refine wpQuiet_nil ?_
        clear hall
        intro x6 hx6
        go_wp2_with fail
        go_ret
        exact ⟨rfl, bt hBw hx6⟩
      · go_wp2_with fail
        refine (HI.out _).mono ?_
        rintro e w' ⟨rfl, rfl⟩
        go_wp2_with fail
        refine (HI.out _).mono ?_
        rintro e w' ⟨rfl, rfl⟩
        go_wp2_with fail
        refine wp_region_class (by kernel_rfl) (by kernel_rfl) (fun hall => ?_)
        repeat (first | go_big_quiet_skip | (go_big_quiet_want; first | (refine quiet_load1 _ _ _ rfl rfl ?_ ?_ ?_; (focus (intro _; simp; done)); (focus (first | assumption | omega | (simp; done) | (simp; omega))); apply Exists.intro; refine ⟨?_, ?_⟩; assumption; go_simp; go_big_quiet_on) | (refine quiet_load2 _ _ _ _ rfl rfl ?_ ?_ ?_ ?_; (focus (intro _; simp; done)); (focus (intro _; simp; done)); (focus (first | assumption | omega | (simp; done) | (simp; omega))); apply Exists.intro; apply Exists.intro; refine ⟨?_, ?_, ?_⟩; assumption; assumption; go_simp; go_big_quiet_on) | (refine quiet_load3 _ _ _ _ rfl rfl ?_ ?_ ?_ ?_; (focus (intro _; simp; done)); (focus (intro _; simp; done)); (focus (first | assumption | omega | (simp; done) | (simp; omega))); apply Exists.intro; apply Exists.intro; apply Exists.intro; refine ⟨?_, ?_, ?_, ?_⟩; assumption; assumption; assumption; go_simp; go_big_quiet_on) | (refine quiet_load4 _ _ _ _ rfl rfl ?_ ?_ ?_ ?_; (focus (intro _; simp; done)); (focus (intro _; simp; done)); (focus (first | assumption | omega | (simp; done) | (simp; omega))); apply Exists.intro; apply Exists.intro; apply Exists.intro; apply Exists.intro; refine ⟨?_, ?_, ?_, ?_, ?_⟩; assumption; assumption; assumption; assumption; go_simp; go_big_quiet_on) | (go_big_quiet_op; first | go_big_quiet_on | (apply Exists.intro; refine ⟨fun x hx => ?_, ?_⟩; (first | (with_reducible exact call_below hx (HW.out x (bt hBw hx))) | (with_reducible exact call_below hx (HY.out x)) | exact call_below hx (HW.out x (bt hBw hx)) | exact call_below hx (HY.out x)); go_big_quiet_on))))
        refine wpQuiet_nil ?_
        clear hall
        intro x6 hx6
        go_wp2_with fail
        go_ret
        exact ⟨rfl, bt hBw hx6⟩
      · go_wp2_with fail
        refine (HI.out _).mono ?_
        rintro e w' ⟨rfl, rfl⟩
        go_wp2_with fail
        refine (HI.out _).mono ?_
        rintro e w' ⟨rfl, rfl⟩
        go_wp2_with fail
        refine wp_region_class (by kernel_rfl) (by kernel_rfl) (fun hall => ?_)
        repeat (first | go_big_quiet_skip | (go_big_quiet_want; first | (refine quiet_load1 _ _ _ rfl rfl ?_ ?_ ?_; (focus (intro _; simp; done)); (focus (first | assumption | omega | (simp; done) | (simp; omega))); apply Exists.intro; refine ⟨?_, ?_⟩; assumption; go_simp; go_big_quiet_on) | (refine quiet_load2 _ _ _ _ rfl rfl ?_ ?_ ?_ ?_; (focus (intro _; simp; done)); (focus (intro _; simp; done)); (focus (first | assumption | omega | (simp; done) | (simp; omega))); apply Exists.intro; apply Exists.intro; refine ⟨?_, ?_, ?_⟩; assumption; assumption; go_simp; go_big_quiet_on) | (refine quiet_load3 _ _ _ _ rfl rfl ?_ ?_ ?_ ?_; (focus (intro _; simp; done)); (focus (intro _; simp; done)); (focus (first | assumption | omega | (simp; done) | (simp; omega))); apply Exists.intro; apply Exists.intro; apply Exists.intro; refine ⟨?_, ?_, ?_, ?_⟩; assumption; assumption; assumption; go_simp; go_big_quiet_on) | (refine quiet_load4 _ _ _ _ rfl rfl ?_ ?_ ?_ ?_; (focus (intro _; simp; done)); (focus (intro _; simp; done)); (focus (first | assumption | omega | (simp; done) | (simp; omega))); apply Exists.intro; apply Exists.intro; apply Exists.intro; apply Exists.intro; refine ⟨?_, ?_, ?_, ?_, ?_⟩; assumption; assumption; assumption; assumption; go_simp; go_big_quiet_on) | (go_big_quiet_op; first | go_big_quiet_on | (apply Exists.intro; refine ⟨fun x hx => ?_, ?_⟩; (first | (with_reducible exact call_below hx (HW.out x (bt hBw hx))) | (with_reducible exact call_below hx (HY.out x)) | exact call_below hx (HW.out x (bt hBw hx)) | exact call_below hx (HY.out x)); go_big_quiet_on))))
        refine wpQuiet_nil ?_
        clear hall
        intro x6 hx6
        go_wp2_with fail
        go_ret
        exact ⟨rfl, bt hBw hx6⟩
theorem TorahAnchors_walk (y u : Int) (hy : 0 ≤ y ∧ y ≤ 65535) (hu : 0 ≤ u ∧ u ≤ 255) (w : World) (hT : Tab w 4 kevCells) (hL : Tab w 3 lenCells) (hF : Tab w 2 Fe.cells) (hP : Tab w 1 Rd.prCells) (hN : Tab w 0 Rd.nmCells) :
    Calls Tryo.prog 7 #[.int .u16 y, .int .u8 u] w fun e w' => e = .returned (.bool true) ∧ Below w.heap.size w w' := by
  have k1 := Int.emod_nonneg y (show (9998 : Int) ≠ 0 by decide)
  have k2 := Int.emod_lt_of_pos y (show (0 : Int) < 9998 by decide)
  obtain ⟨i, h⟩ := Yr.is_some (1 + y % 9998) (by omega) (by omega)
  obtain ⟨i2, h2⟩ := Yr.is_some (1 + y % 9998 + 1) (by omega) (by omega)
  obtain ⟨p, hp⟩ : ∃ p : Bool, u % 2 = if p then 1 else 0 := by
    rcases (show u % 2 = 0 ∨ u % 2 = 1 by omega) with e | e
    · exact ⟨false, by rw [e]; rfl⟩
    · exact ⟨true, by rw [e]; rfl⟩
  have ha := Rd.anch_at h.2.2.1 p
  unfold Rd.anch at ha
  have hal : ∀ q, Rd.Alike (Cal.first (1 + y % 9998) - kevB i) (Rd.ends i p q) (Rd.lastAt (Rd.partY (1 + y % 9998)) ((Rd.cyc0 i p).map (Rd.sh (Cal.first (1 + y % 9998) - kevB i))) q) := fun q => Rd.lastAt_sh _ _ _ (fun d => Rd.partY_sh h h2 d) q _ _ _ ⟨rfl, rfl, fun h => absurd h (by decide)⟩
  have g1 := hal 1
  have g2 := hal 2
  have g3 := hal 3
  have g4 := hal 4
  have g5 := hal 5
  have hT15 : D10.dayV (1 + y % 9998 + 1) 1 false 15 = Cal.first (1 + y % 9998) + Yr.lenV i + 14 := by
    obtain ⟨b1, b2⟩ := Rd.ok15_at i2 h2.2.2.1
    rw [(Yr.day_off h2 b1).2, b2, Yr.next_first h]
  obtain ⟨g11, g12, _⟩ := g1
  obtain ⟨g21, g22, _⟩ := g2
  obtain ⟨g31, g32, _⟩ := g3
  obtain ⟨g41, g42, _⟩ := g4
  obtain ⟨g51, g52, g53⟩ := g5
  simp only [Bool.and_eq_true, decide_eq_true_eq, Bool.or_eq_true] at ha
  obtain ⟨A1, A2, A3, A4, A5, A6, A7⟩ := ha
  have g54 := g53 (by omega)
  have A1' : kevL i = false ∧ (Rd.ends i p 1).1 + (Rd.ends i p 1).2.1 - 1 = 25 ∨ kevL i = true ∧ (Rd.ends i p 1).1 + (Rd.ends i p 1).2.1 - 1 = 28 ∨ kevL i = true ∧ (Rd.ends i p 1).1 + (Rd.ends i p 1).2.1 - 1 = 29 := by
    rcases e : kevL i with _ | _
    · rw [e] at A1
      simp only [Bool.false_eq_true, if_false, decide_eq_true_eq] at A1
      exact .inl ⟨rfl, A1⟩
    · rw [e] at A1
      simp only [if_true, Bool.or_eq_true, decide_eq_true_eq] at A1
      rcases A1 with A1 | A1
      · exact .inr (.inl ⟨rfl, A1⟩)
      · exact .inr (.inr ⟨rfl, A1⟩)
  clear A1
  refine TorahAnchors_go y u (if p then 1 else 0) (D10.dayV (1 + y % 9998 + 1) 1 false 15) _ _ (kevL i) (Rd.cyc0 i p).length ((Rd.cyc0 i p).map (Rd.sh (Cal.first (1 + y % 9998) - kevB i))) (Rd.partY (1 + y % 9998)) w hy hu hT hL hF (List.length_map ..) (Rd.len_at h.2.2.1 p)
    (Lib.hid fun d => by have := Rd.part_in d (D10.dayV (1 + y % 9998) 7 false 15) (D10.dayV (1 + y % 9998) 9 false 5) (D10.dayV (1 + y % 9998) 11 false 9) (D10.dayV (1 + y % 9998 + 1) 1 false 1); unfold Rd.partY; omega) hp
    (Lib.hid fun w hT hL hF => rd_Cycle _ i i2 p w h h2 hT hL hF) (Lib.hid fun d w => ref23_Part _ i i2 d w h h2)
    (Lib.hid fun w => by have := ref3_Is (1 + y % 9998) w (by omega) (by omega); rwa [h.2.2.2.2.2] at this)
    (Lib.hid fun w => ref19_Day _ 1 15 w ⟨by omega, by omega⟩)
    (Lib.hid fun W hW => awake24 W (Tab.below hT hW) (Tab.below hL hW) (Tab.below hF hW) (Tab.below hP hW) (Tab.below hN hW)) rfl ?_ rfl ?_ ?_ ?_ ?_ ?_ ?_ ?_ ?_
  · rcases A1' with ⟨_, A⟩ | ⟨_, A⟩ | ⟨_, A⟩ <;> omega
  · omega
  · omega
  · omega
  · omega
  · omega
  · rw [hT15]; omega
  · rcases A1' with ⟨e, A⟩ | ⟨e, A⟩ | ⟨e, A⟩
    · exact .inl ⟨e, by omega⟩
    · exact .inr (.inl ⟨e, by omega⟩)
    · exact .inr (.inr ⟨e, by omega⟩)
  · omega
end Go.Proofs.YtoofgalkchnpnaaGreatDoor
