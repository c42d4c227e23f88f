/- Layer 22: the Sabbaths with names, counted from the year's first day; the name of a day. -/
import Derived.Test.YtbmcpeccofadhaaDoorSpO
import Derived.Test.YtbmcpeccofadhaaDoorYr
namespace Go.Proofs.YtbmcpeccofadhaaDoor
open Go.ChangeShapes Go.WideShapes Go.ChangeAt Go.RowKit Go.Lib Go.Sort Go.Shelf
set_option linter.unusedVariables false
set_option maxRecDepth 100000
namespace Sp
def offU (i : Nat) (n d : Int) : Int := Yr.offV i n false d - (kevB i + Yr.offV i n false d - 6) % 7
def offF (i : Nat) (n d : Int) : Int := Yr.offV i n false d + (6 - (kevB i + Yr.offV i n false d)) % 7
/-- A year's Sabbaths with names, counted from its first day. -/
def spL (i : Nat) : List (Int × Int) := [(35, offF i 1 3), (30, offU i 6 1), (31, offU i 6 13), (32, offU i 7 1 - 7), (33, offU i 7 1), (34, offU i 7 14), (36, offU i 11 9), (37, offU i 11 9 + 7)]
theorem sp_ok : ((List.range 14).all fun i => decide (Ev.sort (spL i) = spL i) && (Yr.okV i 7 false 1 && (Yr.okV i 11 false 9 && (Yr.okV i 1 false 3 && (Yr.okV i 6 false 1 && (Yr.okV i 6 false 13 && (Yr.okV i 7 false 14 && (spL i).all fun x => decide (0 ≤ x.2) && decide (x.2 ≤ 400)))))))) = true := by decide +kernel
theorem up_off {y n d : Int} {i : Nat} (h : Yr.Is y i) (hv : Yr.okV i n false d = true) : up y n d = Cal.first y + offU i n d ∧ D10.dayV y n false d = Cal.first y + Yr.offV i n false d := by
  have e := (Yr.day_off h hv).2
  have hb := h.2.2.2.1
  refine ⟨?_, e⟩
  unfold up offU
  rw [e, show (Cal.first y + Yr.offV i n false d - 6) % 7 = (kevB i + Yr.offV i n false d - 6) % 7 by omega]
  omega
theorem fr_off {y n d : Int} {i : Nat} (h : Yr.Is y i) (hv : Yr.okV i n false d = true) : fr y n d = Cal.first y + offF i n d := by
  have e := (Yr.day_off h hv).2
  have hb := h.2.2.2.1
  unfold fr offF
  rw [e, show (6 - (Cal.first y + Yr.offV i n false d)) % 7 = (6 - (kevB i + Yr.offV i n false d)) % 7 by omega]
  omega
theorem upto_off {y : Int} {i : Nat} (h : Yr.Is y i) : upto y 8 = (spL i).map (Ev.sh (Cal.first y)) := by
  have hc := List.all_eq_true.1 sp_ok i (List.mem_range.2 h.2.2.1)
  simp only [Bool.and_eq_true] at hc
  obtain ⟨_, c1, c2, c3, c4, c5, c6, _⟩ := hc
  have u1 := (up_off h c1).1
  have u2 := (up_off h c2).1
  have u3 := fr_off h c3
  have u4 := (up_off h c4).1
  have u5 := (up_off h c5).1
  have u6 := (up_off h c6).1
  simp only [upto, List.range_succ, List.range_zero, List.nil_append, List.cons_append, List.map_cons, List.map_nil, kind, day, List.getD_cons_zero, List.getD_cons_succ, spL, Ev.sh, u1, u2, u3, u4, u5, u6]
  simp only [List.cons.injEq, Prod.mk.injEq, true_and, and_true]
  omega
theorem sort_off {y : Int} {i : Nat} (h : Yr.Is y i) : Ev.sort (upto y 8) = (spL i).map (Ev.sh (Cal.first y)) := by
  have hc := List.all_eq_true.1 sp_ok i (List.mem_range.2 h.2.2.1)
  simp only [Bool.and_eq_true, decide_eq_true_eq] at hc
  rw [upto_off h, Ev.sort_sh, hc.1]
theorem len (i : Nat) : (spL i).length = 8 := rfl
/-- The kind of the first event on day D. -/
def find (l : List (Int × Int)) (D : Int) : Option (Int × Int) := l.find? fun x => x.2 == D
def named (l : List (Int × Int)) (D : Int) : Int := ((find l D).map (·.1)).getD 0
theorem find_next (l : List (Int × Int)) (j : Nat) (x : Int × Int) (D : Int) (h : l[j]? = some x) : find (l.take (j + 1)) D = (find (l.take j) D).or (if x.2 == D then some x else none) := by
  unfold find
  rw [List.take_add_one, h, List.find?_append]
  simp [List.find?_cons]
  split <;> simp_all
theorem named_hit (l : List (Int × Int)) (j : Nat) (x : Int × Int) (D : Int) (h : l[j]? = some x) (h0 : find (l.take j) D = none) (hx : (x.2 == D) = true) : named l D = x.1 := by
  have h1 := find_next l j x D h
  rw [h0, hx] at h1
  have h2 : find l D = some x := by
    have e : l = l.take (j + 1) ++ l.drop (j + 1) := (List.take_append_drop _ _).symm
    unfold find at h1 ⊢
    rw [e, List.find?_append, h1]
    rfl
  unfold named
  rw [h2]
  rfl
end Sp
theorem special_Of_at (y : Int) (i : Nat) (w : World) (h : Yr.Is y i) (hT : Tab w 1 kevCells) (hL : Tab w 0 lenCells) :
    Calls Tryd.prog 7 #[.int .i64 y] w fun e w' => ∃ v, e = .returned (.tuple #[v, .int .i64 0]) ∧ Ev.Own w' w.heap.size v ((Sp.spL i).map (Ev.sh (Cal.first y))) ∧ Below w.heap.size w w' := by
  have hb := Yr.first_bd h
  have hc := List.all_eq_true.1 Sp.sp_ok i (List.mem_range.2 h.2.2.1)
  simp only [Bool.and_eq_true] at hc
  obtain ⟨_, c1, c2, c3, c4, c5, c6, c7⟩ := hc
  have bd : ∀ {n d : Int}, Yr.okV i n false d = true → Day12 (D10.dayV y n false d) := fun {n d} hv => by
    have e := (Yr.day_off h hv).1
    obtain ⟨v, _⟩ := D10.date_valid e
    have := D10.day_bd v
    unfold D10.dayV
    rw [if_pos e]
    exact ⟨by omega, by omega⟩
  have b1 : 0 ≤ Sp.offU i 7 1 ∧ Sp.offU i 7 1 ≤ 400 := by
    have := List.all_eq_true.1 c7 (33, Sp.offU i 7 1) (by simp [Sp.spL])
    simpa using this
  have b2 : 0 ≤ Sp.offU i 11 9 ∧ Sp.offU i 11 9 ≤ 400 := by
    have := List.all_eq_true.1 c7 (36, Sp.offU i 11 9) (by simp [Sp.spL])
    simpa using this
  rw [← Sp.sort_off h]
  refine special_Of_go y w h.1 h.2.1 hT hL (Lib.hid (fun w => special_rules y w ⟨by have := h.1; omega, by have := h.2.1; omega⟩ (bd c1) (bd c2) (bd c3) (bd c4) (bd c5) (bd c6) ?_ ?_))
  · rw [(Sp.up_off h c1).1]; omega
  · rw [(Sp.up_off h c2).1]; omega
set_option maxHeartbeats 2000000 in
theorem special_Of_below (y : Int) (w : World) (h : y < 1) : Calls Tryd.prog 7 #[.int .i64 y] w fun e w' => e = .returned (.tuple #[.slice none 0 0, .int .i64 2]) ∧ w = w' := by
  go_enter Tryd.func7, Tryd.ntmps7
  go_wp2_with fail
  go_ret2
  exact ⟨rfl, rfl⟩
set_option maxHeartbeats 2000000 in
theorem special_Of_above (y : Int) (w : World) (h0 : ¬ y < 1) (h : 9999 < y) : Calls Tryd.prog 7 #[.int .i64 y] w fun e w' => e = .returned (.tuple #[.slice none 0 0, .int .i64 2]) ∧ w = w' := by
  have h1 : decide (y < 1) = false := by simpa using h0
  go_enter Tryd.func7, Tryd.ntmps7
  go_wp2_with fail
  go_ret2
  exact ⟨rfl, rfl⟩
theorem special_Of_no (y : Int) (w : World) (h : y < 1 ∨ 9999 < y) : Calls Tryd.prog 7 #[.int .i64 y] w fun e w' => e = .returned (.tuple #[.slice none 0 0, .int .i64 2]) ∧ w = w' := by
  by_cases h0 : y < 1
  · exact special_Of_below y w h0
  · exact special_Of_above y w h0 (by omega)
set_option maxHeartbeats 4000000 in
theorem special_Named_go (D y n d : Int) (lf : Bool) (l : List (Int × Int)) (w : World) (hT : Tab w 1 kevCells) (hL : Tab w 0 lenCells) (hl : l.length = 8)
    (HF : Hid (∀ w : World, Tab w 1 kevCells → Tab w 0 lenCells → Calls Tryd.prog 28 #[.int .i64 D] w fun e w' => e = .returned (.tuple #[.agg #[.int .i64 y, .int .i64 n, .bool lf, .int .i64 d], .int .i64 0]) ∧ Below w.heap.size w w'))
    (HO : Hid (∀ w : World, Tab w 1 kevCells → Tab w 0 lenCells → Calls Tryd.prog 7 #[.int .i64 y] w fun e w' => ∃ v, e = .returned (.tuple #[v, .int .i64 0]) ∧ Ev.Own w' w.heap.size v l ∧ Below w.heap.size w w')) :
    Calls Tryd.prog 9 #[.int .i64 D] w fun e w' => e = .returned (.tuple #[.int .i64 (Sp.named l D), .int .i64 0]) ∧ Below w.heap.size w w' := by
  go_enter Tryd.func9, Tryd.ntmps9
  go_wp2_with fail
  refine (HF.out _ (Tab.below hT (by repeat (first | (with_reducible exact Below.refl _ _) | (with_reducible assumption) | (with_reducible refine bdrew ?_) | (with_reducible refine baa ?_ _) | (with_reducible refine bs ?_ (by first | exact Nat.le_refl _ | omega | (simp; done) | (simp; omega)) _) | (with_reducible refine bt ?_ (by with_reducible assumption))))) (Tab.below hL (by repeat (first | (with_reducible exact Below.refl _ _) | (with_reducible assumption) | (with_reducible refine bdrew ?_) | (with_reducible refine baa ?_ _) | (with_reducible refine bs ?_ (by first | exact Nat.le_refl _ | omega | (simp; done) | (simp; omega)) _) | (with_reducible refine bt ?_ (by with_reducible assumption)))))).mono ?_
  rintro e w1 ⟨rfl, hb1⟩
  obtain ⟨hc1, hf1⟩ := bcell hb1
  have hz1 := hb1.size
  try simp at hz1
  go_wp2_with fail
  refine (HO.out _ (Tab.below hT (by repeat (first | (with_reducible exact Below.refl _ _) | (with_reducible assumption) | (with_reducible refine bdrew ?_) | (with_reducible refine baa ?_ _) | (with_reducible refine bs ?_ (by first | exact Nat.le_refl _ | omega | (simp; done) | (simp; omega)) _) | (with_reducible refine bt ?_ (by with_reducible assumption))))) (Tab.below hL (by repeat (first | (with_reducible exact Below.refl _ _) | (with_reducible assumption) | (with_reducible refine bdrew ?_) | (with_reducible refine baa ?_ _) | (with_reducible refine bs ?_ (by first | exact Nat.le_refl _ | omega | (simp; done) | (simp; omega)) _) | (with_reducible refine bt ?_ (by with_reducible assumption)))))).mono ?_
  rintro e w2 ⟨v2, rfl, ho2, hb2⟩
  have hr := ho2.row
  obtain ⟨p2, c2, rfl⟩ := hr.len
  rw [hl]
  have hB2 : Below w.heap.size w w2 := by repeat (first | (with_reducible exact Below.refl _ _) | (with_reducible assumption) | (with_reducible refine bdrew ?_) | (with_reducible refine baa ?_ _) | (with_reducible refine bs ?_ (by first | exact Nat.le_refl _ | omega | (simp; done) | (simp; omega)) _) | (with_reducible refine bt ?_ (by with_reducible assumption)))
  clear ho2
  go_wp2_with fail
  go_loopw [28] (fun i wr => ∃ j : Nat, j ≤ 8 ∧ i = .int .i64 (j : Int) ∧ Hid (Sp.find (l.take j) D = none) ∧ Below w2.heap.size w2 wr) (fun i _ => 8 - (intOf i).toNat)
  case atStart => exact ⟨0, Nat.zero_le _, rfl, Lib.hid rfl, Below.refl _ _⟩
  case round =>
    obtain ⟨j, hj, rfl, HN, hB⟩ := hrel
    have hBw : Below w.heap.size w wr := bt hB2 hB
    by_cases hlt : j < 8
    · obtain ⟨x, hx⟩ : ∃ x, l[j]? = some x := ⟨_, List.getElem?_eq_getElem (by omega)⟩
      obtain ⟨kd, d'⟩ := x
      obtain ⟨b, off, cc, hp1, hc⟩ := (hr.below hB).at_some (by omega)
      simp only [Value.slice.injEq] at hp1
      obtain ⟨rfl, _, rfl⟩ := hp1
      obtain ⟨cx1, cx2⟩ := Ev.cells_at hc j (kd, d') hx
      have lx := World.block_lt_of_cell? _ _ cx1
      dsimp only at lx cx1 cx2
      have j0 : (0 : Int) ≤ (j : Int) := by omega
      have j1 : (j : Int) < 8 := by omega
      by_cases c : d' = D
      · have HH := Lib.hid (Sp.named_hit l j (kd, d') D hx HN.out (by simpa using c))
        subst c
        clear hc hx HF HO HN
        go_wp2_with fail
        go_ret2
        refine ⟨by first | (rw [HH.out]; rfl) | (simp [HH.out]; done), ?_⟩
        repeat (first | (with_reducible exact Below.refl _ _) | (with_reducible assumption) | (with_reducible refine bdrew ?_) | (with_reducible refine baa ?_ _) | (with_reducible refine bs ?_ (by first | exact Nat.le_refl _ | omega | (simp; done) | (simp; omega)) _) | (with_reducible refine bt ?_ (by with_reducible assumption)))
      · have c3 : (d' == D) = false := by simpa using c
        have HH : Hid (Sp.find (l.take (j + 1)) D = none) := Lib.hid (by rw [Sp.find_next l j (kd, d') D hx, HN.out, c3]; rfl)
        clear hc hx c
        go_wp2_with fail
        go_roundw
        case rel => exact ⟨j + 1, by omega, by go_num, HH, by repeat (first | (with_reducible exact Below.refl _ _) | (with_reducible assumption) | (with_reducible refine bdrew ?_) | (with_reducible refine baa ?_ _) | (with_reducible refine bs ?_ (by first | exact Nat.le_refl _ | omega | (simp; done) | (simp; omega)) _) | (with_reducible refine bt ?_ (by with_reducible assumption)))⟩
        case measure => simp [intOf]; omega
    · obtain rfl : j = 8 := by omega
      have HH : Hid (Sp.named l D = 0) := Lib.hid (by have h0 := HN.out; rw [List.take_of_length_le (by omega)] at h0; unfold Sp.named; rw [h0]; rfl)
      clear hlt
      go_wp2_with fail
      go_ret2
      refine ⟨by first | (rw [HH.out]; rfl) | (simp [HH.out]; done), hBw⟩
set_option maxHeartbeats 4000000 in
theorem special_Named_no (D : Int) (w : World) (h : D < -1373427 ∨ 2278650 < D) :
    Calls Tryd.prog 9 #[.int .i64 D] w fun e w' => e = .returned (.tuple #[.int .i64 0, .int .i64 2]) ∧ Below w.heap.size w w' := by
  have HF := Lib.hid (fun w => heb_FromDay_no D w h)
  clear h
  go_enter Tryd.func9, Tryd.ntmps9
  go_wp2_with fail
  refine (HF.out _).mono ?_
  rintro e w1 ⟨rfl, hb1⟩
  obtain ⟨hc1, hf1⟩ := bcell hb1
  have hz1 := hb1.size
  try simp at hz1
  go_wp2_with fail
  go_ret2
  exact ⟨rfl, by repeat (first | (with_reducible exact Below.refl _ _) | (with_reducible assumption) | (with_reducible refine bdrew ?_) | (with_reducible refine baa ?_ _) | (with_reducible refine bs ?_ (by first | exact Nat.le_refl _ | omega | (simp; done) | (simp; omega)) _) | (with_reducible refine bt ?_ (by with_reducible assumption)))⟩
theorem special_Named_at (y m d : Int) (i : Nat) (w : World) (h : Yr.Is y i) (hv : D10.Valid y m d) (hT : Tab w 1 kevCells) (hL : Tab w 0 lenCells) :
    Calls Tryd.prog 9 #[.int .i64 (D10.dayOf y m d)] w fun e w' => e = .returned (.tuple #[.int .i64 (Sp.named ((Sp.spL i).map (Ev.sh (Cal.first y))) (D10.dayOf y m d)), .int .i64 0]) ∧ Below w.heap.size w w' :=
  special_Named_go _ y _ d _ _ w hT hL (by rw [List.length_map]; rfl) (Lib.hid (fun w hT hL => heb_FromDay_at y m d w hT hL hv)) (Lib.hid (fun w hT hL => special_Of_at y i w h hT hL))
end Go.Proofs.YtbmcpeccofadhaaDoor
