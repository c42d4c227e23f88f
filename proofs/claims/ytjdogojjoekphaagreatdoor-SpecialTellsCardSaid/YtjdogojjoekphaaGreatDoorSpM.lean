/- Layer 22: the document's Sabbaths with names, counted from the year's first day; its name of a day. -/
import Derived.Test.YtjdogojjoekphaaGreatDoorSpN
import Derived.Test.YtjdogojjoekphaaGreatDoorSpR
import Derived.Test.YtjdogojjoekphaaGreatDoorHebR2
import Derived.LoopTactic
namespace Go.Proofs.YtjdogojjoekphaaGreatDoor
open Go.ChangeShapes Go.WideShapes Go.ChangeAt Go.RowKit Go.Lib Go.Sort Go.Shelf
set_option linter.unusedVariables false
set_option maxRecDepth 100000
theorem same_below {f : FuncId} {args : Array Value} {w : World} {v : Value} (c : Calls Tryz.prog f args w fun e w' => e = .returned v ∧ w = w') : Calls Tryz.prog f args w fun e w' => e = .returned v ∧ Below w.heap.size w w' :=
  c.mono fun _ _ h => ⟨h.1, h.2 ▸ Below.refl _ _⟩
theorem ref22_upto_at (y : Int) (i : Nat) (n d : Int) (h : Yr.Is y i) (hv : Yr.okV i n false d = true) (w : World) :
    Calls Tryz.prog 13 #[.int .i64 y, .int .i64 n, .int .i64 d] w fun e w' => e = .returned (.int .i64 (Sp.up y n d)) ∧ Below w.heap.size w w' := by
  have e := (Yr.day_off h hv).1
  obtain ⟨v, _⟩ := D10.date_valid e
  have hd := D10.day_bd v
  have hD : Day12 (D10.dayV y n false d) := by unfold D10.dayV; rw [if_pos e]; exact ⟨by omega, by omega⟩
  exact ref22_upto y n d _ _ w (Lib.hid (fun w => ref19_Day y n d w ⟨by have := h.1; omega, by have := h.2.1; omega⟩)) (Lib.hid (fun w => same_below (ref12_Upto_ok _ 6 _ w hD (by omega) (by omega) rfl)))
theorem ref22_Of_at (y : Int) (i : Nat) (w : World) (h : Yr.Is y i) :
    Calls Tryz.prog 5 #[.int .i64 y] w fun e w' => ∃ v, e = .returned (.tuple #[v, .int .i64 0]) ∧ Ev.Own w' w.heap.size v ((Sp.spL i).map (Ev.sh (Cal.first y))) ∧ Below w.heap.size w w' := by
  have hb := Yr.first_bd h
  have hc := List.all_eq_true.1 Sp.sp_ok i (List.mem_range.2 h.2.2.1)
  simp only [Bool.and_eq_true] at hc
  obtain ⟨_, c1, c2, c3, c4, c5, c6, c7⟩ := hc
  have e3 := (Yr.day_off h c3).1
  obtain ⟨v3, _⟩ := D10.date_valid e3
  have hd3 := D10.day_bd v3
  have hD : Day12 (D10.dayV y 1 false 3) := by unfold D10.dayV; rw [if_pos e3]; exact ⟨by omega, by omega⟩
  have b1 : 0 ≤ Sp.offU i 7 1 ∧ Sp.offU i 7 1 ≤ 400 := by
    have := List.all_eq_true.1 c7 (33, Sp.offU i 7 1) (by simp [Sp.spL])
    simpa using this
  have b2 : 0 ≤ Sp.offU i 11 9 ∧ Sp.offU i 11 9 ≤ 400 := by
    have := List.all_eq_true.1 c7 (36, Sp.offU i 11 9) (by simp [Sp.spL])
    simpa using this
  have e : Ev.sort [(35, Sp.fr y 1 3), (30, Sp.up y 6 1), (31, Sp.up y 6 13), (32, Sp.up y 7 1 - 7), (33, Sp.up y 7 1), (34, Sp.up y 7 14), (36, Sp.up y 11 9), (37, Sp.up y 11 9 + 7)] = (Sp.spL i).map (Ev.sh (Cal.first y)) := by
    rw [← Sp.sort_off h]
    rfl
  rw [← e]
  refine ref22_Of_go y (Sp.fr y 1 3) (Sp.up y 6 1) (Sp.up y 6 13) (Sp.up y 7 1) (Sp.up y 7 14) (Sp.up y 11 9) (D10.dayV y 1 false 3) w h.1 h.2.1 ?_ ?_ (Lib.hid (ref22_upto_at y i 7 1 h c1)) (Lib.hid (ref22_upto_at y i 11 9 h c2)) (Lib.hid (ref22_upto_at y i 6 1 h c4)) (Lib.hid (ref22_upto_at y i 6 13 h c5)) (Lib.hid (ref22_upto_at y i 7 14 h c6)) (Lib.hid (fun w => ref19_Day y 1 3 w ⟨by have := h.1; omega, by have := h.2.1; omega⟩)) (Lib.hid (fun w => same_below (ref12_From_ok _ 6 _ w hD (by omega) (by omega) rfl)))
  · rw [(Sp.up_off h c1).1]; omega
  · rw [(Sp.up_off h c2).1]; omega
set_option maxHeartbeats 2000000 in
theorem ref22_Of_no (y : Int) (w : World) (hy : I64 y) (h : y < 1 ∨ 9999 < y) : Calls Tryz.prog 5 #[.int .i64 y] w fun e w' => e = .returned (.tuple #[.slice none 0 0, .int .i64 2]) ∧ w = w' := by
  have HRi := Lib.hid (fun w => ref7_Right y w hy)
  rw [Cal.yearIn_no y h] at HRi
  clear h
  go_enter Tryz.func5, Tryz.ntmps5
  go_wp2_with fail
  refine (HRi.out _).mono ?_
  rintro e w' ⟨rfl, rfl⟩
  go_wp2_with fail
  go_ret2
  exact ⟨rfl, rfl⟩
set_option maxHeartbeats 4000000 in
theorem ref22_Named_go (D y n d : Int) (lf : Bool) (l : List (Int × Int)) (w : World) (hl : l.length = 8)
    (HF : Hid (∀ w : World, Calls Tryz.prog 18 #[.int .i64 D] w fun e w' => e = .returned (.tuple #[.agg #[.int .i64 y, .int .i64 n, .bool lf, .int .i64 d], .int .i64 0]) ∧ Below w.heap.size w w'))
    (HO : Hid (∀ w : World, Calls Tryz.prog 5 #[.int .i64 y] w fun e w' => ∃ v, e = .returned (.tuple #[v, .int .i64 0]) ∧ Ev.Own w' w.heap.size v l ∧ Below w.heap.size w w')) :
    Calls Tryz.prog 7 #[.int .i64 D] w fun e w' => e = .returned (.tuple #[.int .i64 (Sp.named l D), .int .i64 0]) ∧ Below w.heap.size w w' := by
  go_enter Tryz.func7, Tryz.ntmps7
  go_wp2_with fail
  refine (HF.out _).mono ?_
  rintro e w1 ⟨rfl, hb1⟩
  obtain ⟨hc1, hf1⟩ := bcell hb1
  have hz1 := hb1.size
  try simp at hz1
  go_wp2_with fail
  refine (HO.out _).mono ?_
  rintro e w2 ⟨v2, rfl, ho2, hb2⟩
  have hr := ho2.row
  obtain ⟨p2, c2, rfl⟩ := hr.len
  rw [hl]
  have hB2 : Below w.heap.size w w2 := by repeat (first | (with_reducible exact Below.refl _ _) | (with_reducible assumption) | (with_reducible refine bdrew ?_) | (with_reducible refine baa ?_ _) | (with_reducible refine bs ?_ (by first | exact Nat.le_refl _ | omega | (simp; done) | (simp; omega)) _) | (with_reducible refine bt ?_ (by with_reducible assumption)))
  clear ho2
  go_wp2_with fail
  go_loopw [8] (fun i wr => ∃ j : Nat, j ≤ 8 ∧ i = .int .i64 (j : Int) ∧ Hid (Sp.find (l.take j) D = none) ∧ Below w2.heap.size w2 wr) (fun i _ => 8 - (intOf i).toNat)
  case atStart => exact ⟨0, Nat.zero_le _, rfl, Lib.hid rfl, Below.refl _ _⟩
  case round =>
    obtain ⟨j, hj, rfl, HN, hB⟩ := hrel
    have hBw : Below w.heap.size w wr := bt hB2 hB
    by_cases hlt : j < 8
    · obtain ⟨x, hx⟩ : ∃ x, l[j]? = some x := ⟨_, List.getElem?_eq_getElem (by omega)⟩
      obtain ⟨kd, d'⟩ := x
      obtain ⟨b, off, cc, hp1, hc⟩ := (hr.below hB).at_some (by omega)
      simp only [Value.slice.injEq] at hp1
      obtain ⟨rfl, _, rfl⟩ := hp1
      obtain ⟨cx1, cx2⟩ := Ev.cells_at hc j (kd, d') hx
      have lx := World.block_lt_of_cell? _ _ cx1
      dsimp only at lx cx1 cx2
      have j0 : (0 : Int) ≤ (j : Int) := by omega
      have j1 : (j : Int) < 8 := by omega
      by_cases c : d' = D
      · have HH := Lib.hid (Sp.named_hit l j (kd, d') D hx HN.out (by simpa using c))
        subst c
        clear hc hx HF HO HN
        go_wp2_with fail
        go_ret2
        refine ⟨by first | (rw [HH.out]; rfl) | (simp [HH.out]; done), ?_⟩
        repeat (first | (with_reducible exact Below.refl _ _) | (with_reducible assumption) | (with_reducible refine bdrew ?_) | (with_reducible refine baa ?_ _) | (with_reducible refine bs ?_ (by first | exact Nat.le_refl _ | omega | (simp; done) | (simp; omega)) _) | (with_reducible refine bt ?_ (by with_reducible assumption)))
      · have c3 : (d' == D) = false := by simpa using c
        have HH : Hid (Sp.find (l.take (j + 1)) D = none) := Lib.hid (by rw [Sp.find_next l j (kd, d') D hx, HN.out, c3]; rfl)
        clear hc hx c
        go_wp2_with fail
        go_roundw
        case rel => exact ⟨j + 1, by omega, by go_num, HH, by repeat (first | (with_reducible exact Below.refl _ _) | (with_reducible assumption) | (with_reducible refine bdrew ?_) | (with_reducible refine baa ?_ _) | (with_reducible refine bs ?_ (by first | exact Nat.le_refl _ | omega | (simp; done) | (simp; omega)) _) | (with_reducible refine bt ?_ (by with_reducible assumption)))⟩
        case measure => simp [intOf]; omega
    · obtain rfl : j = 8 := by omega
      have HH : Hid (Sp.named l D = 0) := Lib.hid (by have h0 := HN.out; rw [List.take_of_length_le (by omega)] at h0; unfold Sp.named; rw [h0]; rfl)
      clear hlt
      go_wp2_with fail
      go_ret2
      refine ⟨by first | (rw [HH.out]; rfl) | (simp [HH.out]; done), hBw⟩
set_option maxHeartbeats 4000000 in
theorem ref22_Named_no (D : Int) (w : World) (h : D < -1373427 ∨ 2278650 < D) :
    Calls Tryz.prog 7 #[.int .i64 D] w fun e w' => e = .returned (.tuple #[.int .i64 0, .int .i64 2]) ∧ Below w.heap.size w w' := by
  have HF := Lib.hid (fun w => ref10_FromDay_no D w h)
  clear h
  go_enter Tryz.func7, Tryz.ntmps7
  go_wp2_with fail
  refine (HF.out _).mono ?_
  rintro e w1 ⟨rfl, hb1⟩
  obtain ⟨hc1, hf1⟩ := bcell hb1
  have hz1 := hb1.size
  try simp at hz1
  go_wp2_with fail
  go_ret2
  exact ⟨rfl, by repeat (first | (with_reducible exact Below.refl _ _) | (with_reducible assumption) | (with_reducible refine bdrew ?_) | (with_reducible refine baa ?_ _) | (with_reducible refine bs ?_ (by first | exact Nat.le_refl _ | omega | (simp; done) | (simp; omega)) _) | (with_reducible refine bt ?_ (by with_reducible assumption)))⟩
theorem ref22_Named_at (y m d : Int) (i : Nat) (w : World) (h : Yr.Is y i) (hv : D10.Valid y m d) :
    Calls Tryz.prog 7 #[.int .i64 (D10.dayOf y m d)] w fun e w' => e = .returned (.tuple #[.int .i64 (Sp.named ((Sp.spL i).map (Ev.sh (Cal.first y))) (D10.dayOf y m d)), .int .i64 0]) ∧ Below w.heap.size w w' :=
  ref22_Named_go _ y _ d _ _ w (by rw [List.length_map]; rfl) (Lib.hid (fun w => ref10_FromDay_at y m d w hv)) (Lib.hid (fun w => ref22_Of_at y i w h))
end Go.Proofs.YtjdogojjoekphaaGreatDoor
