import Derived.Test.YtgojeobnoebnlaaGreatDoorQWt
set_option maxHeartbeats 8000000
set_option maxRecDepth 100000
set_option linter.unusedSimpArgs false
set_option linter.unusedVariables false
namespace Go.Proofs.YtgojeobnoebnlaaGreatDoor
open Go.ChangeShapes Go.WideShapes Go.ChangeAt Go.RowKit Go.Lib Go.Sort Go.Shelf
theorem WholeTorah_walk (y u : Int) (hy : 0 ≤ y ∧ y ≤ 65535) (hu : 0 ≤ u ∧ u ≤ 255) (w : World) (hT : Tab w 6 kevCells) (hL : Tab w 3 lenCells) (hG : Tab w 5 Gr.gregCells) (hF : Tab w 0 Fe.cells) (hA : Tab w 1 Fa.cells) (hQ : Tab w 2 Rd.prCells) (hP : Tab w 4 powCells) :
  Calls Tryo.prog 4 #[.int .u16 y, .int .u8 u] w fun e w' => e = .returned (.bool true) ∧ Below w.heap.size w w' := by
 have k1 := Int.emod_nonneg y (show (9998 : Int) ≠ 0 by decide)
 have k2 := Int.emod_lt_of_pos y (show (0 : Int) < 9998 by decide)
 obtain ⟨p, hpe⟩ : ∃ p : Bool, u % 2 = if p then 1 else 0 := by
  rcases (show u % 2 = 0 ∨ u % 2 = 1 by omega) with h | h
  ·exact ⟨false, h⟩
  ·exact ⟨true, h⟩
 obtain ⟨i, h⟩ := Yr.is_some (1 + y % 9998) (by omega) (by omega)
 obtain ⟨i2, h2⟩ := Yr.is_some (1 + y % 9998 + 1) (by omega) (by omega)
 have hi := h.2.2.1
 have hpm : p ∈ [false, true] := by cases p <;> simp
 have ht := List.all_eq_true.1 (List.all_eq_true.1 Dy.tor_all i (List.mem_range.2 hi)) p hpm
 simp only [Bool.and_eq_true] at ht
 obtain ⟨ht, o1, o2⟩ := ht
 have d1 := (Yr.day_off h o1).2
 have d2 := (Yr.day_off h o2).2
 have hn := Yr.next_first h
 have hlc := Rd.len_at hi p
 refine WholeTorah_go y u (if p then 1 else 0) (D10.dayV (1 + y % 9998) 9 false 6) (D10.dayV (1 + y % 9998) 11 false 9) (Cal.first (1 + y % 9998 + 1)) _ ((Rd.cyc0 i p).map (Rd.sh (Cal.first (1 + y % 9998) - kevB i))) w hy hu hpe rfl (by rw [List.length_map]; exact hlc) hT hL hF hA hG hP hQ ?_ (Lib.hid fun w hT hL hF => rd_Cycle _ i i2 p w h h2 hT hL hF) (Lib.hid fun w => ref19_Day _ 9 6 w ⟨by omega, by omega⟩) (Lib.hid fun w => ref19_Day _ 11 9 w ⟨by omega, by omega⟩) (Lib.hid fun w => newyear_First_ok _ w (by omega) (by omega)) (Lib.hid fun j r1 r2 D hj => tor_says _ i i2 p h h2 j r1 r2 D hj)
 rw [d1, d2, hn]
 have e := Dy.tor_sh (kevB i + Yr.offV i 9 false 6) (kevB i + Yr.offV i 11 false 9) (kevB i + Yr.lenV i) (Cal.first (1 + y % 9998) - kevB i) (Rd.cyc0 i p) 1 0 0 0
 rw [show Cal.first (1 + y % 9998) - kevB i + (kevB i + Yr.offV i 9 false 6) = Cal.first (1 + y % 9998) + Yr.offV i 9 false 6 by omega, show Cal.first (1 + y % 9998) - kevB i + (kevB i + Yr.offV i 11 false 9) = Cal.first (1 + y % 9998) + Yr.offV i 11 false 9 by omega, show Cal.first (1 + y % 9998) - kevB i + (kevB i + Yr.lenV i) = Cal.first (1 + y % 9998) + Yr.lenV i by omega] at e
 exact Lib.hid (e.trans ht)
end Go.Proofs.YtgojeobnoebnlaaGreatDoor
