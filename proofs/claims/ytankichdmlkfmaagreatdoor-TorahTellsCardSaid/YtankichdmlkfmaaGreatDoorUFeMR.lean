/- Layer 19: the document's feasts are the same. -/
import Derived.Test.YtankichdmlkfmaaGreatDoorUYM
import Derived.Test.YtankichdmlkfmaaGreatDoorUFeO0
import Derived.Test.YtankichdmlkfmaaGreatDoorUFeO1
set_option linter.unusedVariables false
namespace Go.Proofs.YtankichdmlkfmaaGreatDoor
open Go.ChangeShapes Go.WideShapes Go.ChangeAt Go.RowKit Go.Lib Go.Sort Go.Shelf
set_option maxRecDepth 100000
namespace Fe
def refKeys (lp p : Bool) : List Key := match lp, p with
 | false, false => (((((((((((((((((([] : List Fe.Key) ++ Fe.dk 1 1 [1, 2]) ++ Fe.dk 3 1 [10]) ++ Fe.dk 5 1 [17, 18, 19, 20]) ++ Fe.dk 6 1 [21]) ++ Fe.dk 7 1 [22]) ++ (List.range 8).map (fun i : Nat => ((9, 3, false, 25, (i : Int)) : Fe.Key))) ++ Fe.dk 11 5 [15]) ++ Fe.dk 14 6 [14]) ++ Fe.dk 15 6 [15]) ++ Fe.dk 18 7 [17, 18, 19, 20]) ++ Fe.dk 22 8 [14]) ++ Fe.dk 23 8 [18]) ++ Fe.dk 28 11 [15]) ++ Fe.dk 4 1 [15, 16]) ++ Fe.dk 8 1 [23]) ++ Fe.dk 17 7 [15, 16, 21, 22]) ++ Fe.dk 25 9 [6, 7])
 | true, false => ((((((((((((((((((([] : List Fe.Key) ++ Fe.dk 1 1 [1, 2]) ++ Fe.dk 3 1 [10]) ++ Fe.dk 5 1 [17, 18, 19, 20]) ++ Fe.dk 6 1 [21]) ++ Fe.dk 7 1 [22]) ++ (List.range 8).map (fun i : Nat => ((9, 3, false, 25, (i : Int)) : Fe.Key))) ++ Fe.dk 11 5 [15]) ++ [((12, 5, false, 30, 14) : Fe.Key)]) ++ Fe.dk 14 6 [14]) ++ Fe.dk 15 6 [15]) ++ Fe.dk 18 7 [17, 18, 19, 20]) ++ Fe.dk 22 8 [14]) ++ Fe.dk 23 8 [18]) ++ Fe.dk 28 11 [15]) ++ Fe.dk 4 1 [15, 16]) ++ Fe.dk 8 1 [23]) ++ Fe.dk 17 7 [15, 16, 21, 22]) ++ Fe.dk 25 9 [6, 7])
 | false, true => (((((((((((((((((((([] : List Fe.Key) ++ Fe.dk 1 1 [1, 2]) ++ Fe.dk 3 1 [10]) ++ Fe.dk 5 1 [17, 18, 19, 20]) ++ Fe.dk 6 1 [21]) ++ Fe.dk 7 1 [22]) ++ (List.range 8).map (fun i : Nat => ((9, 3, false, 25, (i : Int)) : Fe.Key))) ++ Fe.dk 11 5 [15]) ++ Fe.dk 14 6 [14]) ++ Fe.dk 15 6 [15]) ++ Fe.dk 18 7 [17, 18, 19, 20]) ++ Fe.dk 22 8 [14]) ++ Fe.dk 23 8 [18]) ++ Fe.dk 28 11 [15]) ++ Fe.dk 4 1 [15]) ++ Fe.dk 5 1 [16]) ++ Fe.dk 8 1 [22]) ++ Fe.dk 17 7 [15, 21]) ++ Fe.dk 18 7 [16]) ++ Fe.dk 25 9 [6])
 | true, true => ((((((((((((((((((((([] : List Fe.Key) ++ Fe.dk 1 1 [1, 2]) ++ Fe.dk 3 1 [10]) ++ Fe.dk 5 1 [17, 18, 19, 20]) ++ Fe.dk 6 1 [21]) ++ Fe.dk 7 1 [22]) ++ (List.range 8).map (fun i : Nat => ((9, 3, false, 25, (i : Int)) : Fe.Key))) ++ Fe.dk 11 5 [15]) ++ [((12, 5, false, 30, 14) : Fe.Key)]) ++ Fe.dk 14 6 [14]) ++ Fe.dk 15 6 [15]) ++ Fe.dk 18 7 [17, 18, 19, 20]) ++ Fe.dk 22 8 [14]) ++ Fe.dk 23 8 [18]) ++ Fe.dk 28 11 [15]) ++ Fe.dk 4 1 [15]) ++ Fe.dk 5 1 [16]) ++ Fe.dk 8 1 [22]) ++ Fe.dk 17 7 [15, 21]) ++ Fe.dk 18 7 [16]) ++ Fe.dk 25 9 [6])
theorem ref_ok : ((List.range 14).all fun i => [false, true].all fun p => keysOk i (refKeys (kevL i) p) && (decide (Ev.sort ((refKeys (kevL i) p).map (evk (Yr.offV i))) = feastL i p) && (Yr.okV i 3 false 25 && (Yr.okV i 5 false 30 && (decide (0 ≤ Yr.offV i 3 false 25) && (decide (Yr.offV i 3 false 25 ≤ 400) && (decide (0 ≤ Yr.offV i 5 false 30) && decide (Yr.offV i 5 false 30 ≤ 400)))))))) = true := by decide +kernel
end Fe
theorem ref19_Of_at (y : Int) (i : Nat) (p : Bool) (w : World) (h : Yr.Is y i) :
  Calls Tryo.prog 86 #[.int .i64 y, .int .i64 (if p then 1 else 0)] w fun e w' => ∃ v, e = .returned (.tuple #[v, .int .i64 0]) ∧ Ev.Own w' w.heap.size v ((Fe.feastL i p).map (Ev.sh (Cal.first y))) ∧ Below w.heap.size w w' := by
 have hy1 := h.1
 have hy2 := h.2.1
 have hb := Yr.first_bd h
 have hc := List.all_eq_true.1 (List.all_eq_true.1 Fe.ref_ok i (List.mem_range.2 h.2.2.1)) p (by cases p <;> simp)
 simp only [Bool.and_eq_true, decide_eq_true_eq] at hc
 obtain ⟨c1, c2, c3, c4, c5, c6, c7, c8⟩ := hc
 have e3 := (Yr.day_off h c3).2
 have e5 := (Yr.day_off h c4).2
 have H3 : Hid (-2000000 ≤ D10.dayV y 3 false 25 ∧ D10.dayV y 3 false 25 ≤ 3000000) := Lib.hid (by rw [e3]; omega)
 have H5 : Hid (-2000000 ≤ D10.dayV y 5 false 30 ∧ D10.dayV y 5 false 30 ≤ 3000000) := Lib.hid (by rw [e5]; omega)
 have HI := Lib.hid (fun w => ref3_Is y w (by omega) (by omega))
 have e : Ev.sort ((Fe.refKeys (kevL i) p).map (Fe.evk (D10.dayV y))) = (Fe.feastL i p).map (Ev.sh (Cal.first y)) := by
  rw [Fe.sort_off h c1, c2]
 rw [← e]
 rw [h.2.2.2.2.2] at HI
 generalize kevL i = lp at *
 cases p <;> cases lp
 ·exact ref19_Of_0f y w hy1 hy2 HI H3 H5
 ·exact ref19_Of_0t y w hy1 hy2 HI H3 H5
 ·exact ref19_Of_1f y w hy1 hy2 HI H3 H5
 ·exact ref19_Of_1t y w hy1 hy2 HI H3 H5
end Go.Proofs.YtankichdmlkfmaaGreatDoor
