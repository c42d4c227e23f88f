/- Layer 21: the new moons' days counted from the year's first one; the count of the omer. -/
import Derived.Test.YtagmdglmflcegaaGreatDoorCh
import Derived.Test.YtagmdglmflcegaaGreatDoorChR
import Derived.Test.YtagmdglmflcegaaGreatDoorW10
namespace Go.Proofs.YtagmdglmflcegaaGreatDoor
open Go.ChangeShapes Go.WideShapes Go.ChangeAt Go.RowKit Go.Lib Go.Sort Go.Shelf
set_option linter.unusedVariables false
set_option maxRecDepth 100000
theorem chodesh_Of_at (y : Int) (i : Nat) (w : World) (h : Yr.Is y i) (hT : Tab w 2 kevCells) (hL : Tab w 3 lenCells) :
    Calls Tryz.prog 15 #[.int .i64 y] w fun e w' => ∃ v, e = .returned (.tuple #[v, .int .i64 0]) ∧ Ev.Own w' w.heap.size v ((Ch.chL i).map (Ev.sh (Cal.first y))) ∧ Below w.heap.size w w' := by
  obtain ⟨o1, o2, o3, o4, o5⟩ := Ch.ok i h.2.2.1
  have hf := Yr.first_bd h
  have hy1 := h.1
  have hy2 := h.2.1
  have HK := Lib.hid (fun w => keviah_Of_ok y w h.1 h.2.1)
  have HF := Lib.hid (fun w => newyear_First_ok y w (by omega) (by omega))
  have HCo := Lib.hid (fun w hT (hL : Tab w 3 lenCells) => month_Count (kevB i) (kevK i) (kevL i) w hT)
  rw [h.2.2.2.1, h.2.2.2.2.1, h.2.2.2.2.2] at HK
  rw [o1] at HCo
  have e : Ev.sort (Ch.upto (kevB i) (kevK i) (kevL i) (Cal.first y) (Ch.cntN i)) = (Ch.chL i).map (Ev.sh (Cal.first y)) := by
    rw [Ch.upto_sh]
    rw [Ev.sort_sh, show Ch.upto (kevB i) (kevK i) (kevL i) 0 (Ch.cntN i) = Ch.chL i from rfl, o3]
  rw [← e]
  exact chodesh_Of y _ _ _ _ _ w (by omega) (by omega) hT hL o2 (Lib.hid o5) HK HF HCo (Lib.hid (fun m w hT hL => month_Ahead _ _ _ m w hT hL)) (Lib.hid (fun m w hT hL => month_Days _ _ _ m w hT hL))
theorem ref21_Of_at (y : Int) (i : Nat) (w : World) (h : Yr.Is y i) :
    Calls Tryz.prog 16 #[.int .i64 y] w fun e w' => ∃ v, e = .returned (.tuple #[v, .int .i64 0]) ∧ Ev.Own w' w.heap.size v ((Ch.chL i).map (Ev.sh (Cal.first y))) ∧ Below w.heap.size w w' := by
  obtain ⟨o1, o2, o3, o4, o5⟩ := Ch.ok i h.2.2.1
  have hf := Yr.first_bd h
  have hy1 := h.1
  have hy2 := h.2.1
  have HK := Lib.hid (fun w => ref7_Of_ok y w h.1 h.2.1)
  have HF := Lib.hid (fun w => ref5_First_ok y w (by omega) (by omega))
  have HCo := Lib.hid (fun w => ref8_Count (kevB i) (kevK i) (kevL i) w)
  rw [h.2.2.2.1, h.2.2.2.2.1, h.2.2.2.2.2] at HK
  rw [o1] at HCo
  have e : Ch.upto (kevB i) (kevK i) (kevL i) (Cal.first y) (Ch.cntN i) = (Ch.chL i).map (Ev.sh (Cal.first y)) := by
    rw [Ch.upto_sh]
    rfl
  rw [← e]
  exact ref21_Of y _ _ _ _ _ w (by omega) (by omega) o2 (Lib.hid o5) HK HF HCo (Lib.hid (fun m w => ref8_Ahead _ _ _ m w)) (Lib.hid (fun m w => ref8_Days _ _ _ m w))
set_option maxHeartbeats 2000000 in
theorem chodesh_Of_no (y : Int) (w : World) (hy : I64 y) (h : y < 1 ∨ 9999 < y) : Calls Tryz.prog 15 #[.int .i64 y] w fun e w' => e = .returned (.tuple #[.slice none 0 0, .int .i64 2]) ∧ Below w.heap.size w w' := by
  have HK := Lib.hid (fun w => keviah_Of_no y w hy h)
  clear h
  go_enter Tryz.func15, Tryz.ntmps15
  go_wp2_with fail
  refine (HK.out _).mono ?_
  rintro e w1 ⟨rfl, hb1⟩
  obtain ⟨hc1, hf1⟩ := bcell hb1
  have hz1 := hb1.size
  try simp at hz1
  go_wp2_with fail
  go_ret2
  exact ⟨rfl, by repeat (first | (with_reducible exact Below.refl _ _) | (with_reducible assumption) | (with_reducible refine bdrew ?_) | (with_reducible refine baa ?_ _) | (with_reducible refine bs ?_ (by first | exact Nat.le_refl _ | omega | (simp; done) | (simp; omega)) _) | (with_reducible refine bt ?_ (by with_reducible assumption)))⟩
set_option maxHeartbeats 2000000 in
theorem ref21_Of_no (y : Int) (w : World) (hy : I64 y) (h : y < 1 ∨ 9999 < y) : Calls Tryz.prog 16 #[.int .i64 y] w fun e w' => e = .returned (.tuple #[.slice none 0 0, .int .i64 2]) ∧ Below w.heap.size w w' := by
  have HK := Lib.hid (fun w => ref7_Of_no y w hy h)
  clear h
  go_enter Tryz.func16, Tryz.ntmps16
  go_wp2_with fail
  refine (HK.out _).mono ?_
  rintro e w1 ⟨rfl, hb1⟩
  obtain ⟨hc1, hf1⟩ := bcell hb1
  have hz1 := hb1.size
  try simp at hz1
  go_wp2_with fail
  go_ret2
  exact ⟨rfl, by repeat (first | (with_reducible exact Below.refl _ _) | (with_reducible assumption) | (with_reducible refine bdrew ?_) | (with_reducible refine baa ?_ _) | (with_reducible refine bs ?_ (by first | exact Nat.le_refl _ | omega | (simp; done) | (simp; omega)) _) | (with_reducible refine bt ?_ (by with_reducible assumption)))⟩
end Go.Proofs.YtagmdglmflcegaaGreatDoor
