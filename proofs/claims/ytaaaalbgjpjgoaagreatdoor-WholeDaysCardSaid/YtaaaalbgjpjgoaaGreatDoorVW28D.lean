/- Through the layers: WholeDays. -/
import Derived.Test.YtaaaalbgjpjgoaaGreatDoorVW28
import Derived.Test.YtaaaalbgjpjgoaaGreatDoorVW28b
import Derived.Test.YtaaaalbgjpjgoaaGreatDoorVCT
import Derived.Test.YtaaaalbgjpjgoaaGreatDoorVG2
set_option linter.unusedVariables false
set_option linter.unusedSimpArgs false
set_option maxRecDepth 100000
namespace Go.Proofs.YtaaaalbgjpjgoaaGreatDoor
open Go.ChangeShapes Go.WideShapes Go.ChangeAt Go.RowKit Go.Lib Go.Sort Go.Shelf
theorem heb_FromDay_d (y n : Int) (l : Bool) (d : Int) (w : World) (hT : Tab w 2 kevCells) (hL : Tab w 3 lenCells) (h : D10.dateE y n l d = 0) :
    Calls Tryo.prog 38 #[.int .i64 (D10.dayV y n l d)] w fun e w' => e = .returned (.tuple #[.agg #[.int .i64 (y), .int .i64 (n), .bool (l), .int .i64 (d)], .int .i64 0]) ∧ Below w.heap.size w w' := by
  obtain ⟨hv, e, e1, e2⟩ := D10.date_back h
  have := heb_FromDay_at y (Cal.plV (Cal.leap y) n l) d w hT hL hv
  rwa [← e, e1, e2] at this
theorem WholeDays_walk (n : Int) (hn : I64 n) (w : World) (hT : Tab w 2 kevCells) (hL : Tab w 3 lenCells) (hG : Tab w 4 Gr.gregCells) (hF : Tab w 8 Fe.cells) (hP : Tab w 5 powCells) :
    Calls Tryo.prog 7 #[.int .i64 n] w fun e w' => e = .returned (.bool true) ∧ Below w.heap.size w w' := by
  have HW := (Lib.hid fun W hW => awake28 W (Tab.below hT hW) (Tab.below hL hW) (Tab.below hG hW) (Tab.below hF hW) (Tab.below hP hW))
  by_cases c : n < -1373427 ∨ 2278650 < n
  · exact WholeDays_out n w (Lib.hid fun W hW => heb_FromDay_no n W c) (Lib.hid fun W hW => greg_FromDay_no n W c) HW
  · have c1 : -1373427 ≤ n := by omega
    have c2 : n ≤ 2278650 := by omega
    obtain ⟨y, m, l, d, h0, hd⟩ := D27.date_of_day c1 c2
    have hy : I64 y := by obtain ⟨⟨y1, y2, _⟩, _⟩ := D10.date_valid h0; exact ⟨by omega, by omega⟩
    obtain ⟨cy, cm, cd, hv, e⟩ := Gr.day_there n
    obtain ⟨xy, xm, xl, xd, er, hx⟩ := D27.next_some y m l d
    have hv2 := Gr.gt_valid hv (by omega) (by omega)
    have HA := Lib.hid (fun W (hW : Below w.heap.size w W) => heb_FromDay_d y m l d W (Tab.below hT hW) (Tab.below hL hW) h0)
    have HB := Lib.hid (fun W (hW : Below w.heap.size w W) => greg_FromDay_v cy cm cd W (Tab.below hG hW) hv (by omega) (by omega))
    have HC := Lib.hid (fun W (hW : Below w.heap.size w W) => heb_ToDay y m l d W hy (Tab.below hT hW) (Tab.below hL hW))
    have HD := Lib.hid (fun W (hW : Below w.heap.size w W) => greg_ToDay cy cm cd W (Tab.below hG hW))
    have HF := Lib.hid (fun W (hW : Below w.heap.size w W) => count_Next y m l d W hy (Tab.below hT hW) (Tab.below hL hW) xy xm xl xd er hx)
    have HG := Lib.hid (fun W (hW : Below w.heap.size w W) => heb_Check y m l d W hy (Tab.below hT hW) (Tab.below hL hW))
    rw [hd] at HA HC
    rw [← e] at HB
    rw [hv2.1, hv2.2, ← e] at HD
    rw [h0] at HC HG
    refine WholeDays_at n y m l d cy cm cd xy xm xl xd er ⟨c1, c2⟩ w HA HB HC HD ?_ HF HG HW
    rcases hx with ⟨a, _⟩ | ⟨_, a, rfl, rfl, rfl, rfl, rfl⟩ | ⟨_, rfl, a, b⟩
    · exact absurd h0 a
    · exact Lib.hid fun W hW => heb_FromDay_no (n + 1) W (by omega)
    · refine Lib.hid fun W hW => ?_
      have := heb_FromDay_d xy xm xl xd W (Tab.below hT hW) (Tab.below hL hW) a
      rwa [b, hd] at this
end Go.Proofs.YtaaaalbgjpjgoaaGreatDoor
