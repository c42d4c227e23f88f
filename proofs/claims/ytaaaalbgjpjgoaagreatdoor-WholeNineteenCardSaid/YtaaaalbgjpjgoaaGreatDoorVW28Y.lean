/- Through the layers: WholeYears, WholeNineteen. -/
import Derived.Test.YtaaaalbgjpjgoaaGreatDoorVW28
import Derived.Test.YtaaaalbgjpjgoaaGreatDoorVW28f
import Derived.Test.YtaaaalbgjpjgoaaGreatDoorVW28g
import Derived.Test.YtaaaalbgjpjgoaaGreatDoorVW28n
import Derived.Test.YtaaaalbgjpjgoaaGreatDoorVKE
set_option linter.unusedVariables false
set_option linter.unusedSimpArgs false
set_option maxRecDepth 100000
namespace Go.Proofs.YtaaaalbgjpjgoaaGreatDoor
open Go.ChangeShapes Go.WideShapes Go.ChangeAt Go.RowKit Go.Lib Go.Sort Go.Shelf
theorem number_pos (n : Nat) (hn : n < 14) : number (kevB n) (kevK n) (kevL n) = (n : Int) + 1 := by
  match n, hn with
  | 0, _ | 1, _ | 2, _ | 3, _ | 4, _ | 5, _ | 6, _ | 7, _ | 8, _ | 9, _ | 10, _ | 11, _ | 12, _ | 13, _ => decide
theorem row_beg (n : Nat) (hn : n < 14) : kevB n ≠ 0 ∧ kevB n ≠ 3 ∧ kevB n ≠ 5 := by
  match n, hn with
  | 0, _ | 1, _ | 2, _ | 3, _ | 4, _ | 5, _ | 6, _ | 7, _ | 8, _ | 9, _ | 10, _ | 11, _ | 12, _ | 13, _ => decide
theorem days_row (n : Nat) (hn : n < 14) : daysV (kevB n) (kevK n) (kevL n) 2 = (if kevK n = 2 then 30 else 29) ∧ daysV (kevB n) (kevK n) (kevL n) 3 = (if kevK n = 0 then 29 else 30) ∧ (kevK n = 0 ∨ kevK n = 1 ∨ kevK n = 2) := by
  match n, hn with
  | 0, _ | 1, _ | 2, _ | 3, _ | 4, _ | 5, _ | 6, _ | 7, _ | 8, _ | 9, _ | 10, _ | 11, _ | 12, _ | 13, _ => decide
theorem WholeYears_walk (y : Int) (hy : 0 ≤ y ∧ y ≤ 65535) (w : World) (hT : Tab w 2 kevCells) (hL : Tab w 3 lenCells) (hG : Tab w 4 Gr.gregCells) (hF : Tab w 8 Fe.cells) (hP : Tab w 5 powCells) :
    Calls Tryo.prog 5 #[.int .u16 y] w fun e w' => e = .returned (.bool true) ∧ Below w.heap.size w w' := by
  have k1 := Int.emod_nonneg y (show (9999 : Int) ≠ 0 by decide)
  have k2 := Int.emod_lt_of_pos y (show (0 : Int) < 9999 by decide)
  generalize hK : 1 + y % 9999 = K at *
  have K1 : 1 ≤ K := by omega
  have K2 : K ≤ 9999 := by omega
  obtain ⟨i, hi, eb, ek, el⟩ := year_row K K1 K2
  obtain ⟨d2, d3, hk⟩ := days_row i hi
  have hn := number_pos i hi
  have hbg := row_beg i hi
  rw [← eb] at hbg
  have hbd := first_bd K (by omega) (by omega)
  have hm0 := delay_bd (Cal.moonDay (Cal.before K)) (Cal.moonPart (Cal.before K)) (Cal.leap K) (Cal.leap (K - 1))
  have hf : Cal.first K = Cal.moonDay (Cal.before K) + Cal.delay (Cal.moonDay (Cal.before K)) (Cal.moonPart (Cal.before K)) (Cal.leap K) (Cal.leap (K - 1)) := rfl
  have hlong : Cal.long K = (if Cal.leap K then 383 else 353) + Cal.kind K := by unfold Cal.kind; omega
  have g1 : (Cal.first K % 7 != 0) = true := by rw [bne_iff_ne]; exact hbg.1
  have g2 : (Cal.first K % 7 != 3) = true := by rw [bne_iff_ne]; exact hbg.2.1
  have g3 : (Cal.first K % 7 != 5) = true := by rw [bne_iff_ne]; exact hbg.2.2
  have hm : Cal.moonDay (Cal.before K) ≤ Cal.first K ∧ Cal.first K - Cal.moonDay (Cal.before K) ≤ 2 := by omega
  rw [← eb, ← ek, ← el] at d2 d3 hn
  rw [← ek] at hk
  have HA := Lib.hid (fun W (hW : Below w.heap.size w W) => newyear_First_ok K W (by omega) (by omega))
  have HC := Lib.hid (fun W (hW : Below w.heap.size w W) => (closed_First_ok K W (by omega) (by omega)).mono fun e w' h => (⟨h.1, h.2 ▸ Below.refl _ _⟩ : _ ∧ Below W.heap.size W w'))
  have HN := Lib.hid (fun W (hW : Below w.heap.size w W) => kev_Long_ok K W K1 K2)
  have HO := Lib.hid (fun W (hW : Below w.heap.size w W) => keviah_Of_ok K W K1 K2)
  have HL := Lib.hid (fun W (hW : Below w.heap.size w W) => (cycle_Leap_ok K W (by omega) (by omega)).mono fun e w' h => (⟨h.1, h.2 ▸ Below.refl _ _⟩ : _ ∧ Below W.heap.size W w'))
  have HM := Lib.hid (fun W (hW : Below w.heap.size w W) => molad_Of_one K W (by omega) (by omega))
  have HD := Lib.hid (fun W (hW : Below w.heap.size w W) => (molad_Weekday (Cal.first K) W ⟨by omega, by omega⟩).mono fun e w' h => (⟨h.1, h.2 ▸ Below.refl _ _⟩ : _ ∧ Below W.heap.size W w'))
  have HU := Lib.hid (fun W (hW : Below w.heap.size w W) => keviah_Number_any (Cal.first K % 7) (Cal.kind K) (Cal.leap K) W (Tab.below hT hW))
  have H2 := Lib.hid (fun W (hW : Below w.heap.size w W) => month_Days (Cal.first K % 7) (Cal.kind K) (Cal.leap K) 2 W (Tab.below hT hW) (Tab.below hL hW))
  have H3 := Lib.hid (fun W (hW : Below w.heap.size w W) => month_Days (Cal.first K % 7) (Cal.kind K) (Cal.leap K) 3 W (Tab.below hT hW) (Tab.below hL hW))
  rw [hn] at HU
  rw [d2] at H2
  rw [d3] at H3
  rw [hlong] at HN
  have HW := (Lib.hid fun W hW => awake28 W (Tab.below hT hW) (Tab.below hL hW) (Tab.below hG hW) (Tab.below hF hW) (Tab.below hP hW))
  clear hf hm0 hbg hn d2 d3 eb ek el hlong
  generalize Cal.first K % 7 = b at *
  generalize Cal.kind K = kd at *
  generalize Cal.first K = a at *
  generalize Cal.moonDay (Cal.before K) = md at *
  generalize Cal.moonPart (Cal.before K) = mp at *
  generalize Cal.leap K = lp at *
  cases lp
  · rcases hk with rfl | rfl | rfl
    · subst hK; exact WholeYears_0f y a b md mp _ hy hbd g1 g2 g3 hm (by omega) w HA HC HN HO HL HM HD HU H2 H3 HW
    · subst hK; exact WholeYears_1f y a b md mp _ hy hbd g1 g2 g3 hm (by omega) w HA HC HN HO HL HM HD HU H2 H3 HW
    · subst hK; exact WholeYears_2f y a b md mp _ hy hbd g1 g2 g3 hm (by omega) w HA HC HN HO HL HM HD HU H2 H3 HW
  · rcases hk with rfl | rfl | rfl
    · subst hK; exact WholeYears_0t y a b md mp _ hy hbd g1 g2 g3 hm (by omega) w HA HC HN HO HL HM HD HU H2 H3 HW
    · subst hK; exact WholeYears_1t y a b md mp _ hy hbd g1 g2 g3 hm (by omega) w HA HC HN HO HL HM HD HU H2 H3 HW
    · subst hK; exact WholeYears_2t y a b md mp _ hy hbd g1 g2 g3 hm (by omega) w HA HC HN HO HL HM HD HU H2 H3 HW
theorem WholeNineteen_walk (y : Int) (hy : 0 ≤ y ∧ y ≤ 65535) (w : World) (hT : Tab w 2 kevCells) (hL : Tab w 3 lenCells) (hG : Tab w 4 Gr.gregCells) (hF : Tab w 8 Fe.cells) (hP : Tab w 5 powCells) :
    Calls Tryo.prog 13 #[.int .u16 y] w fun e w' => e = .returned (.bool true) ∧ Below w.heap.size w w' := by
  have k1 := Int.emod_nonneg y (show (9980 : Int) ≠ 0 by decide)
  have k2 := Int.emod_lt_of_pos y (show (0 : Int) < 9980 by decide)
  have hb0 := before_bd (1 + y % 9980) (by omega) (by omega)
  have hb1 : Cal.before (1 + y % 9980 + 19) = Cal.before (1 + y % 9980) + 235 := by unfold Cal.before; omega
  have b1 := moonDay_bd (Cal.before (1 + y % 9980)) (by omega) (by omega)
  have b2 := moonDay_bd (Cal.before (1 + y % 9980 + 19)) (by omega) (by omega)
  have p1 := moonPart_bd (Cal.before (1 + y % 9980))
  have p2 := moonPart_bd (Cal.before (1 + y % 9980 + 19))
  refine WholeNineteen_go y _ _ _ _ hy ⟨b1.1, by omega⟩ ⟨b2.1, by omega⟩ p1 p2 ?_ w (Lib.hid fun W hW => molad_Of_one (1 + y % 9980) W (by omega) (by omega)) (Lib.hid fun W hW => molad_Of_one (1 + y % 9980 + 19) W (by omega) (by omega)) (Lib.hid fun W hW => awake28 W (Tab.below hT hW) (Tab.below hL hW) (Tab.below hG hW) (Tab.below hF hW) (Tab.below hP hW))
  rw [hb1]
  unfold Cal.moonDay Cal.moonPart
  omega
end Go.Proofs.YtaaaalbgjpjgoaaGreatDoor
