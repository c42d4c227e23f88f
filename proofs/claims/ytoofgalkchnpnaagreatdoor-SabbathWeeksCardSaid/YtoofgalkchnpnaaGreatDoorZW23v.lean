/- Layer 23: SabbathWeeks, whole. -/
import Derived.Test.YtoofgalkchnpnaaGreatDoorZW23w
import Derived.Test.YtoofgalkchnpnaaGreatDoorZSW
namespace Go.Proofs.YtoofgalkchnpnaaGreatDoor
open Go.ChangeShapes Go.WideShapes Go.ChangeAt Go.RowKit Go.Lib Go.Sort Go.Shelf
set_option linter.unusedVariables false
set_option maxRecDepth 100000
theorem SabbathWeeks_walk (y u : Int) (hy : 0 ≤ y ∧ y ≤ 65535) (hu : 0 ≤ u ∧ u ≤ 255) (w : World) (hT : Tab w 4 kevCells) (hL : Tab w 3 lenCells) (hF : Tab w 2 Fe.cells) :
    Calls Tryo.prog 3 #[.int .u16 y, .int .u8 u] w fun e w' => e = .returned (.bool true) ∧ Below w.heap.size w w' := by
  have k1 := Int.emod_nonneg y (show (9997 : Int) ≠ 0 by decide)
  have k2 := Int.emod_lt_of_pos y (show (0 : Int) < 9997 by decide)
  obtain ⟨i, h⟩ := Yr.is_some (1 + y % 9997) (by omega) (by omega)
  obtain ⟨i2, h2⟩ := Yr.is_some ((1 + y % 9997) + 1) (by omega) (by omega)
  obtain ⟨i3, h3⟩ := Yr.is_some ((1 + y % 9997) + 1 + 1) (by omega) (by omega)
  have hp : u % 2 = if decide (u % 2 = 1) then 1 else 0 := by
    by_cases c : u % 2 = 1
    · simp [c]
    · simp [c]; omega
  generalize decide (u % 2 = 1) = p at hp
  obtain ⟨n1, n2, n3, n4⟩ := Sb.nSat_ok p h
  obtain ⟨m1, m2, m3, m4⟩ := Sb.nSat_ok p h2
  have r1 := Sb.rj_bd p h
  have r2 := Sb.rj_bd p h2
  have q1 := Sat.first_ge (Sb.rj (1 + y % 9997) p + 1)
  have hA6 : Sat.firstSat (Sb.rj (1 + y % 9997) p + 1) % 7 = 6 := by unfold Sat.firstSat; omega
  have hnext : Sat.firstSat (Sb.rj ((1 + y % 9997) + 1) p + 1) = Sat.firstSat (Sb.rj (1 + y % 9997) p + 1) + 7 * (Sb.nSat (1 + y % 9997) p : Int) := by
    have e := n1 (Sb.nSat (1 + y % 9997) p - 1) (by omega)
    have e2 : ((Sb.nSat (1 + y % 9997) p - 1 : Nat) : Int) = (Sb.nSat (1 + y % 9997) p : Int) - 1 := by omega
    rw [e2] at e
    generalize Sat.firstSat (Sb.rj (1 + y % 9997) p + 1) = A at *
    unfold Sat.firstSat
    omega
  obtain ⟨c1, c2⟩ := Sb.cnt_bd h.2.2.1 p
  have hlen : (Sb.free (1 + y % 9997) i i2 p).length = (Sb.free0 i p).length := by rw [Sb.free_off p h h2, List.length_map]
  have hK := fun w => ref7_Of_ok (1 + y % 9997) w (by omega) (by omega)
  rw [show Cal.leap (1 + y % 9997) = kevL i from h.2.2.2.2.2] at hK
  refine SabbathWeeks_go y u (Sat.firstSat (Sb.rj (1 + y % 9997) p + 1)) _ _ (kevL i) (Sb.nSat (1 + y % 9997) p) (Sb.nSat ((1 + y % 9997) + 1) p) (Sb.free0 i p).length (Sb.sabs (1 + y % 9997) p) (Sb.sabs ((1 + y % 9997) + 1) p) (Sb.free (1 + y % 9997) i i2 p) (Sb.restU (Sb.feasts (1 + y % 9997) i i2 p) 2) w hy hu hT hL hF
    (Sb.sabs_len _ _) (by omega) (by omega) (Sb.sabs_len _ _) (by omega) hlen (by omega) (by omega) (Lib.hid fun j hj => Sb.sabs_get hj) (Lib.hid (by rw [Sb.sabs_get (by omega), hnext]; simp)) (Lib.hid rfl) c1 c2 ?_ ?_ ?_ ?_ ?_ (Lib.hid hK) (Lib.hid fun w hT hL hF => awake23 w hT hL hF)
  · exact Lib.hid fun w hT hL hF => by rw [hp]; exact sab_All (1 + y % 9997) i i2 p w h h2 hT hL hF
  · exact Lib.hid fun w hT hL hF => by rw [hp]; exact sab_All ((1 + y % 9997) + 1) i2 i3 p w h2 h3 hT hL hF
  · exact Lib.hid fun w hT hL hF => by rw [hp]; exact sab_Free (1 + y % 9997) i i2 p w h h2 hT hL hF
  · refine Lib.hid fun j w hj hT hL hF => ?_
    rw [hp]
    exact sab_Cycle (1 + y % 9997) i i2 p _ w h h2 (by omega) (n1 j hj) hT hL hF
  · refine Lib.hid fun j w hj => ?_
    have e := ref4_Weekday (Sat.firstSat (Sb.rj (1 + y % 9997) p + 1) + 7 * (j : Int)) w
    rwa [show (Sat.firstSat (Sb.rj (1 + y % 9997) p + 1) + 7 * (j : Int)) % 7 = 6 by omega] at e
end Go.Proofs.YtoofgalkchnpnaaGreatDoor
