/- Through the layers: WholeTypes. -/
import Derived.Test.YtaaaalbgjpjgoaaGreatDoorVW28
import Derived.Test.YtaaaalbgjpjgoaaGreatDoorVW28y
import Derived.Test.YtaaaalbgjpjgoaaGreatDoorVKE
set_option linter.unusedVariables false
set_option linter.unusedSimpArgs false
set_option maxRecDepth 100000
namespace Go.Proofs.YtaaaalbgjpjgoaaGreatDoor
open Go.ChangeShapes Go.WideShapes Go.ChangeAt Go.RowKit Go.Lib Go.Sort Go.Shelf
def rowY : Nat → Int
  | 0 => 15 | 1 => 1 | 2 => 4 | 3 => 7 | 4 => 23 | 5 => 26 | 6 => 2 | 7 => 8 | 8 => 14 | 9 => 27 | 10 => 3 | 11 => 6 | 12 => 19 | _ => 25
theorem rowY_all : ((List.range 14).all fun i => decide (1 ≤ rowY i) && (decide (rowY i ≤ 9999) && (decide (Cal.first (rowY i) % 7 = kevB i) && (decide (Cal.kind (rowY i) = kevK i) && decide (Cal.leap (rowY i) = kevL i))))) = true := by decide +kernel
theorem rowY_at {i : Nat} (hi : i < 14) : 1 ≤ rowY i ∧ rowY i ≤ 9999 ∧ Cal.first (rowY i) % 7 = kevB i ∧ Cal.kind (rowY i) = kevK i ∧ Cal.leap (rowY i) = kevL i := by
  have h := List.all_eq_true.1 rowY_all i (List.mem_range.2 hi)
  simpa only [Bool.and_eq_true, decide_eq_true_eq] using h
theorem WholeTypes_walk (n fr : Int) (hn : 0 ≤ n ∧ n ≤ 255) (hf : 0 ≤ fr ∧ fr ≤ 65535) (w : World) (hT : Tab w 2 kevCells) (hL : Tab w 3 lenCells) (hG : Tab w 4 Gr.gregCells) (hF : Tab w 8 Fe.cells) (hP : Tab w 5 powCells) :
    Calls Tryo.prog 6 #[.int .u8 n, .int .u16 fr] w fun e w' => e = .returned (.bool true) ∧ Below w.heap.size w w' := by
  have m1 := Int.emod_nonneg n (show (14 : Int) ≠ 0 by decide)
  have m2 := Int.emod_lt_of_pos n (show (0 : Int) < 14 by decide)
  have k1 := Int.emod_nonneg fr (show (9999 : Int) ≠ 0 by decide)
  have k2 := Int.emod_lt_of_pos fr (show (0 : Int) < 9999 by decide)
  obtain ⟨i, hi, ei⟩ : ∃ i : Nat, i < 14 ∧ 1 + n % 14 = (i : Int) + 1 := ⟨(n % 14).toNat, by omega, by omega⟩
  obtain ⟨r1, r2, r3, r4, r5⟩ := rowY_at hi
  have e : 1 + (fr % 9999 + ((((rowY i - 1 - fr % 9999) % 9999).toNat : Nat) : Int)) % 9999 = rowY i := by omega
  refine WholeTypes_go n fr (kevB i) (kevK i) (kevL i) ((rowY i - 1 - fr % 9999) % 9999).toNat hn hf (by omega) (by rw [e]; exact r3) (by rw [e]; exact r4) (by rw [e]; exact r5) w ?_ (Lib.hid fun z h1 h2 W hW => keviah_Of_ok z W h1 h2) (Lib.hid fun W hW => awake28 W (Tab.below hT hW) (Tab.below hL hW) (Tab.below hG hW) (Tab.below hF hW) (Tab.below hP hW))
  refine Lib.hid fun W hW => ?_
  rw [ei]
  exact kev_Type_yes i hi W (kev_of_Tab (Tab.below hT hW))
end Go.Proofs.YtaaaalbgjpjgoaaGreatDoor
