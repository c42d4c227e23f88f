import Derived.Test.YtankichdmlkfmaaGreatDoorWW28
import Derived.Test.YtankichdmlkfmaaGreatDoorWW28u
import Derived.Test.YtankichdmlkfmaaGreatDoorWUC
import Derived.Test.YtankichdmlkfmaaGreatDoorWAD
set_option maxHeartbeats 8000000
set_option maxRecDepth 100000
set_option linter.unusedSimpArgs false
set_option linter.unusedVariables false
namespace Go.Proofs.YtankichdmlkfmaaGreatDoor
open Go.ChangeShapes Go.WideShapes Go.ChangeAt Go.RowKit Go.Lib Go.Sort Go.Shelf
theorem WholeUntil_walk (y n : Int) (l : Bool) (d z k : Int) (h : Bool) (f : Int) (unit : Int) (hy : I64 y) (hn : I64 n) (hd : I64 d) (hz : I64 z) (hk : I64 k) (hf : I64 f) (hu : 0 ≤ unit ∧ unit ≤ 255) (w : World) (hT : Tab w 7 kevCells) (hL : Tab w 6 lenCells) (hG : Tab w 4 Gr.gregCells) (hF : Tab w 2 Fe.cells) (hP : Tab w 5 powCells) :
  Calls Tryo.prog 4 #[.agg #[.int .i64 (y), .int .i64 (n), .bool (l), .int .i64 (d)], .agg #[.int .i64 (z), .int .i64 (k), .bool (h), .int .i64 (f)], .int .u8 unit] w fun e w' => e = .returned (.bool true) ∧ Below w.heap.size w w' := by
 have HW := (Lib.hid fun W hW => awake28 W (Tab.below hT hW) (Tab.below hL hW) (Tab.below hG hW) (Tab.below hF hW) (Tab.below hP hW))
 obtain ⟨va, vb, vc, vq, er, hres⟩ := U17.d_some y n l d z k h f (unit % 4)
 have HA := Lib.hid (fun W (hW : Below w.heap.size w W) => until_Date y n l d z k h f (unit % 4) W hy hz (Tab.below hT hW) (Tab.below hL hW) va vb vc vq er (Lib.hid hres))
 have HB := Lib.hid (fun W (hW : Below w.heap.size w W) => heb_ToDay y n l d W hy (Tab.below hT hW) (Tab.below hL hW))
 have HC := Lib.hid (fun W (hW : Below w.heap.size w W) => heb_ToDay z k h f W hz (Tab.below hT hW) (Tab.below hL hW))
 rcases hres with ⟨hu2, _⟩ | ⟨hu2, he, hne, rfl, rfl, rfl, rfl⟩ | ⟨hu2, ha, hb, rfl, hI⟩
 ·exact absurd ⟨by omega, by omega⟩ hu2
 ·by_cases ha : D10.dateE y n l d = 0
  ·rw [if_pos ha] at he
   rw [ha] at HB
   rw [← he] at HC
   exact WholeUntil_eb y n l d z k h f unit er _ _ 0 hu (bne_iff_ne.2 hne) (beq_eq_false_iff_ne.2 hne) (beq_eq_false_iff_ne.2 (fun h => hne h.symm)) w HA HB HC HW
  ·rw [if_neg ha] at he
   rw [← he] at HB
   exact WholeUntil_ea y n l d z k h f unit er _ _ _ hu (bne_iff_ne.2 hne) (beq_eq_false_iff_ne.2 hne) (beq_eq_false_iff_ne.2 (fun h => hne h.symm)) w HA HB HC HW
 ·rw [ha] at HB
  rw [hb] at HC
  obtain ⟨_, a1, a2⟩ := D10.dayV_ok y n l d ha
  obtain ⟨_, b1, b2⟩ := D10.dayV_ok z k h f hb
  obtain ⟨e1, e2, e3, e4⟩ := U17.back ha b1 b2 hI
  obtain ⟨ry, rn, rl, rd, er, hto⟩ := A16.to_some y n l d va vb vc vq 0
  obtain ⟨rfl, r1, r2, _⟩ := hto.date e1
  obtain ⟨rfl, rfl, rfl, rfl⟩ := D10.same_day hb r1 (r2.trans e2).symm
  have HD := Lib.hid (fun W (hW : Below w.heap.size w W) => add_To y n l d va vb vc vq 0 W hy (Tab.below hT hW) (Tab.below hL hW) _ _ _ _ 0 (Lib.hid hto))
  have HE := Lib.hid (fun W (hW : Below w.heap.size w W) => until_Date z k h f y n l d 0 W hz hy (Tab.below hT hW) (Tab.below hL hW) 0 0 0 ((D10.dayV y n l d) - (D10.dayV z k h f)) 0 (Lib.hid (.inr (.inr ⟨⟨by omega, by omega⟩, hb, ha, rfl, .inl ⟨rfl, rfl, rfl, rfl, rfl⟩⟩))))
  by_cases c : (D10.dayV y n l d) ≤ (D10.dayV z k h f)
  ·obtain ⟨p0, p1, p2, p3⟩ := e3 c
   exact WholeUntil_up y n l d z k h f unit va vb vc vq _ _ hu ⟨a1, a2, b1, b2⟩ c p0 p1 p2 p3 w HA HB HC HD HE HW
  ·obtain ⟨p0, p1, p2, p3⟩ := e4 (by omega)
   exact WholeUntil_down y n l d z k h f unit va vb vc vq _ _ hu ⟨a1, a2, b1, b2⟩ (by omega) p0 p1 p2 p3 w HA HB HC HD HE HW
end Go.Proofs.YtankichdmlkfmaaGreatDoor
