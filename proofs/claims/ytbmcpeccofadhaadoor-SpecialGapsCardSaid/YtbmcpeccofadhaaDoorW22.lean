/- Layer 22: its example; SpecialDays. -/
import Derived.Test.YtbmcpeccofadhaaDoorSpN
import Derived.LoopTactic
namespace Go.Proofs.YtbmcpeccofadhaaDoor
open Go.ChangeShapes Go.WideShapes Go.ChangeAt Go.RowKit Go.Lib Go.Sort Go.Shelf
set_option linter.unusedVariables false
set_option maxRecDepth 100000
theorem Yr.is_5784 : Yr.Is 5784 12 := ⟨by omega, by omega, by omega, by decide +kernel, by decide +kernel, by decide +kernel⟩
theorem Yr.first_5784 : Cal.first 5784 = 738779 := by decide +kernel
namespace Sp
theorem ex_5784 : D10.Valid 5784 8 12 ∧ D10.dayOf 5784 8 12 = 738996 ∧ named ((spL 12).map (Ev.sh 738779)) 738996 = 34 := by
  refine ⟨⟨by omega, by omega, by omega, ?_, by omega, ?_⟩, ?_, ?_⟩ <;> decide +kernel
end Sp
set_option maxHeartbeats 4000000 in
theorem awake22_go (l : List (Int × Int)) (w : World) (hT : Tab w 1 kevCells) (hL : Tab w 0 lenCells) (hl : l.length = 8)
    (HN : Hid (∀ w : World, Tab w 1 kevCells → Tab w 0 lenCells → Calls Tryd.prog 9 #[.int .i64 738996] w fun e w' => e = .returned (.tuple #[.int .i64 34, .int .i64 0]) ∧ Below w.heap.size w w')) (HO : Hid (∀ w : World, Tab w 1 kevCells → Tab w 0 lenCells → Calls Tryd.prog 7 #[.int .i64 5784] w fun e w' => ∃ v, e = .returned (.tuple #[v, .int .i64 0]) ∧ Ev.Own w' w.heap.size v l ∧ Below w.heap.size w w')) :
    Calls Tryd.prog 11 #[] w fun e w' => e = .returned (.bool true) ∧ Below w.heap.size w w' := by
  have HBad := Lib.hid (fun w => special_Of_no 0 w (by omega))
  go_enter Tryd.func11, Tryd.ntmps11
  go_wp2_with fail
  refine (HN.out _ (Tab.below hT (by repeat (first | (with_reducible exact Below.refl _ _) | (with_reducible assumption) | (with_reducible refine bdrew ?_) | (with_reducible refine baa ?_ _) | (with_reducible refine bs ?_ (by first | exact Nat.le_refl _ | omega | (simp; done) | (simp; omega)) _) | (with_reducible refine bt ?_ (by with_reducible assumption))))) (Tab.below hL (by repeat (first | (with_reducible exact Below.refl _ _) | (with_reducible assumption) | (with_reducible refine bdrew ?_) | (with_reducible refine baa ?_ _) | (with_reducible refine bs ?_ (by first | exact Nat.le_refl _ | omega | (simp; done) | (simp; omega)) _) | (with_reducible refine bt ?_ (by with_reducible assumption)))))).mono ?_
  rintro e w1 ⟨rfl, hb1⟩
  obtain ⟨hc1, hf1⟩ := bcell hb1
  have hz1 := hb1.size
  try simp at hz1
  go_wp2_with fail
  refine (HO.out _ (Tab.below hT (by repeat (first | (with_reducible exact Below.refl _ _) | (with_reducible assumption) | (with_reducible refine bdrew ?_) | (with_reducible refine baa ?_ _) | (with_reducible refine bs ?_ (by first | exact Nat.le_refl _ | omega | (simp; done) | (simp; omega)) _) | (with_reducible refine bt ?_ (by with_reducible assumption))))) (Tab.below hL (by repeat (first | (with_reducible exact Below.refl _ _) | (with_reducible assumption) | (with_reducible refine bdrew ?_) | (with_reducible refine baa ?_ _) | (with_reducible refine bs ?_ (by first | exact Nat.le_refl _ | omega | (simp; done) | (simp; omega)) _) | (with_reducible refine bt ?_ (by with_reducible assumption)))))).mono ?_
  rintro e w2 ⟨v2, rfl, ho2, hb2⟩
  have hr := ho2.row
  obtain ⟨p2, c2, rfl⟩ := hr.len
  rw [hl]
  clear ho2 hr
  have hB : Below w.heap.size w w2 := bt hb1 hb2
  go_wp2_with fail
  refine (HBad.out _).mono ?_
  rintro e w' ⟨rfl, rfl⟩
  go_wp2_with fail
  go_ret
  exact ⟨rfl, hB⟩
theorem awake22 (w : World) (hT : Tab w 1 kevCells) (hL : Tab w 0 lenCells) : Calls Tryd.prog 11 #[] w fun e w' => e = .returned (.bool true) ∧ Below w.heap.size w w' := by
  obtain ⟨h1, h2, h3⟩ := Sp.ex_5784
  refine awake22_go ((Sp.spL 12).map (Ev.sh (Cal.first 5784))) w hT hL (by rw [List.length_map]; rfl) (Lib.hid (fun w hT hL => ?_)) (Lib.hid (fun w hT hL => special_Of_at 5784 12 w Yr.is_5784 hT hL))
  have := special_Named_at 5784 8 12 12 w Yr.is_5784 h1 hT hL
  rwa [h2, Yr.first_5784, h3] at this
end Go.Proofs.YtbmcpeccofadhaaDoor
