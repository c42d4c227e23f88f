/- Layer 20: its example. -/
import Derived.Test.YtagmdglmflcegaaDoorFaO
import Derived.LoopTactic
namespace Go.Proofs.YtagmdglmflcegaaDoor
open Go.ChangeShapes Go.WideShapes Go.ChangeAt Go.RowKit Go.Lib Go.Sort Go.Shelf
set_option linter.unusedVariables false
set_option maxRecDepth 100000
theorem Yr.is_5784 : Yr.Is 5784 12 := ⟨by omega, by omega, by omega, by decide +kernel, by decide +kernel, by decide +kernel⟩
theorem Yr.first_5784 : Cal.first 5784 = 738779 := by decide +kernel
set_option maxHeartbeats 2000000 in
theorem fast_Of_below (y : Int) (w : World) (h : y < 1) : Calls Tryd.prog 23 #[.int .i64 y] w fun e w' => e = .returned (.tuple #[.slice none 0 0, .int .i64 2]) ∧ w = w' := by
  go_enter Tryd.func23, Tryd.ntmps23
  go_wp2_with fail
  go_ret2
  exact ⟨rfl, rfl⟩
set_option maxHeartbeats 2000000 in
theorem fast_Of_above (y : Int) (w : World) (h0 : ¬ y < 1) (h : 9999 < y) : Calls Tryd.prog 23 #[.int .i64 y] w fun e w' => e = .returned (.tuple #[.slice none 0 0, .int .i64 2]) ∧ w = w' := by
  have h1 : decide (y < 1) = false := by simpa using h0
  go_enter Tryd.func23, Tryd.ntmps23
  go_wp2_with fail
  go_ret2
  exact ⟨rfl, rfl⟩
set_option maxHeartbeats 2000000 in
theorem ref20_Of_no (y : Int) (w : World) (hy : I64 y) (h : y < 1 ∨ 9999 < y) : Calls Tryd.prog 24 #[.int .i64 y] w fun e w' => e = .returned (.tuple #[.slice none 0 0, .int .i64 2]) ∧ w = w' := by
  have HRi := Lib.hid (fun w => ref7_Right y w hy)
  rw [Cal.yearIn_no y h] at HRi
  clear h
  go_enter Tryd.func24, Tryd.ntmps24
  go_wp2_with fail
  refine (HRi.out _).mono ?_
  rintro e w' ⟨rfl, rfl⟩
  go_wp2_with fail
  go_ret2
  exact ⟨rfl, rfl⟩
theorem fast_Of_no (y : Int) (w : World) (h : y < 1 ∨ 9999 < y) : Calls Tryd.prog 23 #[.int .i64 y] w fun e w' => e = .returned (.tuple #[.slice none 0 0, .int .i64 2]) ∧ w = w' := by
  by_cases h0 : y < 1
  · exact fast_Of_below y w h0
  · exact fast_Of_above y w h0 (by omega)
namespace Fa
def has (l : List (Int × Int)) : Bool := l.any fun x => x.1 == 21 && x.2 == 739020
theorem has_next (l : List (Int × Int)) (j : Nat) (kd d : Int) (h : l[j]? = some (kd, d)) : has (l.take (j + 1)) = (has (l.take j) || (kd == 21 && d == 739020)) := by
  unfold has
  rw [List.take_add_one, h]
  simp
theorem ex_5784 : has ((fastL 12).map (Ev.sh 738779)) = true ∧ (fastL 12).length = 10 := by decide +kernel
theorem len_all : ((List.range 14).all fun i => decide ((fastL i).length = 10)) = true := by decide +kernel
theorem len_ok (i : Nat) (hi : i < 14) : (fastL i).length = 10 := by simpa using List.all_eq_true.1 len_all i (List.mem_range.2 hi)
end Fa
set_option maxHeartbeats 4000000 in
theorem awake20_go (l : List (Int × Int)) (w : World) (hT : Tab w 3 kevCells) (hL : Tab w 2 lenCells) (hF : Tab w 1 Fa.cells) (hl : l.length = 10) (hp : Hid (Fa.has l = true))
    (HO : Hid (∀ w : World, Tab w 3 kevCells → Tab w 2 lenCells → Tab w 1 Fa.cells → Calls Tryd.prog 23 #[.int .i64 5784] w fun e w' => ∃ v, e = .returned (.tuple #[v, .int .i64 0]) ∧ Ev.Own w' w.heap.size v l ∧ Below w.heap.size w w')) :
    Calls Tryd.prog 25 #[] w fun e w' => e = .returned (.bool true) ∧ Below w.heap.size w w' := by
  have HBad := Lib.hid (fun w => fast_Of_no 0 w (by omega))
  go_enter Tryd.func25, Tryd.ntmps25
  go_wp2_with fail
  refine (HO.out _ (Tab.below hT (by repeat (first | (with_reducible exact Below.refl _ _) | (with_reducible assumption) | (with_reducible refine bdrew ?_) | (with_reducible refine baa ?_ _) | (with_reducible refine bs ?_ (by first | exact Nat.le_refl _ | omega | (simp; done) | (simp; omega)) _) | (with_reducible refine bt ?_ (by with_reducible assumption))))) (Tab.below hL (by repeat (first | (with_reducible exact Below.refl _ _) | (with_reducible assumption) | (with_reducible refine bdrew ?_) | (with_reducible refine baa ?_ _) | (with_reducible refine bs ?_ (by first | exact Nat.le_refl _ | omega | (simp; done) | (simp; omega)) _) | (with_reducible refine bt ?_ (by with_reducible assumption))))) (Tab.below hF (by repeat (first | (with_reducible exact Below.refl _ _) | (with_reducible assumption) | (with_reducible refine bdrew ?_) | (with_reducible refine baa ?_ _) | (with_reducible refine bs ?_ (by first | exact Nat.le_refl _ | omega | (simp; done) | (simp; omega)) _) | (with_reducible refine bt ?_ (by with_reducible assumption)))))).mono ?_
  rintro e w1 ⟨v1, rfl, ho1, hb1⟩
  have hr := ho1.row
  obtain ⟨p1, c1, rfl⟩ := hr.len
  rw [hl]
  go_wp2_with fail
  go_loopw [3, 4] (fun a i wr => ∃ j : Nat, j ≤ 10 ∧ i = .int .i64 (j : Int) ∧ a = .bool (Fa.has (l.take j)) ∧ Below w1.heap.size w1 wr) (fun _ i _ => 10 - (intOf i).toNat)
  case atStart => exact ⟨0, Nat.zero_le _, rfl, rfl, Below.refl _ _⟩
  case round =>
    obtain ⟨j, hj, rfl, rfl, hB⟩ := hrel
    by_cases hlt : j < 10
    · obtain ⟨x, hx⟩ : ∃ x, l[j]? = some x := ⟨_, List.getElem?_eq_getElem (by omega)⟩
      obtain ⟨kd, d⟩ := x
      have HN := Lib.hid (Fa.has_next l j kd d hx)
      obtain ⟨b, off, cc, hp1, hc⟩ := (hr.below hB).at_some (by omega)
      simp only [Value.slice.injEq] at hp1
      obtain ⟨rfl, _, rfl⟩ := hp1
      obtain ⟨cx1, cx2⟩ := Ev.cells_at hc j (kd, d) hx
      have lx := World.block_lt_of_cell? _ _ cx1
      dsimp only at lx cx1 cx2
      have j0 : (0 : Int) ≤ (j : Int) := by omega
      have j1 : (j : Int) < 10 := by omega
      obtain ⟨fv, hf⟩ : ∃ f, Fa.has (l.take j) = f := ⟨_, rfl⟩
      rw [hf] at HN ⊢
      clear hf hx hc
      cases fv
      · by_cases c1 : kd = 21
        · subst c1
          by_cases c2 : d = 739020
          · subst c2
            go_wp2_with fail
            go_roundw
            case rel => exact ⟨j + 1, by omega, by go_num, by rw [HN.out]; rfl, hB⟩
            case measure => simp [intOf]; omega
          · have c3 : (d == 739020) = false := by simpa using c2
            clear c2
            go_wp2_with fail
            go_roundw
            case rel => exact ⟨j + 1, by omega, by go_num, by rw [HN.out, c3]; rfl, hB⟩
            case measure => simp [intOf]; omega
        · have c3 : (kd == 21) = false := by simpa using c1
          clear c1
          go_wp2_with fail
          go_roundw
          case rel => exact ⟨j + 1, by omega, by go_num, by rw [HN.out, c3]; rfl, hB⟩
          case measure => simp [intOf]; omega
      · go_wp2_with fail
        go_roundw
        case rel => exact ⟨j + 1, by omega, by go_num, by rw [HN.out, Bool.true_or], hB⟩
        case measure => simp [intOf]; omega
    · obtain rfl : j = 10 := by omega
      rw [List.take_of_length_le (by omega), hp.out]
      clear hlt
      go_wp2_with fail
      refine (HBad.out _).mono ?_
      rintro e w' ⟨rfl, rfl⟩
      go_wp2_with fail
      refine (fast_Moved 27 6 _).mono ?_
      rintro e w' ⟨rfl, rfl⟩
      go_wp2_with fail
      go_ret
      exact ⟨rfl, bt hb1 hB⟩
theorem awake20 (w : World) (hT : Tab w 3 kevCells) (hL : Tab w 2 lenCells) (hF : Tab w 1 Fa.cells) : Calls Tryd.prog 25 #[] w fun e w' => e = .returned (.bool true) ∧ Below w.heap.size w w' := by
  have h := Fa.ex_5784
  rw [← Yr.first_5784] at h
  exact awake20_go ((Fa.fastL 12).map (Ev.sh (Cal.first 5784))) w hT hL hF (by rw [List.length_map]; exact h.2) (Lib.hid h.1) (Lib.hid (fun w hT hL hF => fast_Of_at 5784 12 w Yr.is_5784 hT hL hF))
end Go.Proofs.YtagmdglmflcegaaDoor
