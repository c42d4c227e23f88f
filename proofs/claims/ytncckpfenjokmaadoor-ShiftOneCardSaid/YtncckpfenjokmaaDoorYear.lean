/- Layer 6: the year of a day. -/
import Derived.Test.YtncckpfenjokmaaDoorClosed2
import Derived.Test.YtncckpfenjokmaaDoorSearch
import Derived.Deep.QuietTactic
import Derived.BigQuiet
namespace Go.Proofs.YtncckpfenjokmaaDoor
open Go.ChangeShapes Go.WideShapes Go.ChangeAt Go.RowKit Go.Sort
set_option linter.unusedVariables false
theorem first_step (y : Int) (h0 : 0 ≤ y) (h1 : y ≤ 10000) : Cal.first y < Cal.first (y + 1) := by
  have := Cal.year_long y h0 h1
  split at this <;> omega
theorem first_up (n : Nat) : ∀ y : Int, 0 ≤ y → y + n ≤ 10001 → Cal.first y ≤ Cal.first (y + n) := by
  induction n with
  | zero => intro y _ _; simp
  | succ n ih =>
    intro y h0 h1
    have k1 := ih y h0 (by omega)
    have k2 := first_step (y + n) (by omega) (by omega)
    rw [show y + ((n + 1 : Nat) : Int) = y + n + 1 by omega]
    omega
theorem first_mono (a b : Int) (h0 : 0 ≤ a) (h : a ≤ b) (h1 : b ≤ 10001) : Cal.first a ≤ Cal.first b := by
  have := first_up (b - a).toNat a h0 (by omega)
  rwa [show a + ((b - a).toNat : Int) = b by omega] at this
theorem first_one : Cal.first 1 = -1373427 := by decide +kernel
theorem year_there (d : Int) (h0 : -1373427 ≤ d) : ∀ n : Nat, n ≤ 9999 → d < Cal.first (n + 1) → ∃ y : Int, 1 ≤ y ∧ y ≤ n ∧ Cal.first y ≤ d ∧ d < Cal.first (y + 1) := by
  intro n
  induction n with
  | zero => intro _ h; rw [show ((0 : Nat) : Int) + 1 = 1 by omega, first_one] at h; omega
  | succ n ih =>
    intro hn h
    by_cases c : d < Cal.first ((n : Int) + 1)
    · obtain ⟨y, a1, a2, a3, a4⟩ := ih (by omega) c
      exact ⟨y, a1, by omega, a3, a4⟩
    · exact ⟨((n + 1 : Nat) : Int), by omega, by omega, by rw [show ((n + 1 : Nat) : Int) = (n : Int) + 1 by omega]; omega, h⟩
theorem year_of (d : Int) (h0 : -1373427 ≤ d) (h1 : d ≤ 2278650) : ∃ y : Int, 1 ≤ y ∧ y ≤ 9999 ∧ Cal.first y ≤ d ∧ d < Cal.first (y + 1) :=
  year_there d h0 9999 (by omega) (by rw [show ((9999 : Nat) : Int) + 1 = 10000 by omega, first_last]; omega)
/-- The year's place among those that are sought. -/
theorem year_count (d y : Int) (h1 : 1 ≤ y) (h2 : y ≤ 9999) (h3 : Cal.first y ≤ d) (h4 : d < Cal.first (y + 1)) :
    (((List.range 9998).countP (fun i : Nat => !decide (d < Cal.first ((i : Int) + 2))) : Nat) : Int) = y - 1 := by
  have hr : ∀ t, t < 9998 → (List.range 9998)[t]! = t := fun t ht => by rw [getElem!_pos _ t (by simpa using ht)]; simp
  have := Lib.countP_boundary (fun i : Nat => !decide (d < Cal.first ((i : Int) + 2))) (List.range 9998) (y - 1).toNat (by simp; omega) (fun t ht => ?_) (fun t h5 h6 => ?_)
  · rw [this]; omega
  · rw [hr t (by omega)]
    have := first_mono ((t : Int) + 2) y (by omega) (by omega) (by omega)
    simp only [Bool.not_eq_true', decide_eq_false_iff_not]
    omega
  · rw [hr t (by simpa using h6)]
    have h6' : t < 9998 := by simpa using h6
    have := first_mono (y + 1) ((t : Int) + 2) (by omega) (by omega) (by omega)
    simp only [Bool.not_eq_false', decide_eq_true_eq]
    omega

theorem closed_Last' (w : World) : Calls Tryd.prog 106 #[] w fun e w' => e = .returned (.int .i64 2278650) ∧ w' = w := (closed_Last w).mono fun _ _ h => ⟨h.1, h.2.symm⟩
theorem closed_Year1 (d i : Int) (B : Nat) (w : World) (hc : w.cell? ⟨B, 0, none⟩ = some (.int .i64 d)) (h0 : 0 ≤ i) (h1 : i < 9998) :
    Calls Tryd.prog 107 #[.int .i64 i, .pointer (some ⟨B, 0, none⟩)] w fun e w' => e = .returned (.bool (decide (d < Cal.first (i + 2)))) ∧ w = w' := by
  have h := fun w => closed_First_ok (i + 2) w (by omega) (by omega)
  have H := Lib.hid (fun w => closed_First_ok (1 + i + 1) w (by omega) (by omega))
  rw [show 1 + i + 1 = i + 2 by omega] at H
  have ei : 1 + i + 1 = i + 2 := by omega
  clear h
  go_enter Tryd.func107, Tryd.ntmps107
  go_wp2_with fail
  refine (H.out _).mono ?_
  rintro e w' ⟨rfl, rfl⟩
  go_wp2_with fail
  go_ret
  exact ⟨rfl, rfl⟩
set_option maxHeartbeats 1000000 in
theorem closed_Year_at (d y : Int) (w : World) (h1 : 1 ≤ y) (h2 : y ≤ 9999) (h3 : Cal.first y ≤ d) (h4 : d < Cal.first (y + 1)) (h5 : -1373427 ≤ d) (h6 : d ≤ 2278650) :
    Calls Tryd.prog 58 #[.int .i64 d] w fun e w' => e = .returned (.tuple #[.int .i64 y, .int .i64 0]) ∧ Below w.heap.size w w' := by
  have hcount := year_count d y h1 h2 h3 h4
  have HQ : ∀ W : World, W.cell? ⟨w.heap.size, 0, none⟩ = some (.int .i64 d) → w.heap.size < W.heap.size → Calls Tryd.prog 86 #[.int .i64 9998, .func (.func 107) #[] #[.pointer (some ⟨w.heap.size, 0, none⟩)]] W fun e w' => e = .returned (.int .i64 (y - 1)) ∧ Below W.heap.size W w' := by
    intro W hW hs
    have hh := Any.sort_Search search 107 #[.pointer (some ⟨w.heap.size, 0, none⟩)] 9998 (fun i => decide (d < Cal.first ((i : Int) + 2))) W (enters_of Tryd.func107 (by kernel_rfl) rfl) (by omega)
      (fun m os i hi => (closed_Year1 d i w.heap.size _ (cell_grown hs hW m os) (by omega) (by omega)).mono fun e w' h => ⟨h.1, 0, #[], by rw [← h.2, grow_empty]; rfl⟩)
      (fun a b hab hb hp => by
        have hp' := of_decide_eq_true hp
        have := first_mono ((a : Int) + 2) ((b : Int) + 2) (by omega) (by omega) (by omega)
        exact decide_eq_true (by omega))
    rw [hcount] at hh
    exact hh.mono fun e w' h => ⟨h.1, by obtain ⟨q, os, rfl⟩ := h.2; exact below_grown_sl _ W q os (Nat.le_refl _)⟩
  have HR := Lib.hid HQ
  clear HQ hcount
  go_enter Tryd.func58, Tryd.ntmps58
  go_wp2_with fail
  go_quiet ((go_at_call 106; exact Calls.quiet_of_same (closed_Last' _)))
  go_wp2_with fail
  refine (HR.out _ (by simp [go_sem]) (by simp)).mono ?_
  rintro e w1 ⟨rfl, hb1⟩
  have ey : 1 + (y - 1) = y := by omega
  go_wp2_with fail
  go_ret2
  exact ⟨rfl, bt (bdn (ba _ _) _) hb1⟩
theorem closed_Year_no (d : Int) (w : World) (h : d < -1373427 ∨ 2278650 < d) :
    Calls Tryd.prog 58 #[.int .i64 d] w fun e w' => e = .returned (.tuple #[.int .i64 0, .int .i64 2]) ∧ Below w.heap.size w w' := by
  rcases (show d < -1373427 ∨ (-1373427 ≤ d ∧ 2278650 < d) by omega) with c | ⟨c1, c2⟩
  · have hd : decide (d < -1373427) = true := by simp; omega
    go_enter Tryd.func58, Tryd.ntmps58
    go_wp2_with fail
    go_quiet ((go_at_call 106; exact Calls.quiet_of_same (closed_Last' _)))
    go_wp2_with fail
    go_ret2
    exact ⟨rfl, bdn (ba _ _) _⟩
  · have hd : decide (d < -1373427) = false := by simp; omega
    go_enter Tryd.func58, Tryd.ntmps58
    go_wp2_with fail
    go_quiet ((go_at_call 106; exact Calls.quiet_of_same (closed_Last' _)))
    go_wp2_with fail
    go_ret2
    exact ⟨rfl, bdn (ba _ _) _⟩
end Go.Proofs.YtncckpfenjokmaaDoor
