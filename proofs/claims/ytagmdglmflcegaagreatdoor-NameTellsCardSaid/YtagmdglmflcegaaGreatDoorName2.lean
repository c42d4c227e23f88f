/- Layer 14: a month's name; a number without a nought ahead. -/
import Derived.Test.YtagmdglmflcegaaGreatDoorName
import Derived.Test.YtagmdglmflcegaaGreatDoorNum
import Derived.Test.YtagmdglmflcegaaGreatDoorW10
import Derived.LoopTactic
import Derived.Outline
namespace Go.Proofs.YtagmdglmflcegaaGreatDoor
open Go.ChangeShapes Go.WideShapes Go.ChangeAt Go.RowKit
set_option linter.unusedVariables false
set_option maxRecDepth 100000
def nOk (s : ByteArray) (M : Int) : Bool := decide (1 ≤ (s.size : Int)) && (decide ((s.size : Int) ≤ M) && (decide (¬ s.data.toList.head? = some 48) && s.data.toList.all isDig))
def nVal (s : ByteArray) (M : Int) : Int := if nOk s M then numFold s.data.toList else 0
set_option maxHeartbeats 4000000 in
theorem name_number_0 (s : ByteArray) (M : Int) (w : World) (hs : s.size ≤ 9223372036854775807) (h : (s.size : Int) < 1) :
    Calls Tryz.prog 40 #[.string s, .int .i64 M] w fun e w' => e = .returned (.tuple #[.int .i64 0, .bool false]) ∧ w = w' := by
  go_enter Tryz.func40, Tryz.ntmps40
  go_wp2_with fail
  go_ret2
  exact ⟨rfl, rfl⟩
set_option maxHeartbeats 4000000 in
theorem name_number_1 (s : ByteArray) (M : Int) (w : World) (hs : s.size ≤ 9223372036854775807) (h0 : 1 ≤ (s.size : Int)) (h : M < (s.size : Int)) :
    Calls Tryz.prog 40 #[.string s, .int .i64 M] w fun e w' => e = .returned (.tuple #[.int .i64 0, .bool false]) ∧ w = w' := by
  go_enter Tryz.func40, Tryz.ntmps40
  go_wp2_with fail
  go_ret2
  exact ⟨rfl, rfl⟩
set_option maxHeartbeats 4000000 in
theorem name_number_2 (s : ByteArray) (M : Int) (w : World) (hs : s.size ≤ 9223372036854775807) (h0 : 1 ≤ (s.size : Int)) (h1 : (s.size : Int) ≤ M) (hp : 0 < s.size) (h : (s[0].toNat : Int) = 48) :
    Calls Tryz.prog 40 #[.string s, .int .i64 M] w fun e w' => e = .returned (.tuple #[.int .i64 0, .bool false]) ∧ w = w' := by
  go_enter Tryz.func40, Tryz.ntmps40
  go_wp2_with fail
  go_ret2
  exact ⟨rfl, rfl⟩
set_option maxHeartbeats 4000000 in
theorem name_number_go (s : ByteArray) (M : Int) (w : World) (hs : s.size ≤ 4) (h0 : 1 ≤ (s.size : Int)) (h1 : (s.size : Int) ≤ M) (hp : 0 < s.size) (h : ¬ (s[0].toNat : Int) = 48) (vv : Int) (oo : Bool) (HOk : Hid (oo = s.data.toList.all isDig)) (HV : Hid (vv = if s.data.toList.all isDig then numFold s.data.toList else 0)) :
    Calls Tryz.prog 40 #[.string s, .int .i64 M] w fun e w' => e = .returned (.tuple #[.int .i64 vv, .bool oo]) ∧ w = w' := by
  go_enter Tryz.func40, Tryz.ntmps40
  go_wp2_with fail
  · rename_i hq
    exfalso
    rcases hq with (q | q) | q
    · omega
    · omega
    · exact h (by simpa using q)
  go_loop [6, 24] (fun n i => ∃ k : Nat, k ≤ s.size ∧ i = .int .i64 k ∧ n = .int .i64 (numFold (s.data.toList.take k)) ∧ Hid ((s.data.toList.take k).all isDig = true)) (fun _ i => s.size - (intOf i).toNat)
  case atStart => exact ⟨0, Nat.zero_le _, rfl, rfl, Lib.hid rfl⟩
  case round =>
    obtain ⟨k, hk, rfl, rfl, hA⟩ := hrel
    have hbd := numFold_bd _ hA.out
    have hlt4 : (s.data.toList.take k).length ≤ k := List.length_take_le _ _
    clear h h1 h0
    by_cases hlt : k < s.size
    · have hpow : (10 : Int) ^ (s.data.toList.take k).length ≤ 1000 := by
        rcases (show (s.data.toList.take k).length = 0 ∨ (s.data.toList.take k).length = 1 ∨ (s.data.toList.take k).length = 2 ∨ (s.data.toList.take k).length = 3 by omega) with h | h | h | h <;> rw [h] <;> decide
      have hF0 := hbd.1
      have hF1 : numFold (s.data.toList.take k) < 1000 := by omega
      have hsn := numFold_snoc (s.data.toList.take k) s[k]
      rw [← take_snoc' s k hlt] at hsn
      have hall : isDig s[k] = true → (s.data.toList.take (k + 1)).all isDig = true := fun h => by rw [take_snoc' s k hlt, List.all_append, hA.out]; simpa using h
      have hno := all_take s k hlt
      have HS := Lib.hid (And.intro hsn (And.intro hall hno))
      clear hsn hall hno hbd hpow hlt4
      by_cases h48 : 48 ≤ (s[k].toNat : Int)
      · by_cases h57 : (s[k].toNat : Int) ≤ 57
        · have hdig : isDig s[k] = true := by unfold isDig; simp; omega
          have HD := Lib.hid hdig
          clear hdig
          go_wp2_with fail
          go_round
          case rel => exact ⟨_, _, _, _, _, ⟨k + 1, by omega, by go_num, by rw [HS.out.1], Lib.hid (List.all_eq_true.1 (HS.out.2.1 HD.out))⟩, rfl, rfl, rfl, rfl, rfl⟩
          case measure => simp [intOf]; omega
        · have hf : isDig s[k] = false := by unfold isDig; simp; omega
          have e := HS.out.2.2 hf
          have ev : vv = 0 := by rw [HV.out, e]; rfl
          have eo : oo = false := by rw [HOk.out, e]
          clear e hf
          subst ev
          subst eo
          go_wp2_with fail
          go_ret2
          exact ⟨rfl, rfl⟩
      · have hf : isDig s[k] = false := by unfold isDig; simp; omega
        have e := HS.out.2.2 hf
        have ev : vv = 0 := by rw [HV.out, e]; rfl
        have eo : oo = false := by rw [HOk.out, e]
        clear e hf
        subst ev
        subst eo
        go_wp2_with fail
        go_ret2
        exact ⟨rfl, rfl⟩
    · obtain rfl : k = s.size := by omega
      have ht : s.data.toList.take s.size = s.data.toList := List.take_of_length_le (by simp)
      rw [ht] at hA hbd ⊢
      have ev : vv = numFold s.data.toList := by rw [HV.out, hA.out]; rfl
      have eo : oo = true := by rw [HOk.out, hA.out]
      clear ht hbd hlt4
      subst ev
      subst eo
      go_wp2_with fail
      go_ret2
      exact ⟨rfl, rfl⟩
theorem head_byte (s : ByteArray) (hp : 0 < s.size) : s.data.toList.head? = some s[0] := by
  have e : s[0] = s.data.toList[0]'(by simpa using hp) := rfl
  rw [e, List.head?_eq_getElem?, List.getElem?_eq_getElem]
theorem name_number (s : ByteArray) (M : Int) (w : World) (hM : M ≤ 4) (hs : s.size ≤ 9223372036854775807) :
    Calls Tryz.prog 40 #[.string s, .int .i64 M] w fun e w' => e = .returned (.tuple #[.int .i64 (nVal s M), .bool (nOk s M)]) ∧ w = w' := by
  by_cases c0 : (s.size : Int) < 1
  · have e : nOk s M = false := by unfold nOk; rw [decide_eq_false (by omega)]; rfl
    rw [show nVal s M = 0 by unfold nVal; rw [e]; rfl, e]
    exact name_number_0 s M w hs c0
  · by_cases c1 : M < (s.size : Int)
    · have e : nOk s M = false := by unfold nOk; rw [decide_eq_false (show ¬ (s.size : Int) ≤ M by omega)]; simp
      rw [show nVal s M = 0 by unfold nVal; rw [e]; rfl, e]
      exact name_number_1 s M w hs (by omega) c1
    · have hp : 0 < s.size := by omega
      by_cases c2 : (s[0].toNat : Int) = 48
      · have e2 : s[0] = 48 := by rw [← UInt8.toNat_inj]; show s[0].toNat = 48; omega
        have e : nOk s M = false := by unfold nOk; rw [head_byte s hp, e2]; simp
        rw [show nVal s M = 0 by unfold nVal; rw [e]; rfl, e]
        exact name_number_2 s M w hs (by omega) (by omega) hp c2
      · have e2 : ¬ s[0] = 48 := fun e => c2 (by rw [e]; rfl)
        have e : nOk s M = s.data.toList.all isDig := by
          unfold nOk
          rw [head_byte s hp, decide_eq_true (show 1 ≤ (s.size : Int) by omega), decide_eq_true (show (s.size : Int) ≤ M by omega), decide_eq_true (show ¬ some s[0] = some 48 by simpa using e2)]
          rfl
        exact name_number_go s M w (by omega) (by omega) (by omega) hp c2 _ _ (Lib.hid e) (Lib.hid (by unfold nVal; rw [e]))
set_option maxHeartbeats 2000000 in
theorem name_Month_err (y n : Int) (l : Bool) (v er : Int) (w : World) (hT : Tab w 2 kevCells) (hL : Tab w 3 lenCells) (HC : Hid (∀ w : World, Tab w 2 kevCells → Tab w 3 lenCells → Calls Tryz.prog 29 #[.int .i64 y, .agg #[.int .i64 n, .bool l]] w fun e w' => e = .returned (.tuple #[.int .i64 (v), .int .i64 (er)]) ∧ Below w.heap.size w w')) (h : (er != 0) = true) :
    Calls Tryz.prog 9 #[.int .i64 y, .agg #[.int .i64 n, .bool l]] w fun e w' => e = .returned (.tuple #[.string ⟨#[]⟩, .int .i64 (er)]) ∧ Below w.heap.size w w' := by
  go_enter Tryz.func9, Tryz.ntmps9
  go_wp2_with fail
  refine (HC.out _ (Tab.below hT (by repeat (first | exact Below.refl _ _ | assumption | (with_reducible refine bdrew ?_) | (with_reducible refine baa ?_ _) | (with_reducible refine bs ?_ (by first | exact Nat.le_refl _ | omega | (simp; done) | (simp; omega)) _) | (with_reducible refine bt ?_ (by assumption))))) (Tab.below hL (by repeat (first | exact Below.refl _ _ | assumption | (with_reducible refine bdrew ?_) | (with_reducible refine baa ?_ _) | (with_reducible refine bs ?_ (by first | exact Nat.le_refl _ | omega | (simp; done) | (simp; omega)) _) | (with_reducible refine bt ?_ (by assumption)))))).mono ?_
  rintro e w1 ⟨rfl, hb1⟩
  obtain ⟨hc1, hf1⟩ := bcell hb1
  have hz1 := hb1.size
  try simp at hz1
  have hs1x0 : w.heap.size < w1.heap.size := by omega
  have g1x0 : w1.cell? ⟨w.heap.size, 0, none⟩ = some (.int .i64 (n)) := (hc1 _ _ (by first | omega | (simp; done) | (simp; omega))).trans (by first | (with_reducible assumption) | (simp [go_sem]; done) | (simp [go_sem, *]; done) | assumption)
  have g1x1 : w1.cell? ⟨w.heap.size, 1, none⟩ = some (.bool (l)) := (hc1 _ _ (by first | omega | (simp; done) | (simp; omega))).trans (by first | (with_reducible assumption) | (simp [go_sem]; done) | (simp [go_sem, *]; done) | assumption)
  go_wp2_with fail
  go_ret2
  refine ⟨rfl, ?_⟩
  repeat (first | exact Below.refl _ _ | assumption | (with_reducible refine bdrew ?_) | (with_reducible refine baa ?_ _) | (with_reducible refine bs ?_ (by first | exact Nat.le_refl _ | omega | (simp; done) | (simp; omega)) _) | (with_reducible refine bt ?_ (by assumption)))
set_option maxHeartbeats 2000000 in
theorem name_Month_I (y n : Int) (v : Int) (w : World) (hT : Tab w 2 kevCells) (hL : Tab w 3 lenCells) (HC : Hid (∀ w : World, Tab w 2 kevCells → Tab w 3 lenCells → Calls Tryz.prog 29 #[.int .i64 y, .agg #[.int .i64 n, .bool true]] w fun e w' => e = .returned (.tuple #[.int .i64 (v), .int .i64 (0)]) ∧ Below w.heap.size w w')) :
    Calls Tryz.prog 9 #[.int .i64 y, .agg #[.int .i64 n, .bool true]] w fun e w' => e = .returned (.tuple #[.string ⟨#[65, 100, 97, 114, 32, 73]⟩, .int .i64 (0)]) ∧ Below w.heap.size w w' := by
  go_enter Tryz.func9, Tryz.ntmps9
  go_wp2_with fail
  refine (HC.out _ (Tab.below hT (by repeat (first | exact Below.refl _ _ | assumption | (with_reducible refine bdrew ?_) | (with_reducible refine baa ?_ _) | (with_reducible refine bs ?_ (by first | exact Nat.le_refl _ | omega | (simp; done) | (simp; omega)) _) | (with_reducible refine bt ?_ (by assumption))))) (Tab.below hL (by repeat (first | exact Below.refl _ _ | assumption | (with_reducible refine bdrew ?_) | (with_reducible refine baa ?_ _) | (with_reducible refine bs ?_ (by first | exact Nat.le_refl _ | omega | (simp; done) | (simp; omega)) _) | (with_reducible refine bt ?_ (by assumption)))))).mono ?_
  rintro e w1 ⟨rfl, hb1⟩
  obtain ⟨hc1, hf1⟩ := bcell hb1
  have hz1 := hb1.size
  try simp at hz1
  have hs1x0 : w.heap.size < w1.heap.size := by omega
  have g1x0 : w1.cell? ⟨w.heap.size, 0, none⟩ = some (.int .i64 (n)) := (hc1 _ _ (by first | omega | (simp; done) | (simp; omega))).trans (by first | (with_reducible assumption) | (simp [go_sem]; done) | (simp [go_sem, *]; done) | assumption)
  have g1x1 : w1.cell? ⟨w.heap.size, 1, none⟩ = some (.bool true) := (hc1 _ _ (by first | omega | (simp; done) | (simp; omega))).trans (by first | (with_reducible assumption) | (simp [go_sem]; done) | (simp [go_sem, *]; done) | assumption)
  go_wp2_with fail
  go_ret2
  refine ⟨rfl, ?_⟩
  repeat (first | exact Below.refl _ _ | assumption | (with_reducible refine bdrew ?_) | (with_reducible refine baa ?_ _) | (with_reducible refine bs ?_ (by first | exact Nat.le_refl _ | omega | (simp; done) | (simp; omega)) _) | (with_reducible refine bt ?_ (by assumption)))
set_option maxHeartbeats 2000000 in
theorem name_Month_II (y v : Int) (w : World) (hT : Tab w 2 kevCells) (hL : Tab w 3 lenCells) (HC : Hid (∀ w : World, Tab w 2 kevCells → Tab w 3 lenCells → Calls Tryz.prog 29 #[.int .i64 y, .agg #[.int .i64 6, .bool false]] w fun e w' => e = .returned (.tuple #[.int .i64 (v), .int .i64 (0)]) ∧ Below w.heap.size w w')) (HL : Hid (∀ w : World, Calls Tryz.prog 30 #[.int .i64 y] w fun e w' => e = .returned (.tuple #[.bool true, .int .i64 0]) ∧ w = w')) :
    Calls Tryz.prog 9 #[.int .i64 y, .agg #[.int .i64 6, .bool false]] w fun e w' => e = .returned (.tuple #[.string ⟨#[65, 100, 97, 114, 32, 73, 73]⟩, .int .i64 (0)]) ∧ Below w.heap.size w w' := by
  go_enter Tryz.func9, Tryz.ntmps9
  go_wp2_with fail
  refine (HC.out _ (Tab.below hT (by repeat (first | exact Below.refl _ _ | assumption | (with_reducible refine bdrew ?_) | (with_reducible refine baa ?_ _) | (with_reducible refine bs ?_ (by first | exact Nat.le_refl _ | omega | (simp; done) | (simp; omega)) _) | (with_reducible refine bt ?_ (by assumption))))) (Tab.below hL (by repeat (first | exact Below.refl _ _ | assumption | (with_reducible refine bdrew ?_) | (with_reducible refine baa ?_ _) | (with_reducible refine bs ?_ (by first | exact Nat.le_refl _ | omega | (simp; done) | (simp; omega)) _) | (with_reducible refine bt ?_ (by assumption)))))).mono ?_
  rintro e w1 ⟨rfl, hb1⟩
  obtain ⟨hc1, hf1⟩ := bcell hb1
  have hz1 := hb1.size
  try simp at hz1
  have hs1x0 : w.heap.size < w1.heap.size := by omega
  have g1x0 : w1.cell? ⟨w.heap.size, 0, none⟩ = some (.int .i64 6) := (hc1 _ _ (by first | omega | (simp; done) | (simp; omega))).trans (by first | (with_reducible assumption) | (simp [go_sem]; done) | (simp [go_sem, *]; done) | assumption)
  have g1x1 : w1.cell? ⟨w.heap.size, 1, none⟩ = some (.bool false) := (hc1 _ _ (by first | omega | (simp; done) | (simp; omega))).trans (by first | (with_reducible assumption) | (simp [go_sem]; done) | (simp [go_sem, *]; done) | assumption)
  go_wp2_with fail
  refine (HL.out _).mono ?_
  rintro e w' ⟨rfl, rfl⟩
  go_wp2_with fail
  go_ret2
  refine ⟨rfl, ?_⟩
  repeat (first | exact Below.refl _ _ | assumption | (with_reducible refine bdrew ?_) | (with_reducible refine baa ?_ _) | (with_reducible refine bs ?_ (by first | exact Nat.le_refl _ | omega | (simp; done) | (simp; omega)) _) | (with_reducible refine bt ?_ (by assumption)))
set_option maxHeartbeats 2000000 in
theorem name_Month_1 (y v : Int) (lp : Bool) (w : World) (hT : Tab w 2 kevCells) (hL : Tab w 3 lenCells) (hlt : 0 < w.heap.size) (hN : w.cell? ⟨0, 0, none⟩ = some (.string ⟨#[84, 105, 115, 104, 114, 105]⟩)) (HC : Hid (∀ w : World, Tab w 2 kevCells → Tab w 3 lenCells → Calls Tryz.prog 29 #[.int .i64 y, .agg #[.int .i64 1, .bool false]] w fun e w' => e = .returned (.tuple #[.int .i64 (v), .int .i64 (0)]) ∧ Below w.heap.size w w')) (HL : Hid (∀ w : World, Calls Tryz.prog 30 #[.int .i64 y] w fun e w' => e = .returned (.tuple #[.bool lp, .int .i64 0]) ∧ w = w')) :
    Calls Tryz.prog 9 #[.int .i64 y, .agg #[.int .i64 1, .bool false]] w fun e w' => e = .returned (.tuple #[.string ⟨#[84, 105, 115, 104, 114, 105]⟩, .int .i64 (0)]) ∧ Below w.heap.size w w' := by
  go_enter Tryz.func9, Tryz.ntmps9
  go_wp2_with fail
  refine (HC.out _ (Tab.below hT (by repeat (first | exact Below.refl _ _ | assumption | (with_reducible refine bdrew ?_) | (with_reducible refine baa ?_ _) | (with_reducible refine bs ?_ (by first | exact Nat.le_refl _ | omega | (simp; done) | (simp; omega)) _) | (with_reducible refine bt ?_ (by assumption))))) (Tab.below hL (by repeat (first | exact Below.refl _ _ | assumption | (with_reducible refine bdrew ?_) | (with_reducible refine baa ?_ _) | (with_reducible refine bs ?_ (by first | exact Nat.le_refl _ | omega | (simp; done) | (simp; omega)) _) | (with_reducible refine bt ?_ (by assumption)))))).mono ?_
  rintro e w1 ⟨rfl, hb1⟩
  obtain ⟨hc1, hf1⟩ := bcell hb1
  have hz1 := hb1.size
  try simp at hz1
  have hs1x0 : w.heap.size < w1.heap.size := by omega
  have hs1x1 : 0 < w1.heap.size := by omega
  have g1x0 : w1.cell? ⟨w.heap.size, 0, none⟩ = some (.int .i64 1) := (hc1 _ _ (by first | omega | (simp; done) | (simp; omega))).trans (by first | (with_reducible assumption) | (simp [go_sem]; done) | (simp [go_sem, *]; done) | assumption)
  have g1x1 : w1.cell? ⟨w.heap.size, 1, none⟩ = some (.bool false) := (hc1 _ _ (by first | omega | (simp; done) | (simp; omega))).trans (by first | (with_reducible assumption) | (simp [go_sem]; done) | (simp [go_sem, *]; done) | assumption)
  have g1x2 : w1.cell? ⟨0, 0, none⟩ = some (.string ⟨#[84, 105, 115, 104, 114, 105]⟩) := (hc1 _ _ (by first | omega | (simp; done) | (simp; omega))).trans (by first | (with_reducible assumption) | (simp [go_sem]; done) | (simp [go_sem, *]; done) | assumption)
  go_wp2_with fail
  refine (HL.out _).mono ?_
  rintro e w' ⟨rfl, rfl⟩
  go_wp2_with fail
  all_goals go_ret2
  all_goals refine ⟨rfl, ?_⟩
  all_goals repeat (first | exact Below.refl _ _ | assumption | (with_reducible refine bdrew ?_) | (with_reducible refine baa ?_ _) | (with_reducible refine bs ?_ (by first | exact Nat.le_refl _ | omega | (simp; done) | (simp; omega)) _) | (with_reducible refine bt ?_ (by assumption)))
set_option maxHeartbeats 2000000 in
theorem name_Month_2 (y v : Int) (lp : Bool) (w : World) (hT : Tab w 2 kevCells) (hL : Tab w 3 lenCells) (hlt : 0 < w.heap.size) (hN : w.cell? ⟨0, 1, none⟩ = some (.string ⟨#[72, 101, 115, 104, 118, 97, 110]⟩)) (HC : Hid (∀ w : World, Tab w 2 kevCells → Tab w 3 lenCells → Calls Tryz.prog 29 #[.int .i64 y, .agg #[.int .i64 2, .bool false]] w fun e w' => e = .returned (.tuple #[.int .i64 (v), .int .i64 (0)]) ∧ Below w.heap.size w w')) (HL : Hid (∀ w : World, Calls Tryz.prog 30 #[.int .i64 y] w fun e w' => e = .returned (.tuple #[.bool lp, .int .i64 0]) ∧ w = w')) :
    Calls Tryz.prog 9 #[.int .i64 y, .agg #[.int .i64 2, .bool false]] w fun e w' => e = .returned (.tuple #[.string ⟨#[72, 101, 115, 104, 118, 97, 110]⟩, .int .i64 (0)]) ∧ Below w.heap.size w w' := by
  go_enter Tryz.func9, Tryz.ntmps9
  go_wp2_with fail
  refine (HC.out _ (Tab.below hT (by repeat (first | exact Below.refl _ _ | assumption | (with_reducible refine bdrew ?_) | (with_reducible refine baa ?_ _) | (with_reducible refine bs ?_ (by first | exact Nat.le_refl _ | omega | (simp; done) | (simp; omega)) _) | (with_reducible refine bt ?_ (by assumption))))) (Tab.below hL (by repeat (first | exact Below.refl _ _ | assumption | (with_reducible refine bdrew ?_) | (with_reducible refine baa ?_ _) | (with_reducible refine bs ?_ (by first | exact Nat.le_refl _ | omega | (simp; done) | (simp; omega)) _) | (with_reducible refine bt ?_ (by assumption)))))).mono ?_
  rintro e w1 ⟨rfl, hb1⟩
  obtain ⟨hc1, hf1⟩ := bcell hb1
  have hz1 := hb1.size
  try simp at hz1
  have hs1x0 : w.heap.size < w1.heap.size := by omega
  have hs1x1 : 0 < w1.heap.size := by omega
  have g1x0 : w1.cell? ⟨w.heap.size, 0, none⟩ = some (.int .i64 2) := (hc1 _ _ (by first | omega | (simp; done) | (simp; omega))).trans (by first | (with_reducible assumption) | (simp [go_sem]; done) | (simp [go_sem, *]; done) | assumption)
  have g1x1 : w1.cell? ⟨w.heap.size, 1, none⟩ = some (.bool false) := (hc1 _ _ (by first | omega | (simp; done) | (simp; omega))).trans (by first | (with_reducible assumption) | (simp [go_sem]; done) | (simp [go_sem, *]; done) | assumption)
  have g1x2 : w1.cell? ⟨0, 1, none⟩ = some (.string ⟨#[72, 101, 115, 104, 118, 97, 110]⟩) := (hc1 _ _ (by first | omega | (simp; done) | (simp; omega))).trans (by first | (with_reducible assumption) | (simp [go_sem]; done) | (simp [go_sem, *]; done) | assumption)
  go_wp2_with fail
  refine (HL.out _).mono ?_
  rintro e w' ⟨rfl, rfl⟩
  go_wp2_with fail
  all_goals go_ret2
  all_goals refine ⟨rfl, ?_⟩
  all_goals repeat (first | exact Below.refl _ _ | assumption | (with_reducible refine bdrew ?_) | (with_reducible refine baa ?_ _) | (with_reducible refine bs ?_ (by first | exact Nat.le_refl _ | omega | (simp; done) | (simp; omega)) _) | (with_reducible refine bt ?_ (by assumption)))
set_option maxHeartbeats 2000000 in
theorem name_Month_3 (y v : Int) (lp : Bool) (w : World) (hT : Tab w 2 kevCells) (hL : Tab w 3 lenCells) (hlt : 0 < w.heap.size) (hN : w.cell? ⟨0, 2, none⟩ = some (.string ⟨#[75, 105, 115, 108, 101, 118]⟩)) (HC : Hid (∀ w : World, Tab w 2 kevCells → Tab w 3 lenCells → Calls Tryz.prog 29 #[.int .i64 y, .agg #[.int .i64 3, .bool false]] w fun e w' => e = .returned (.tuple #[.int .i64 (v), .int .i64 (0)]) ∧ Below w.heap.size w w')) (HL : Hid (∀ w : World, Calls Tryz.prog 30 #[.int .i64 y] w fun e w' => e = .returned (.tuple #[.bool lp, .int .i64 0]) ∧ w = w')) :
    Calls Tryz.prog 9 #[.int .i64 y, .agg #[.int .i64 3, .bool false]] w fun e w' => e = .returned (.tuple #[.string ⟨#[75, 105, 115, 108, 101, 118]⟩, .int .i64 (0)]) ∧ Below w.heap.size w w' := by
  go_enter Tryz.func9, Tryz.ntmps9
  go_wp2_with fail
  refine (HC.out _ (Tab.below hT (by repeat (first | exact Below.refl _ _ | assumption | (with_reducible refine bdrew ?_) | (with_reducible refine baa ?_ _) | (with_reducible refine bs ?_ (by first | exact Nat.le_refl _ | omega | (simp; done) | (simp; omega)) _) | (with_reducible refine bt ?_ (by assumption))))) (Tab.below hL (by repeat (first | exact Below.refl _ _ | assumption | (with_reducible refine bdrew ?_) | (with_reducible refine baa ?_ _) | (with_reducible refine bs ?_ (by first | exact Nat.le_refl _ | omega | (simp; done) | (simp; omega)) _) | (with_reducible refine bt ?_ (by assumption)))))).mono ?_
  rintro e w1 ⟨rfl, hb1⟩
  obtain ⟨hc1, hf1⟩ := bcell hb1
  have hz1 := hb1.size
  try simp at hz1
  have hs1x0 : w.heap.size < w1.heap.size := by omega
  have hs1x1 : 0 < w1.heap.size := by omega
  have g1x0 : w1.cell? ⟨w.heap.size, 0, none⟩ = some (.int .i64 3) := (hc1 _ _ (by first | omega | (simp; done) | (simp; omega))).trans (by first | (with_reducible assumption) | (simp [go_sem]; done) | (simp [go_sem, *]; done) | assumption)
  have g1x1 : w1.cell? ⟨w.heap.size, 1, none⟩ = some (.bool false) := (hc1 _ _ (by first | omega | (simp; done) | (simp; omega))).trans (by first | (with_reducible assumption) | (simp [go_sem]; done) | (simp [go_sem, *]; done) | assumption)
  have g1x2 : w1.cell? ⟨0, 2, none⟩ = some (.string ⟨#[75, 105, 115, 108, 101, 118]⟩) := (hc1 _ _ (by first | omega | (simp; done) | (simp; omega))).trans (by first | (with_reducible assumption) | (simp [go_sem]; done) | (simp [go_sem, *]; done) | assumption)
  go_wp2_with fail
  refine (HL.out _).mono ?_
  rintro e w' ⟨rfl, rfl⟩
  go_wp2_with fail
  all_goals go_ret2
  all_goals refine ⟨rfl, ?_⟩
  all_goals repeat (first | exact Below.refl _ _ | assumption | (with_reducible refine bdrew ?_) | (with_reducible refine baa ?_ _) | (with_reducible refine bs ?_ (by first | exact Nat.le_refl _ | omega | (simp; done) | (simp; omega)) _) | (with_reducible refine bt ?_ (by assumption)))
set_option maxHeartbeats 2000000 in
theorem name_Month_4 (y v : Int) (lp : Bool) (w : World) (hT : Tab w 2 kevCells) (hL : Tab w 3 lenCells) (hlt : 0 < w.heap.size) (hN : w.cell? ⟨0, 3, none⟩ = some (.string ⟨#[84, 101, 118, 101, 116]⟩)) (HC : Hid (∀ w : World, Tab w 2 kevCells → Tab w 3 lenCells → Calls Tryz.prog 29 #[.int .i64 y, .agg #[.int .i64 4, .bool false]] w fun e w' => e = .returned (.tuple #[.int .i64 (v), .int .i64 (0)]) ∧ Below w.heap.size w w')) (HL : Hid (∀ w : World, Calls Tryz.prog 30 #[.int .i64 y] w fun e w' => e = .returned (.tuple #[.bool lp, .int .i64 0]) ∧ w = w')) :
    Calls Tryz.prog 9 #[.int .i64 y, .agg #[.int .i64 4, .bool false]] w fun e w' => e = .returned (.tuple #[.string ⟨#[84, 101, 118, 101, 116]⟩, .int .i64 (0)]) ∧ Below w.heap.size w w' := by
  go_enter Tryz.func9, Tryz.ntmps9
  go_wp2_with fail
  refine (HC.out _ (Tab.below hT (by repeat (first | exact Below.refl _ _ | assumption | (with_reducible refine bdrew ?_) | (with_reducible refine baa ?_ _) | (with_reducible refine bs ?_ (by first | exact Nat.le_refl _ | omega | (simp; done) | (simp; omega)) _) | (with_reducible refine bt ?_ (by assumption))))) (Tab.below hL (by repeat (first | exact Below.refl _ _ | assumption | (with_reducible refine bdrew ?_) | (with_reducible refine baa ?_ _) | (with_reducible refine bs ?_ (by first | exact Nat.le_refl _ | omega | (simp; done) | (simp; omega)) _) | (with_reducible refine bt ?_ (by assumption)))))).mono ?_
  rintro e w1 ⟨rfl, hb1⟩
  obtain ⟨hc1, hf1⟩ := bcell hb1
  have hz1 := hb1.size
  try simp at hz1
  have hs1x0 : w.heap.size < w1.heap.size := by omega
  have hs1x1 : 0 < w1.heap.size := by omega
  have g1x0 : w1.cell? ⟨w.heap.size, 0, none⟩ = some (.int .i64 4) := (hc1 _ _ (by first | omega | (simp; done) | (simp; omega))).trans (by first | (with_reducible assumption) | (simp [go_sem]; done) | (simp [go_sem, *]; done) | assumption)
  have g1x1 : w1.cell? ⟨w.heap.size, 1, none⟩ = some (.bool false) := (hc1 _ _ (by first | omega | (simp; done) | (simp; omega))).trans (by first | (with_reducible assumption) | (simp [go_sem]; done) | (simp [go_sem, *]; done) | assumption)
  have g1x2 : w1.cell? ⟨0, 3, none⟩ = some (.string ⟨#[84, 101, 118, 101, 116]⟩) := (hc1 _ _ (by first | omega | (simp; done) | (simp; omega))).trans (by first | (with_reducible assumption) | (simp [go_sem]; done) | (simp [go_sem, *]; done) | assumption)
  go_wp2_with fail
  refine (HL.out _).mono ?_
  rintro e w' ⟨rfl, rfl⟩
  go_wp2_with fail
  all_goals go_ret2
  all_goals refine ⟨rfl, ?_⟩
  all_goals repeat (first | exact Below.refl _ _ | assumption | (with_reducible refine bdrew ?_) | (with_reducible refine baa ?_ _) | (with_reducible refine bs ?_ (by first | exact Nat.le_refl _ | omega | (simp; done) | (simp; omega)) _) | (with_reducible refine bt ?_ (by assumption)))
set_option maxHeartbeats 2000000 in
theorem name_Month_5 (y v : Int) (lp : Bool) (w : World) (hT : Tab w 2 kevCells) (hL : Tab w 3 lenCells) (hlt : 0 < w.heap.size) (hN : w.cell? ⟨0, 4, none⟩ = some (.string ⟨#[83, 104, 101, 118, 97, 116]⟩)) (HC : Hid (∀ w : World, Tab w 2 kevCells → Tab w 3 lenCells → Calls Tryz.prog 29 #[.int .i64 y, .agg #[.int .i64 5, .bool false]] w fun e w' => e = .returned (.tuple #[.int .i64 (v), .int .i64 (0)]) ∧ Below w.heap.size w w')) (HL : Hid (∀ w : World, Calls Tryz.prog 30 #[.int .i64 y] w fun e w' => e = .returned (.tuple #[.bool lp, .int .i64 0]) ∧ w = w')) :
    Calls Tryz.prog 9 #[.int .i64 y, .agg #[.int .i64 5, .bool false]] w fun e w' => e = .returned (.tuple #[.string ⟨#[83, 104, 101, 118, 97, 116]⟩, .int .i64 (0)]) ∧ Below w.heap.size w w' := by
  go_enter Tryz.func9, Tryz.ntmps9
  go_wp2_with fail
  refine (HC.out _ (Tab.below hT (by repeat (first | exact Below.refl _ _ | assumption | (with_reducible refine bdrew ?_) | (with_reducible refine baa ?_ _) | (with_reducible refine bs ?_ (by first | exact Nat.le_refl _ | omega | (simp; done) | (simp; omega)) _) | (with_reducible refine bt ?_ (by assumption))))) (Tab.below hL (by repeat (first | exact Below.refl _ _ | assumption | (with_reducible refine bdrew ?_) | (with_reducible refine baa ?_ _) | (with_reducible refine bs ?_ (by first | exact Nat.le_refl _ | omega | (simp; done) | (simp; omega)) _) | (with_reducible refine bt ?_ (by assumption)))))).mono ?_
  rintro e w1 ⟨rfl, hb1⟩
  obtain ⟨hc1, hf1⟩ := bcell hb1
  have hz1 := hb1.size
  try simp at hz1
  have hs1x0 : w.heap.size < w1.heap.size := by omega
  have hs1x1 : 0 < w1.heap.size := by omega
  have g1x0 : w1.cell? ⟨w.heap.size, 0, none⟩ = some (.int .i64 5) := (hc1 _ _ (by first | omega | (simp; done) | (simp; omega))).trans (by first | (with_reducible assumption) | (simp [go_sem]; done) | (simp [go_sem, *]; done) | assumption)
  have g1x1 : w1.cell? ⟨w.heap.size, 1, none⟩ = some (.bool false) := (hc1 _ _ (by first | omega | (simp; done) | (simp; omega))).trans (by first | (with_reducible assumption) | (simp [go_sem]; done) | (simp [go_sem, *]; done) | assumption)
  have g1x2 : w1.cell? ⟨0, 4, none⟩ = some (.string ⟨#[83, 104, 101, 118, 97, 116]⟩) := (hc1 _ _ (by first | omega | (simp; done) | (simp; omega))).trans (by first | (with_reducible assumption) | (simp [go_sem]; done) | (simp [go_sem, *]; done) | assumption)
  go_wp2_with fail
  refine (HL.out _).mono ?_
  rintro e w' ⟨rfl, rfl⟩
  go_wp2_with fail
  all_goals go_ret2
  all_goals refine ⟨rfl, ?_⟩
  all_goals repeat (first | exact Below.refl _ _ | assumption | (with_reducible refine bdrew ?_) | (with_reducible refine baa ?_ _) | (with_reducible refine bs ?_ (by first | exact Nat.le_refl _ | omega | (simp; done) | (simp; omega)) _) | (with_reducible refine bt ?_ (by assumption)))
set_option maxHeartbeats 2000000 in
theorem name_Month_6 (y v : Int) (lp : Bool) (w : World) (hT : Tab w 2 kevCells) (hL : Tab w 3 lenCells) (hlt : 0 < w.heap.size) (hN : w.cell? ⟨0, 5, none⟩ = some (.string ⟨#[65, 100, 97, 114]⟩)) (HC : Hid (∀ w : World, Tab w 2 kevCells → Tab w 3 lenCells → Calls Tryz.prog 29 #[.int .i64 y, .agg #[.int .i64 6, .bool false]] w fun e w' => e = .returned (.tuple #[.int .i64 (v), .int .i64 (0)]) ∧ Below w.heap.size w w')) (HL : Hid (∀ w : World, Calls Tryz.prog 30 #[.int .i64 y] w fun e w' => e = .returned (.tuple #[.bool lp, .int .i64 0]) ∧ w = w')) (hlp : lp = false) :
    Calls Tryz.prog 9 #[.int .i64 y, .agg #[.int .i64 6, .bool false]] w fun e w' => e = .returned (.tuple #[.string ⟨#[65, 100, 97, 114]⟩, .int .i64 (0)]) ∧ Below w.heap.size w w' := by
  subst hlp
  go_enter Tryz.func9, Tryz.ntmps9
  go_wp2_with fail
  refine (HC.out _ (Tab.below hT (by repeat (first | exact Below.refl _ _ | assumption | (with_reducible refine bdrew ?_) | (with_reducible refine baa ?_ _) | (with_reducible refine bs ?_ (by first | exact Nat.le_refl _ | omega | (simp; done) | (simp; omega)) _) | (with_reducible refine bt ?_ (by assumption))))) (Tab.below hL (by repeat (first | exact Below.refl _ _ | assumption | (with_reducible refine bdrew ?_) | (with_reducible refine baa ?_ _) | (with_reducible refine bs ?_ (by first | exact Nat.le_refl _ | omega | (simp; done) | (simp; omega)) _) | (with_reducible refine bt ?_ (by assumption)))))).mono ?_
  rintro e w1 ⟨rfl, hb1⟩
  obtain ⟨hc1, hf1⟩ := bcell hb1
  have hz1 := hb1.size
  try simp at hz1
  have hs1x0 : w.heap.size < w1.heap.size := by omega
  have hs1x1 : 0 < w1.heap.size := by omega
  have g1x0 : w1.cell? ⟨w.heap.size, 0, none⟩ = some (.int .i64 6) := (hc1 _ _ (by first | omega | (simp; done) | (simp; omega))).trans (by first | (with_reducible assumption) | (simp [go_sem]; done) | (simp [go_sem, *]; done) | assumption)
  have g1x1 : w1.cell? ⟨w.heap.size, 1, none⟩ = some (.bool false) := (hc1 _ _ (by first | omega | (simp; done) | (simp; omega))).trans (by first | (with_reducible assumption) | (simp [go_sem]; done) | (simp [go_sem, *]; done) | assumption)
  have g1x2 : w1.cell? ⟨0, 5, none⟩ = some (.string ⟨#[65, 100, 97, 114]⟩) := (hc1 _ _ (by first | omega | (simp; done) | (simp; omega))).trans (by first | (with_reducible assumption) | (simp [go_sem]; done) | (simp [go_sem, *]; done) | assumption)
  go_wp2_with fail
  refine (HL.out _).mono ?_
  rintro e w' ⟨rfl, rfl⟩
  go_wp2_with fail
  all_goals go_ret2
  all_goals refine ⟨rfl, ?_⟩
  all_goals repeat (first | exact Below.refl _ _ | assumption | (with_reducible refine bdrew ?_) | (with_reducible refine baa ?_ _) | (with_reducible refine bs ?_ (by first | exact Nat.le_refl _ | omega | (simp; done) | (simp; omega)) _) | (with_reducible refine bt ?_ (by assumption)))
set_option maxHeartbeats 2000000 in
theorem name_Month_7 (y v : Int) (lp : Bool) (w : World) (hT : Tab w 2 kevCells) (hL : Tab w 3 lenCells) (hlt : 0 < w.heap.size) (hN : w.cell? ⟨0, 6, none⟩ = some (.string ⟨#[78, 105, 115, 97, 110]⟩)) (HC : Hid (∀ w : World, Tab w 2 kevCells → Tab w 3 lenCells → Calls Tryz.prog 29 #[.int .i64 y, .agg #[.int .i64 7, .bool false]] w fun e w' => e = .returned (.tuple #[.int .i64 (v), .int .i64 (0)]) ∧ Below w.heap.size w w')) (HL : Hid (∀ w : World, Calls Tryz.prog 30 #[.int .i64 y] w fun e w' => e = .returned (.tuple #[.bool lp, .int .i64 0]) ∧ w = w')) :
    Calls Tryz.prog 9 #[.int .i64 y, .agg #[.int .i64 7, .bool false]] w fun e w' => e = .returned (.tuple #[.string ⟨#[78, 105, 115, 97, 110]⟩, .int .i64 (0)]) ∧ Below w.heap.size w w' := by
  go_enter Tryz.func9, Tryz.ntmps9
  go_wp2_with fail
  refine (HC.out _ (Tab.below hT (by repeat (first | exact Below.refl _ _ | assumption | (with_reducible refine bdrew ?_) | (with_reducible refine baa ?_ _) | (with_reducible refine bs ?_ (by first | exact Nat.le_refl _ | omega | (simp; done) | (simp; omega)) _) | (with_reducible refine bt ?_ (by assumption))))) (Tab.below hL (by repeat (first | exact Below.refl _ _ | assumption | (with_reducible refine bdrew ?_) | (with_reducible refine baa ?_ _) | (with_reducible refine bs ?_ (by first | exact Nat.le_refl _ | omega | (simp; done) | (simp; omega)) _) | (with_reducible refine bt ?_ (by assumption)))))).mono ?_
  rintro e w1 ⟨rfl, hb1⟩
  obtain ⟨hc1, hf1⟩ := bcell hb1
  have hz1 := hb1.size
  try simp at hz1
  have hs1x0 : w.heap.size < w1.heap.size := by omega
  have hs1x1 : 0 < w1.heap.size := by omega
  have g1x0 : w1.cell? ⟨w.heap.size, 0, none⟩ = some (.int .i64 7) := (hc1 _ _ (by first | omega | (simp; done) | (simp; omega))).trans (by first | (with_reducible assumption) | (simp [go_sem]; done) | (simp [go_sem, *]; done) | assumption)
  have g1x1 : w1.cell? ⟨w.heap.size, 1, none⟩ = some (.bool false) := (hc1 _ _ (by first | omega | (simp; done) | (simp; omega))).trans (by first | (with_reducible assumption) | (simp [go_sem]; done) | (simp [go_sem, *]; done) | assumption)
  have g1x2 : w1.cell? ⟨0, 6, none⟩ = some (.string ⟨#[78, 105, 115, 97, 110]⟩) := (hc1 _ _ (by first | omega | (simp; done) | (simp; omega))).trans (by first | (with_reducible assumption) | (simp [go_sem]; done) | (simp [go_sem, *]; done) | assumption)
  go_wp2_with fail
  refine (HL.out _).mono ?_
  rintro e w' ⟨rfl, rfl⟩
  go_wp2_with fail
  all_goals go_ret2
  all_goals refine ⟨rfl, ?_⟩
  all_goals repeat (first | exact Below.refl _ _ | assumption | (with_reducible refine bdrew ?_) | (with_reducible refine baa ?_ _) | (with_reducible refine bs ?_ (by first | exact Nat.le_refl _ | omega | (simp; done) | (simp; omega)) _) | (with_reducible refine bt ?_ (by assumption)))
set_option maxHeartbeats 2000000 in
theorem name_Month_8 (y v : Int) (lp : Bool) (w : World) (hT : Tab w 2 kevCells) (hL : Tab w 3 lenCells) (hlt : 0 < w.heap.size) (hN : w.cell? ⟨0, 7, none⟩ = some (.string ⟨#[73, 121, 97, 114]⟩)) (HC : Hid (∀ w : World, Tab w 2 kevCells → Tab w 3 lenCells → Calls Tryz.prog 29 #[.int .i64 y, .agg #[.int .i64 8, .bool false]] w fun e w' => e = .returned (.tuple #[.int .i64 (v), .int .i64 (0)]) ∧ Below w.heap.size w w')) (HL : Hid (∀ w : World, Calls Tryz.prog 30 #[.int .i64 y] w fun e w' => e = .returned (.tuple #[.bool lp, .int .i64 0]) ∧ w = w')) :
    Calls Tryz.prog 9 #[.int .i64 y, .agg #[.int .i64 8, .bool false]] w fun e w' => e = .returned (.tuple #[.string ⟨#[73, 121, 97, 114]⟩, .int .i64 (0)]) ∧ Below w.heap.size w w' := by
  go_enter Tryz.func9, Tryz.ntmps9
  go_wp2_with fail
  refine (HC.out _ (Tab.below hT (by repeat (first | exact Below.refl _ _ | assumption | (with_reducible refine bdrew ?_) | (with_reducible refine baa ?_ _) | (with_reducible refine bs ?_ (by first | exact Nat.le_refl _ | omega | (simp; done) | (simp; omega)) _) | (with_reducible refine bt ?_ (by assumption))))) (Tab.below hL (by repeat (first | exact Below.refl _ _ | assumption | (with_reducible refine bdrew ?_) | (with_reducible refine baa ?_ _) | (with_reducible refine bs ?_ (by first | exact Nat.le_refl _ | omega | (simp; done) | (simp; omega)) _) | (with_reducible refine bt ?_ (by assumption)))))).mono ?_
  rintro e w1 ⟨rfl, hb1⟩
  obtain ⟨hc1, hf1⟩ := bcell hb1
  have hz1 := hb1.size
  try simp at hz1
  have hs1x0 : w.heap.size < w1.heap.size := by omega
  have hs1x1 : 0 < w1.heap.size := by omega
  have g1x0 : w1.cell? ⟨w.heap.size, 0, none⟩ = some (.int .i64 8) := (hc1 _ _ (by first | omega | (simp; done) | (simp; omega))).trans (by first | (with_reducible assumption) | (simp [go_sem]; done) | (simp [go_sem, *]; done) | assumption)
  have g1x1 : w1.cell? ⟨w.heap.size, 1, none⟩ = some (.bool false) := (hc1 _ _ (by first | omega | (simp; done) | (simp; omega))).trans (by first | (with_reducible assumption) | (simp [go_sem]; done) | (simp [go_sem, *]; done) | assumption)
  have g1x2 : w1.cell? ⟨0, 7, none⟩ = some (.string ⟨#[73, 121, 97, 114]⟩) := (hc1 _ _ (by first | omega | (simp; done) | (simp; omega))).trans (by first | (with_reducible assumption) | (simp [go_sem]; done) | (simp [go_sem, *]; done) | assumption)
  go_wp2_with fail
  refine (HL.out _).mono ?_
  rintro e w' ⟨rfl, rfl⟩
  go_wp2_with fail
  all_goals go_ret2
  all_goals refine ⟨rfl, ?_⟩
  all_goals repeat (first | exact Below.refl _ _ | assumption | (with_reducible refine bdrew ?_) | (with_reducible refine baa ?_ _) | (with_reducible refine bs ?_ (by first | exact Nat.le_refl _ | omega | (simp; done) | (simp; omega)) _) | (with_reducible refine bt ?_ (by assumption)))
set_option maxHeartbeats 2000000 in
theorem name_Month_9 (y v : Int) (lp : Bool) (w : World) (hT : Tab w 2 kevCells) (hL : Tab w 3 lenCells) (hlt : 0 < w.heap.size) (hN : w.cell? ⟨0, 8, none⟩ = some (.string ⟨#[83, 105, 118, 97, 110]⟩)) (HC : Hid (∀ w : World, Tab w 2 kevCells → Tab w 3 lenCells → Calls Tryz.prog 29 #[.int .i64 y, .agg #[.int .i64 9, .bool false]] w fun e w' => e = .returned (.tuple #[.int .i64 (v), .int .i64 (0)]) ∧ Below w.heap.size w w')) (HL : Hid (∀ w : World, Calls Tryz.prog 30 #[.int .i64 y] w fun e w' => e = .returned (.tuple #[.bool lp, .int .i64 0]) ∧ w = w')) :
    Calls Tryz.prog 9 #[.int .i64 y, .agg #[.int .i64 9, .bool false]] w fun e w' => e = .returned (.tuple #[.string ⟨#[83, 105, 118, 97, 110]⟩, .int .i64 (0)]) ∧ Below w.heap.size w w' := by
  go_enter Tryz.func9, Tryz.ntmps9
  go_wp2_with fail
  refine (HC.out _ (Tab.below hT (by repeat (first | exact Below.refl _ _ | assumption | (with_reducible refine bdrew ?_) | (with_reducible refine baa ?_ _) | (with_reducible refine bs ?_ (by first | exact Nat.le_refl _ | omega | (simp; done) | (simp; omega)) _) | (with_reducible refine bt ?_ (by assumption))))) (Tab.below hL (by repeat (first | exact Below.refl _ _ | assumption | (with_reducible refine bdrew ?_) | (with_reducible refine baa ?_ _) | (with_reducible refine bs ?_ (by first | exact Nat.le_refl _ | omega | (simp; done) | (simp; omega)) _) | (with_reducible refine bt ?_ (by assumption)))))).mono ?_
  rintro e w1 ⟨rfl, hb1⟩
  obtain ⟨hc1, hf1⟩ := bcell hb1
  have hz1 := hb1.size
  try simp at hz1
  have hs1x0 : w.heap.size < w1.heap.size := by omega
  have hs1x1 : 0 < w1.heap.size := by omega
  have g1x0 : w1.cell? ⟨w.heap.size, 0, none⟩ = some (.int .i64 9) := (hc1 _ _ (by first | omega | (simp; done) | (simp; omega))).trans (by first | (with_reducible assumption) | (simp [go_sem]; done) | (simp [go_sem, *]; done) | assumption)
  have g1x1 : w1.cell? ⟨w.heap.size, 1, none⟩ = some (.bool false) := (hc1 _ _ (by first | omega | (simp; done) | (simp; omega))).trans (by first | (with_reducible assumption) | (simp [go_sem]; done) | (simp [go_sem, *]; done) | assumption)
  have g1x2 : w1.cell? ⟨0, 8, none⟩ = some (.string ⟨#[83, 105, 118, 97, 110]⟩) := (hc1 _ _ (by first | omega | (simp; done) | (simp; omega))).trans (by first | (with_reducible assumption) | (simp [go_sem]; done) | (simp [go_sem, *]; done) | assumption)
  go_wp2_with fail
  refine (HL.out _).mono ?_
  rintro e w' ⟨rfl, rfl⟩
  go_wp2_with fail
  all_goals go_ret2
  all_goals refine ⟨rfl, ?_⟩
  all_goals repeat (first | exact Below.refl _ _ | assumption | (with_reducible refine bdrew ?_) | (with_reducible refine baa ?_ _) | (with_reducible refine bs ?_ (by first | exact Nat.le_refl _ | omega | (simp; done) | (simp; omega)) _) | (with_reducible refine bt ?_ (by assumption)))
set_option maxHeartbeats 2000000 in
theorem name_Month_10 (y v : Int) (lp : Bool) (w : World) (hT : Tab w 2 kevCells) (hL : Tab w 3 lenCells) (hlt : 0 < w.heap.size) (hN : w.cell? ⟨0, 9, none⟩ = some (.string ⟨#[84, 97, 109, 109, 117, 122]⟩)) (HC : Hid (∀ w : World, Tab w 2 kevCells → Tab w 3 lenCells → Calls Tryz.prog 29 #[.int .i64 y, .agg #[.int .i64 10, .bool false]] w fun e w' => e = .returned (.tuple #[.int .i64 (v), .int .i64 (0)]) ∧ Below w.heap.size w w')) (HL : Hid (∀ w : World, Calls Tryz.prog 30 #[.int .i64 y] w fun e w' => e = .returned (.tuple #[.bool lp, .int .i64 0]) ∧ w = w')) :
    Calls Tryz.prog 9 #[.int .i64 y, .agg #[.int .i64 10, .bool false]] w fun e w' => e = .returned (.tuple #[.string ⟨#[84, 97, 109, 109, 117, 122]⟩, .int .i64 (0)]) ∧ Below w.heap.size w w' := by
  go_enter Tryz.func9, Tryz.ntmps9
  go_wp2_with fail
  refine (HC.out _ (Tab.below hT (by repeat (first | exact Below.refl _ _ | assumption | (with_reducible refine bdrew ?_) | (with_reducible refine baa ?_ _) | (with_reducible refine bs ?_ (by first | exact Nat.le_refl _ | omega | (simp; done) | (simp; omega)) _) | (with_reducible refine bt ?_ (by assumption))))) (Tab.below hL (by repeat (first | exact Below.refl _ _ | assumption | (with_reducible refine bdrew ?_) | (with_reducible refine baa ?_ _) | (with_reducible refine bs ?_ (by first | exact Nat.le_refl _ | omega | (simp; done) | (simp; omega)) _) | (with_reducible refine bt ?_ (by assumption)))))).mono ?_
  rintro e w1 ⟨rfl, hb1⟩
  obtain ⟨hc1, hf1⟩ := bcell hb1
  have hz1 := hb1.size
  try simp at hz1
  have hs1x0 : w.heap.size < w1.heap.size := by omega
  have hs1x1 : 0 < w1.heap.size := by omega
  have g1x0 : w1.cell? ⟨w.heap.size, 0, none⟩ = some (.int .i64 10) := (hc1 _ _ (by first | omega | (simp; done) | (simp; omega))).trans (by first | (with_reducible assumption) | (simp [go_sem]; done) | (simp [go_sem, *]; done) | assumption)
  have g1x1 : w1.cell? ⟨w.heap.size, 1, none⟩ = some (.bool false) := (hc1 _ _ (by first | omega | (simp; done) | (simp; omega))).trans (by first | (with_reducible assumption) | (simp [go_sem]; done) | (simp [go_sem, *]; done) | assumption)
  have g1x2 : w1.cell? ⟨0, 9, none⟩ = some (.string ⟨#[84, 97, 109, 109, 117, 122]⟩) := (hc1 _ _ (by first | omega | (simp; done) | (simp; omega))).trans (by first | (with_reducible assumption) | (simp [go_sem]; done) | (simp [go_sem, *]; done) | assumption)
  go_wp2_with fail
  refine (HL.out _).mono ?_
  rintro e w' ⟨rfl, rfl⟩
  go_wp2_with fail
  all_goals go_ret2
  all_goals refine ⟨rfl, ?_⟩
  all_goals repeat (first | exact Below.refl _ _ | assumption | (with_reducible refine bdrew ?_) | (with_reducible refine baa ?_ _) | (with_reducible refine bs ?_ (by first | exact Nat.le_refl _ | omega | (simp; done) | (simp; omega)) _) | (with_reducible refine bt ?_ (by assumption)))
set_option maxHeartbeats 2000000 in
theorem name_Month_11 (y v : Int) (lp : Bool) (w : World) (hT : Tab w 2 kevCells) (hL : Tab w 3 lenCells) (hlt : 0 < w.heap.size) (hN : w.cell? ⟨0, 10, none⟩ = some (.string ⟨#[65, 118]⟩)) (HC : Hid (∀ w : World, Tab w 2 kevCells → Tab w 3 lenCells → Calls Tryz.prog 29 #[.int .i64 y, .agg #[.int .i64 11, .bool false]] w fun e w' => e = .returned (.tuple #[.int .i64 (v), .int .i64 (0)]) ∧ Below w.heap.size w w')) (HL : Hid (∀ w : World, Calls Tryz.prog 30 #[.int .i64 y] w fun e w' => e = .returned (.tuple #[.bool lp, .int .i64 0]) ∧ w = w')) :
    Calls Tryz.prog 9 #[.int .i64 y, .agg #[.int .i64 11, .bool false]] w fun e w' => e = .returned (.tuple #[.string ⟨#[65, 118]⟩, .int .i64 (0)]) ∧ Below w.heap.size w w' := by
  go_enter Tryz.func9, Tryz.ntmps9
  go_wp2_with fail
  refine (HC.out _ (Tab.below hT (by repeat (first | exact Below.refl _ _ | assumption | (with_reducible refine bdrew ?_) | (with_reducible refine baa ?_ _) | (with_reducible refine bs ?_ (by first | exact Nat.le_refl _ | omega | (simp; done) | (simp; omega)) _) | (with_reducible refine bt ?_ (by assumption))))) (Tab.below hL (by repeat (first | exact Below.refl _ _ | assumption | (with_reducible refine bdrew ?_) | (with_reducible refine baa ?_ _) | (with_reducible refine bs ?_ (by first | exact Nat.le_refl _ | omega | (simp; done) | (simp; omega)) _) | (with_reducible refine bt ?_ (by assumption)))))).mono ?_
  rintro e w1 ⟨rfl, hb1⟩
  obtain ⟨hc1, hf1⟩ := bcell hb1
  have hz1 := hb1.size
  try simp at hz1
  have hs1x0 : w.heap.size < w1.heap.size := by omega
  have hs1x1 : 0 < w1.heap.size := by omega
  have g1x0 : w1.cell? ⟨w.heap.size, 0, none⟩ = some (.int .i64 11) := (hc1 _ _ (by first | omega | (simp; done) | (simp; omega))).trans (by first | (with_reducible assumption) | (simp [go_sem]; done) | (simp [go_sem, *]; done) | assumption)
  have g1x1 : w1.cell? ⟨w.heap.size, 1, none⟩ = some (.bool false) := (hc1 _ _ (by first | omega | (simp; done) | (simp; omega))).trans (by first | (with_reducible assumption) | (simp [go_sem]; done) | (simp [go_sem, *]; done) | assumption)
  have g1x2 : w1.cell? ⟨0, 10, none⟩ = some (.string ⟨#[65, 118]⟩) := (hc1 _ _ (by first | omega | (simp; done) | (simp; omega))).trans (by first | (with_reducible assumption) | (simp [go_sem]; done) | (simp [go_sem, *]; done) | assumption)
  go_wp2_with fail
  refine (HL.out _).mono ?_
  rintro e w' ⟨rfl, rfl⟩
  go_wp2_with fail
  all_goals go_ret2
  all_goals refine ⟨rfl, ?_⟩
  all_goals repeat (first | exact Below.refl _ _ | assumption | (with_reducible refine bdrew ?_) | (with_reducible refine baa ?_ _) | (with_reducible refine bs ?_ (by first | exact Nat.le_refl _ | omega | (simp; done) | (simp; omega)) _) | (with_reducible refine bt ?_ (by assumption)))
set_option maxHeartbeats 2000000 in
theorem name_Month_12 (y v : Int) (lp : Bool) (w : World) (hT : Tab w 2 kevCells) (hL : Tab w 3 lenCells) (hlt : 0 < w.heap.size) (hN : w.cell? ⟨0, 11, none⟩ = some (.string ⟨#[69, 108, 117, 108]⟩)) (HC : Hid (∀ w : World, Tab w 2 kevCells → Tab w 3 lenCells → Calls Tryz.prog 29 #[.int .i64 y, .agg #[.int .i64 12, .bool false]] w fun e w' => e = .returned (.tuple #[.int .i64 (v), .int .i64 (0)]) ∧ Below w.heap.size w w')) (HL : Hid (∀ w : World, Calls Tryz.prog 30 #[.int .i64 y] w fun e w' => e = .returned (.tuple #[.bool lp, .int .i64 0]) ∧ w = w')) :
    Calls Tryz.prog 9 #[.int .i64 y, .agg #[.int .i64 12, .bool false]] w fun e w' => e = .returned (.tuple #[.string ⟨#[69, 108, 117, 108]⟩, .int .i64 (0)]) ∧ Below w.heap.size w w' := by
  go_enter Tryz.func9, Tryz.ntmps9
  go_wp2_with fail
  refine (HC.out _ (Tab.below hT (by repeat (first | exact Below.refl _ _ | assumption | (with_reducible refine bdrew ?_) | (with_reducible refine baa ?_ _) | (with_reducible refine bs ?_ (by first | exact Nat.le_refl _ | omega | (simp; done) | (simp; omega)) _) | (with_reducible refine bt ?_ (by assumption))))) (Tab.below hL (by repeat (first | exact Below.refl _ _ | assumption | (with_reducible refine bdrew ?_) | (with_reducible refine baa ?_ _) | (with_reducible refine bs ?_ (by first | exact Nat.le_refl _ | omega | (simp; done) | (simp; omega)) _) | (with_reducible refine bt ?_ (by assumption)))))).mono ?_
  rintro e w1 ⟨rfl, hb1⟩
  obtain ⟨hc1, hf1⟩ := bcell hb1
  have hz1 := hb1.size
  try simp at hz1
  have hs1x0 : w.heap.size < w1.heap.size := by omega
  have hs1x1 : 0 < w1.heap.size := by omega
  have g1x0 : w1.cell? ⟨w.heap.size, 0, none⟩ = some (.int .i64 12) := (hc1 _ _ (by first | omega | (simp; done) | (simp; omega))).trans (by first | (with_reducible assumption) | (simp [go_sem]; done) | (simp [go_sem, *]; done) | assumption)
  have g1x1 : w1.cell? ⟨w.heap.size, 1, none⟩ = some (.bool false) := (hc1 _ _ (by first | omega | (simp; done) | (simp; omega))).trans (by first | (with_reducible assumption) | (simp [go_sem]; done) | (simp [go_sem, *]; done) | assumption)
  have g1x2 : w1.cell? ⟨0, 11, none⟩ = some (.string ⟨#[69, 108, 117, 108]⟩) := (hc1 _ _ (by first | omega | (simp; done) | (simp; omega))).trans (by first | (with_reducible assumption) | (simp [go_sem]; done) | (simp [go_sem, *]; done) | assumption)
  go_wp2_with fail
  refine (HL.out _).mono ?_
  rintro e w' ⟨rfl, rfl⟩
  go_wp2_with fail
  all_goals go_ret2
  all_goals refine ⟨rfl, ?_⟩
  all_goals repeat (first | exact Below.refl _ _ | assumption | (with_reducible refine bdrew ?_) | (with_reducible refine baa ?_ _) | (with_reducible refine bs ?_ (by first | exact Nat.le_refl _ | omega | (simp; done) | (simp; omega)) _) | (with_reducible refine bt ?_ (by assumption)))
def nameV (y n : Int) (l : Bool) : ByteArray := if l then ⟨#[65, 100, 97, 114, 32, 73]⟩ else if Cal.leap y && decide (n = 6) then ⟨#[65, 100, 97, 114, 32, 73, 73]⟩ else ([⟨#[84, 105, 115, 104, 114, 105]⟩, ⟨#[72, 101, 115, 104, 118, 97, 110]⟩, ⟨#[75, 105, 115, 108, 101, 118]⟩, ⟨#[84, 101, 118, 101, 116]⟩, ⟨#[83, 104, 101, 118, 97, 116]⟩, ⟨#[65, 100, 97, 114]⟩, ⟨#[78, 105, 115, 97, 110]⟩, ⟨#[73, 121, 97, 114]⟩, ⟨#[83, 105, 118, 97, 110]⟩, ⟨#[84, 97, 109, 109, 117, 122]⟩, ⟨#[65, 118]⟩, ⟨#[69, 108, 117, 108]⟩].getD (n - 1).toNat ByteArray.empty)
theorem name_Month (y n : Int) (l : Bool) (w : World) (hy : I64 y) (hT : Tab w 2 kevCells) (hL : Tab w 3 lenCells) (hN : Tab w 0 nameCells) :
    Calls Tryz.prog 9 #[.int .i64 y, .agg #[.int .i64 n, .bool l]] w fun e w' => e = .returned (.tuple #[.string (if D10.lastE y n l = 0 then nameV y n l else ⟨#[]⟩), .int .i64 (D10.lastE y n l)]) ∧ Below w.heap.size w w' := by
  have HC := Lib.hid (fun w hT hL => heb_Last y n l w hy hT hL)
  by_cases c : D10.lastE y n l = 0
  · obtain ⟨y1, y2, hp, _⟩ := D10.last_date c
    rw [c] at HC
    rw [c, if_pos rfl]
    have HL := Lib.hid (fun w => cycle_Leap_ok y w (by omega) (by omega))
    cases l
    · have hr : 1 ≤ n ∧ n ≤ 12 := by
        simp [Cal.plOk, Cal.right] at hp; omega
      have hlt := hN.lt
      have hn : n = 1 ∨ n = 2 ∨ n = 3 ∨ n = 4 ∨ n = 5 ∨ n = 6 ∨ n = 7 ∨ n = 8 ∨ n = 9 ∨ n = 10 ∨ n = 11 ∨ n = 12 := by omega
      rcases hn with rfl | rfl | rfl | rfl | rfl | rfl | rfl | rfl | rfl | rfl | rfl | rfl
      · rw [show nameV y 1 false = ⟨#[84, 105, 115, 104, 114, 105]⟩ by simp [nameV]]
        exact name_Month_1 y _ _ w hT hL hlt (hN.cell 0) HC HL
      · rw [show nameV y 2 false = ⟨#[72, 101, 115, 104, 118, 97, 110]⟩ by simp [nameV]]
        exact name_Month_2 y _ _ w hT hL hlt (hN.cell 1) HC HL
      · rw [show nameV y 3 false = ⟨#[75, 105, 115, 108, 101, 118]⟩ by simp [nameV]]
        exact name_Month_3 y _ _ w hT hL hlt (hN.cell 2) HC HL
      · rw [show nameV y 4 false = ⟨#[84, 101, 118, 101, 116]⟩ by simp [nameV]]
        exact name_Month_4 y _ _ w hT hL hlt (hN.cell 3) HC HL
      · rw [show nameV y 5 false = ⟨#[83, 104, 101, 118, 97, 116]⟩ by simp [nameV]]
        exact name_Month_5 y _ _ w hT hL hlt (hN.cell 4) HC HL
      · cases hl : Cal.leap y
        · rw [show nameV y 6 false = ⟨#[65, 100, 97, 114]⟩ by simp [nameV, hl]]
          rw [hl] at HL
          exact name_Month_6 y _ false w hT hL hlt (hN.cell 5) HC HL rfl
        · rw [show nameV y 6 false = ⟨#[65, 100, 97, 114, 32, 73, 73]⟩ by simp [nameV, hl]]
          rw [hl] at HL
          exact name_Month_II y _ w hT hL HC HL
      · rw [show nameV y 7 false = ⟨#[78, 105, 115, 97, 110]⟩ by simp [nameV]]
        exact name_Month_7 y _ _ w hT hL hlt (hN.cell 6) HC HL
      · rw [show nameV y 8 false = ⟨#[73, 121, 97, 114]⟩ by simp [nameV]]
        exact name_Month_8 y _ _ w hT hL hlt (hN.cell 7) HC HL
      · rw [show nameV y 9 false = ⟨#[83, 105, 118, 97, 110]⟩ by simp [nameV]]
        exact name_Month_9 y _ _ w hT hL hlt (hN.cell 8) HC HL
      · rw [show nameV y 10 false = ⟨#[84, 97, 109, 109, 117, 122]⟩ by simp [nameV]]
        exact name_Month_10 y _ _ w hT hL hlt (hN.cell 9) HC HL
      · rw [show nameV y 11 false = ⟨#[65, 118]⟩ by simp [nameV]]
        exact name_Month_11 y _ _ w hT hL hlt (hN.cell 10) HC HL
      · rw [show nameV y 12 false = ⟨#[69, 108, 117, 108]⟩ by simp [nameV]]
        exact name_Month_12 y _ _ w hT hL hlt (hN.cell 11) HC HL
    · exact name_Month_I y n _ w hT hL HC
  · rw [if_neg c]
    exact name_Month_err y n l _ _ w hT hL HC (by simpa using c)
end Go.Proofs.YtagmdglmflcegaaGreatDoor
