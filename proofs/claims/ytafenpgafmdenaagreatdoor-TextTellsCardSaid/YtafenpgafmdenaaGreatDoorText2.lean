/- Layer 13: numbers of texts, and a text's parts. -/
import Derived.Test.YtafenpgafmdenaaGreatDoorLib
import Derived.Test.YtafenpgafmdenaaGreatDoorNum
import Derived.Test.YtafenpgafmdenaaGreatDoorText
import Derived.Test.YtafenpgafmdenaaGreatDoorFlat
import Derived.LoopTactic
import Derived.RegionTactic
import Derived.Outline
namespace Go.Proofs.YtafenpgafmdenaaGreatDoor
open Go.ChangeShapes Go.WideShapes Go.ChangeAt Go.RowKit
set_option linter.unusedVariables false
set_option maxRecDepth 100000
set_option maxHeartbeats 4000000 in
theorem text_number_no (s : ByteArray) (M : Int) (w : World) (hs : s.size ≤ 9223372036854775807) (h : ((s.size : Int) != M) = true) :
    Calls Tryz.prog 47 #[.string s, .int .i64 M] w fun e w' => e = .returned (.tuple #[.int .i64 0, .bool false]) ∧ w = w' := by
  go_enter Tryz.func47, Tryz.ntmps47
  go_wp2_with fail
  go_ret2
  exact ⟨rfl, rfl⟩
set_option maxHeartbeats 4000000 in
theorem text_number_go (s : ByteArray) (w : World) (hs : s.size ≤ 4) :
    Calls Tryz.prog 47 #[.string s, .int .i64 s.size] w fun e w' => e = .returned (.tuple #[.int .i64 (numVal s.data.toList s.size), .bool (numOk s.data.toList s.size)]) ∧ w = w' := by
  have hlen : s.data.toList.length = s.size := by simp
  have HOk := Lib.hid (show numOk s.data.toList s.size = s.data.toList.all isDig by unfold numOk; rw [hlen]; simp)
  have HV := Lib.hid (show numVal s.data.toList s.size = if s.data.toList.all isDig then numFold s.data.toList else 0 by unfold numVal; rw [HOk.out])
  generalize hvv : numVal s.data.toList s.size = vv at HV
  generalize hoo : numOk s.data.toList s.size = oo at HOk
  clear hlen hvv hoo
  go_enter Tryz.func47, Tryz.ntmps47
  go_wp2_with fail
  go_loop [6, 13] (fun n i => ∃ k : Nat, k ≤ s.size ∧ i = .int .i64 k ∧ n = .int .i64 (numFold (s.data.toList.take k)) ∧ Hid ((s.data.toList.take k).all isDig = true)) (fun _ i => s.size - (intOf i).toNat)
  case atStart => exact ⟨0, Nat.zero_le _, rfl, rfl, Lib.hid rfl⟩
  case round =>
    obtain ⟨k, hk, rfl, rfl, hA⟩ := hrel
    have hbd := numFold_bd _ hA.out
    have hlt4 : (s.data.toList.take k).length ≤ k := List.length_take_le _ _
    by_cases hlt : k < s.size
    · have hpow : (10 : Int) ^ (s.data.toList.take k).length ≤ 1000 := by
        rcases (show (s.data.toList.take k).length = 0 ∨ (s.data.toList.take k).length = 1 ∨ (s.data.toList.take k).length = 2 ∨ (s.data.toList.take k).length = 3 by omega) with h | h | h | h <;> rw [h] <;> decide
      have hF0 := hbd.1
      have hF1 : numFold (s.data.toList.take k) < 1000 := by omega
      have hsn := numFold_snoc (s.data.toList.take k) s[k]
      rw [← take_snoc' s k hlt] at hsn
      have hall : isDig s[k] = true → (s.data.toList.take (k + 1)).all isDig = true := fun h => by rw [take_snoc' s k hlt, List.all_append, hA.out]; simpa using h
      have hno := all_take s k hlt
      have HS := Lib.hid (And.intro hsn (And.intro hall hno))
      clear hsn hall hno hbd hpow hlt4
      by_cases h48 : 48 ≤ (s[k].toNat : Int)
      · by_cases h57 : (s[k].toNat : Int) ≤ 57
        · have hdig : isDig s[k] = true := by unfold isDig; simp; omega
          have HD := Lib.hid hdig
          clear hdig
          go_wp2_with fail
          go_round
          case rel => exact ⟨k + 1, by omega, by go_num, by rw [HS.out.1], Lib.hid (HS.out.2.1 HD.out)⟩
          case measure => simp [intOf]; omega
        · have hf : isDig s[k] = false := by unfold isDig; simp; omega
          have e := HS.out.2.2 hf
          have ev : vv = 0 := by rw [HV.out, e]; rfl
          have eo : oo = false := by rw [HOk.out, e]
          clear e hf
          subst ev
          subst eo
          go_wp2_with fail
          go_ret2
          exact ⟨rfl, rfl⟩
      · have hf : isDig s[k] = false := by unfold isDig; simp; omega
        have e := HS.out.2.2 hf
        have ev : vv = 0 := by rw [HV.out, e]; rfl
        have eo : oo = false := by rw [HOk.out, e]
        clear e hf
        subst ev
        subst eo
        go_wp2_with fail
        go_ret2
        exact ⟨rfl, rfl⟩
    · obtain rfl : k = s.size := by omega
      have ht : s.data.toList.take s.size = s.data.toList := List.take_of_length_le (by simp)
      rw [ht] at hA hbd ⊢
      have ev : vv = numFold s.data.toList := by rw [HV.out, hA.out]; rfl
      have eo : oo = true := by rw [HOk.out, hA.out]
      clear ht hbd hlt4
      subst ev
      subst eo
      go_wp2_with fail
      go_ret2
      exact ⟨rfl, rfl⟩
theorem text_number (s : ByteArray) (M : Nat) (w : World) (hM : M ≤ 4) (hs : s.size ≤ 9223372036854775807) :
    Calls Tryz.prog 47 #[.string s, .int .i64 M] w fun e w' => e = .returned (.tuple #[.int .i64 (numVal s.data.toList M), .bool (numOk s.data.toList M)]) ∧ w = w' := by
  by_cases h : s.size = M
  · subst h; exact text_number_go s w hM
  · have hl : ¬ s.data.toList.length = M := by simpa using h
    have e : numOk s.data.toList M = false := by unfold numOk; rw [decide_eq_false hl]; rfl
    rw [show numVal s.data.toList M = 0 by unfold numVal; rw [e]; rfl, e]
    exact text_number_no s M w hs (by simp; omega)
/-- A text, cut at its last dash. -/
def cutA (s : ByteArray) : ByteArray := if Go.Lib.lastIndexByte s 45 < 0 then ByteArray.empty else s.extract 0 (Go.Lib.lastIndexByte s 45).toNat
def cutB (s : ByteArray) : ByteArray := if Go.Lib.lastIndexByte s 45 < 0 then s else s.extract ((Go.Lib.lastIndexByte s 45).toNat + 1) s.size
set_option maxHeartbeats 2000000 in
theorem text_cutLast (s : ByteArray) (w : World) (hs : s.size ≤ 1000000) :
    Calls Tryz.prog 97 #[.string s] w fun e w' => e = .returned (.tuple #[.string (cutA s), .string (cutB s)]) ∧ Below w.heap.size w w' := by
  have HL := Lib.hid (fun w => Tryz.strings_LastIndex_one s ⟨#[45]⟩ rfl (by omega) w)
  by_cases h : Go.Lib.lastIndexByte s 45 < 0
  · unfold cutA cutB
    rw [if_pos h, if_pos h]
    have HL1 : ∀ w : World, Calls Tryz.prog 61 #[.string s, .string ⟨#[45]⟩] w (fun e w' => e = .returned (.int .i64 (Go.Lib.lastIndexByte s 45)) ∧ w' = w) := fun w => HL.out w
    have HL2 := Lib.hid HL1
    clear HL1
    clear HL
    generalize Go.Lib.lastIndexByte s 45 = i at *
    go_enter Tryz.func97, Tryz.ntmps97
    go_wp2_with fail
    refine (HL2.out _).mono ?_
    rintro e w' ⟨rfl, rfl⟩
    go_wp2_with fail
    go_ret2
    exact ⟨rfl, Below.refl _ _⟩
  · unfold cutA cutB
    rw [if_neg h, if_neg h]
    have HL1 : ∀ w : World, Calls Tryz.prog 61 #[.string s, .string ⟨#[45]⟩] w (fun e w' => e = .returned (.int .i64 (Go.Lib.lastIndexByte s 45)) ∧ w' = w) := fun w => HL.out w
    have HL2 := Lib.hid HL1
    clear HL1
    clear HL
    have hb : ∃ k : Nat, k < s.size ∧ Go.Lib.lastIndexByte s 45 = (k : Int) := by
      rcases Go.Lib.lastIndexByte_spec s 45 with ⟨e, _⟩ | ⟨i, hi, e, _⟩
      · rw [e] at h; omega
      · exact ⟨i, hi, e⟩
    obtain ⟨k, hk, e⟩ := hb
    rw [e] at HL2 ⊢
    have k0 : (0 : Int) ≤ (k : Int) := by omega
    have k1 : (k : Int) < (s.size : Int) := by omega
    have k2 : (k : Int) + 1 ≤ (s.size : Int) := by omega
    clear e h
    rw [Int.toNat_natCast]
    go_enter Tryz.func97, Tryz.ntmps97
    go_wp2_with fail
    refine (HL2.out _).mono ?_
    rintro e w' ⟨rfl, rfl⟩
    go_wp2_with fail
    go_region
    all_goals go_wp2_with fail
    all_goals go_ret2
    all_goals exact ⟨rfl, bdrew (Below.refl _ _)⟩
theorem cutA_size (s : ByteArray) : (cutA s).size ≤ s.size := by
  unfold cutA
  split
  · exact Nat.zero_le _
  · simp; omega
set_option maxHeartbeats 2000000 in
theorem text_part (s : ByteArray) (w : World) (hs : s.size ≤ 1000000) :
    Calls Tryz.prog 46 #[.string s] w fun e w' => e = .returned (.tuple #[.string (cutA (cutA s)), .string (cutB (cutA s)), .string (cutB s)]) ∧ Below w.heap.size w w' := by
  have h2 := cutA_size s
  have H1 := Lib.hid (fun w => text_cutLast s w hs)
  have H2 := Lib.hid (fun w => text_cutLast (cutA s) w (by omega))
  clear h2
  generalize cutA (cutA s) = x at *
  generalize cutB (cutA s) = y at *
  generalize cutA s = a at *
  generalize cutB s = b at *
  go_enter Tryz.func46, Tryz.ntmps46
  go_wp2_with fail
  refine (H1.out _).mono ?_
  rintro e w1 ⟨rfl, hb1⟩
  obtain ⟨hc1, hf1⟩ := bcell hb1
  have hz1 := hb1.size
  try simp at hz1
  go_wp2_with fail
  refine (H2.out _).mono ?_
  rintro e w2 ⟨rfl, hb2⟩
  obtain ⟨hc2, hf2⟩ := bcell hb2
  have hz2 := hb2.size
  try simp at hz2
  go_wp2_with fail
  go_ret3
  refine ⟨rfl, ?_⟩
  repeat (first | (with_reducible exact Below.refl _ _) | (with_reducible assumption) | (with_reducible refine bdrew ?_) | (with_reducible refine baa ?_ _) | (with_reducible refine bs ?_ (by first | exact Nat.le_refl _ | omega | (simp; done) | (simp; omega)) _) | (with_reducible refine bt ?_ (by with_reducible assumption)))
end Go.Proofs.YtafenpgafmdenaaGreatDoor
