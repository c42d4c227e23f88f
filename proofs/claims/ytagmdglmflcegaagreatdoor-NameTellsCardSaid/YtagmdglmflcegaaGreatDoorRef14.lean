/- Layer 14: the document's digits and numbers. -/
import Derived.Test.YtagmdglmflcegaaGreatDoorByt
import Derived.Test.YtagmdglmflcegaaGreatDoorName2
import Derived.Test.YtagmdglmflcegaaGreatDoorA14
import Derived.LoopTactic
import Derived.Outline
namespace Go.Proofs.YtagmdglmflcegaaGreatDoor
open Go.ChangeShapes Go.WideShapes Go.ChangeAt Go.RowKit
set_option linter.unusedVariables false
set_option maxRecDepth 100000
set_option maxHeartbeats 4000000 in
theorem ref14_number_0 (s : ByteArray) (M : Int) (w : World) (hs : s.size ≤ 9223372036854775807) (h : ((s.size : Int) == 0) = true) :
    Calls Tryz.prog 42 #[.string s, .int .i64 M] w fun e w' => e = .returned (.tuple #[.int .i64 0, .bool false]) ∧ w = w' := by
  go_enter Tryz.func42, Tryz.ntmps42
  go_wp2_with fail
  go_ret2
  exact ⟨rfl, rfl⟩
set_option maxHeartbeats 4000000 in
theorem ref14_number_1 (s : ByteArray) (M : Int) (w : World) (hs : s.size ≤ 9223372036854775807) (h0 : ((s.size : Int) == 0) = false) (h : M < (s.size : Int)) :
    Calls Tryz.prog 42 #[.string s, .int .i64 M] w fun e w' => e = .returned (.tuple #[.int .i64 0, .bool false]) ∧ w = w' := by
  go_enter Tryz.func42, Tryz.ntmps42
  go_wp2_with fail
  go_ret2
  exact ⟨rfl, rfl⟩
set_option maxHeartbeats 4000000 in
theorem ref14_number_2 (s : ByteArray) (M : Int) (w : World) (hs : s.size ≤ 9223372036854775807) (h0 : ((s.size : Int) == 0) = false) (h1 : ¬ M < (s.size : Int)) (hp : 0 < s.size) (h : ((s[0].toNat : Int) == 48) = true) :
    Calls Tryz.prog 42 #[.string s, .int .i64 M] w fun e w' => e = .returned (.tuple #[.int .i64 0, .bool false]) ∧ w = w' := by
  go_enter Tryz.func42, Tryz.ntmps42
  go_wp2_with fail
  go_ret2
  exact ⟨rfl, rfl⟩
set_option maxHeartbeats 4000000 in
theorem ref14_number_go (s : ByteArray) (M : Int) (w : World) (hs : s.size ≤ 4) (h0 : ((s.size : Int) == 0) = false) (h1 : ¬ M < (s.size : Int)) (hp : 0 < s.size) (h : ((s[0].toNat : Int) == 48) = false) (vv : Int) (oo : Bool) (HOk : Hid (oo = s.data.toList.all isDig)) (HV : Hid (vv = if s.data.toList.all isDig then numFold s.data.toList else 0)) :
    Calls Tryz.prog 42 #[.string s, .int .i64 M] w fun e w' => e = .returned (.tuple #[.int .i64 vv, .bool oo]) ∧ w = w' := by
  go_enter Tryz.func42, Tryz.ntmps42
  go_wp2_with fail
  go_loop [6, 7] (fun n i => ∃ k : Nat, k ≤ s.size ∧ i = .int .i64 k ∧ n = .int .i64 (numFold (s.data.toList.take k)) ∧ Hid ((s.data.toList.take k).all isDig = true)) (fun _ i => s.size - (intOf i).toNat)
  case atStart => exact ⟨0, Nat.zero_le _, rfl, rfl, Lib.hid rfl⟩
  case round =>
    obtain ⟨k, hk, rfl, rfl, hA⟩ := hrel
    have hbd := numFold_bd _ hA.out
    clear h h1 h0
    have hlt4 : (s.data.toList.take k).length ≤ k := List.length_take_le _ _
    by_cases hlt : k < s.size
    · have hpow : (10 : Int) ^ (s.data.toList.take k).length ≤ 1000 := by
        rcases (show (s.data.toList.take k).length = 0 ∨ (s.data.toList.take k).length = 1 ∨ (s.data.toList.take k).length = 2 ∨ (s.data.toList.take k).length = 3 by omega) with h | h | h | h <;> rw [h] <;> decide
      have hF0 := hbd.1
      have hF1 : numFold (s.data.toList.take k) < 1000 := by omega
      have hsn := numFold_snoc (s.data.toList.take k) s[k]
      rw [← take_snoc' s k hlt] at hsn
      have hall : isDig s[k] = true → (s.data.toList.take (k + 1)).all isDig = true := fun h => by rw [take_snoc' s k hlt, List.all_append, hA.out]; simpa using h
      have hno := all_take s k hlt
      have HS := Lib.hid (And.intro hsn (And.intro hall hno))
      clear hsn hall hno hbd hpow hlt4
      by_cases h48 : 48 ≤ (s[k].toNat : Int)
      · by_cases h57 : (s[k].toNat : Int) ≤ 57
        · have hdig : isDig s[k] = true := by unfold isDig; simp; omega
          have HD := Lib.hid hdig
          clear hdig
          go_wp2_with fail
          go_round
          case rel => exact ⟨k + 1, by omega, by go_num, by rw [HS.out.1]; exact congrArg (Value.int .i64) (by omega), Lib.hid (HS.out.2.1 HD.out)⟩
          case measure => simp [intOf]; omega
        · have hf : isDig s[k] = false := by unfold isDig; simp; omega
          have e := HS.out.2.2 hf
          have ev : vv = 0 := by rw [HV.out, e]; rfl
          have eo : oo = false := by rw [HOk.out, e]
          clear e hf
          subst ev
          subst eo
          go_wp2_with fail
          go_ret2
          exact ⟨rfl, rfl⟩
      · have hf : isDig s[k] = false := by unfold isDig; simp; omega
        have e := HS.out.2.2 hf
        have ev : vv = 0 := by rw [HV.out, e]; rfl
        have eo : oo = false := by rw [HOk.out, e]
        clear e hf
        subst ev
        subst eo
        go_wp2_with fail
        go_ret2
        exact ⟨rfl, rfl⟩
    · obtain rfl : k = s.size := by omega
      have ht : s.data.toList.take s.size = s.data.toList := List.take_of_length_le (by simp)
      rw [ht] at hA hbd ⊢
      have ev : vv = numFold s.data.toList := by rw [HV.out, hA.out]; rfl
      have eo : oo = true := by rw [HOk.out, hA.out]
      clear ht hbd hlt4
      subst ev
      subst eo
      go_wp2_with fail
      go_ret2
      exact ⟨rfl, rfl⟩
theorem ref14_number (s : ByteArray) (M : Int) (w : World) (hM : M ≤ 4) (hs : s.size ≤ 9223372036854775807) :
    Calls Tryz.prog 42 #[.string s, .int .i64 M] w fun e w' => e = .returned (.tuple #[.int .i64 (nVal s M), .bool (nOk s M)]) ∧ w = w' := by
  by_cases c0 : (s.size : Int) < 1
  · have e : nOk s M = false := by unfold nOk; rw [decide_eq_false (by omega)]; rfl
    rw [show nVal s M = 0 by unfold nVal; rw [e]; rfl, e]
    exact ref14_number_0 s M w hs (by rw [beq_iff_eq]; omega)
  · have hz : ((s.size : Int) == 0) = false := by rw [beq_eq_false_iff_ne]; omega
    by_cases c1 : M < (s.size : Int)
    · have e : nOk s M = false := by unfold nOk; rw [decide_eq_false (show ¬ (s.size : Int) ≤ M by omega)]; simp
      rw [show nVal s M = 0 by unfold nVal; rw [e]; rfl, e]
      exact ref14_number_1 s M w hs hz c1
    · have hp : 0 < s.size := by omega
      by_cases c2 : (s[0].toNat : Int) = 48
      · have e2 : s[0] = 48 := by rw [← UInt8.toNat_inj]; show s[0].toNat = 48; omega
        have e : nOk s M = false := by unfold nOk; rw [head_byte s hp, e2]; simp
        rw [show nVal s M = 0 by unfold nVal; rw [e]; rfl, e]
        exact ref14_number_2 s M w hs hz c1 hp (by simpa using c2)
      · have e2 : ¬ s[0] = 48 := fun e => c2 (by rw [e]; rfl)
        have e : nOk s M = s.data.toList.all isDig := by
          unfold nOk
          rw [head_byte s hp, decide_eq_true (show 1 ≤ (s.size : Int) by omega), decide_eq_true (show (s.size : Int) ≤ M by omega), decide_eq_true (show ¬ some s[0] = some 48 by simpa using e2)]
          rfl
        exact ref14_number_go s M w (by omega) hz c1 hp (by simpa using c2) _ _ (Lib.hid e) (Lib.hid (by unfold nVal; rw [e]))
set_option maxHeartbeats 4000000 in
theorem ref14_digits (n : Int) (h0 : 0 ≤ n) (h1 : n ≤ 9999) (w : World) :
    Calls Tryz.prog 37 #[.int .i64 n] w fun e w' => e = .returned (.string (D14.num n)) ∧ Below w.heap.size w w' := by
  have HN : Hid ((D14.num n).data.toList = Go.Lib.decDigits n.toNat) := Lib.hid (by unfold D14.num; rw [D14.itoa_dd h0])
  have hb := Lib.hid (And.intro h0 h1)
  generalize D14.num n = res at *
  clear h0 h1
  go_enter Tryz.func37, Tryz.ntmps37
  go_wp2_with fail
  go_loopw [0, 3] (fun a c wr => ∃ (x : Int) (t : List UInt8), 0 ≤ x ∧ x ≤ 9999 ∧ Hid (Go.Lib.decDigits n.toNat = Go.Lib.decDigits x.toNat ++ t) ∧ a = .int .i64 x ∧ c = .string ⟨t.toArray⟩ ∧ Below w.heap.size w wr) (fun a _ _ => (intOf a).toNat)
  case atStart => exact ⟨n, [], hb.out.1, hb.out.2, Lib.hid (by simp), rfl, rfl, Below.refl _ _⟩
  case round =>
    obtain ⟨x, t, x0, x1, HI, rfl, rfl, hB⟩ := hrel
    have b0 : 0 ≤ x % 10 := by omega
    have b1 : x % 10 < 10 := by omega
    have kc := conv_byte1 wr (48 + x % 10)
    have tl : t.length ≤ 4 := by
      have q1 := congrArg List.length HI.out
      rw [List.length_append] at q1
      have q2 := D14.dd_len 3 n.toNat (by have := hb.out; omega)
      omega
    have ts : (⟨t.toArray⟩ : ByteArray).size ≤ 4 := by show t.toArray.size ≤ 4; simpa using tl
    by_cases hx : x < 10
    · have z0 : (x / 10 == 0) = true := by simp; omega
      obtain ⟨r2, HR⟩ : ∃ r2, Hid (r2 = (⟨((UInt8.ofNat (48 + x % 10).toNat) :: t).toArray⟩ : ByteArray)) := ⟨_, Lib.hid rfl⟩
      have hr : res = (⟨#[UInt8.ofNat (48 + x % 10).toNat]⟩ : ByteArray) ++ ⟨t.toArray⟩ := by
        rw [app1]
        have e1 : Go.Lib.decDigits x.toNat = [UInt8.ofNat (48 + x.toNat)] := D14.dd_one (by omega)
        have e2 : (48 + x % 10).toNat = 48 + x.toNat := by omega
        have e3 := HN.out.trans HI.out
        rw [e1] at e3
        rw [e2]
        cases res
        simp only [ByteArray.mk.injEq]
        exact Array.toList_inj.1 e3
      subst hr
      clear hx
      go_wp2_with fail
      go_ret
      exact ⟨rfl, baa hB _⟩
    · have z0 : (x / 10 == 0) = false := by simp; omega
      have HI2 : Hid (Go.Lib.decDigits n.toNat = Go.Lib.decDigits (x / 10).toNat ++ (UInt8.ofNat (48 + x % 10).toNat :: t)) := Lib.hid (by
        rw [HI.out, D14.dd_step (u := x.toNat) (by omega), show (x / 10).toNat = x.toNat / 10 by omega, show (48 + x % 10).toNat = 48 + x.toNat % 10 by omega]
        simp)
      have hm : (x / 10).toNat < x.toNat := by omega
      have hx2 : 0 ≤ x / 10 ∧ x / 10 ≤ 9999 := by omega
      have HX := Lib.hid (And.intro hm hx2)
      clear hx hm hx2
      go_wp2_with fail
      go_roundw
      case rel => exact ⟨x / 10, _, HX.out.2.1, HX.out.2.2, HI2, rfl, congrArg Value.string (app1 _ _), baa hB _⟩
      case measure => exact HX.out.1
theorem ref14_names (w : World) :
    Calls Tryz.prog 33 #[] w fun e w' => e = .returned (.slice (some ⟨w.heap.size, 0, none⟩) 12 12) ∧ w' = w.alloc (.cells nameCells.toArray 9) := by
  go_enter Tryz.func33, Tryz.ntmps33
  go_wp2_with fail
  go_ret
  exact ⟨rfl, rfl⟩
end Go.Proofs.YtagmdglmflcegaaGreatDoor
