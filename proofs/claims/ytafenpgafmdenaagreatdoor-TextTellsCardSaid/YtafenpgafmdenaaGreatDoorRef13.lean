/- Layer 13: the document's digits and numbers. -/
import Derived.Test.YtafenpgafmdenaaGreatDoorText2
import Derived.LoopTactic
import Derived.Outline
import Derived.Laws.IdiomStrings
namespace Go.Proofs.YtafenpgafmdenaaGreatDoor
open Go.ChangeShapes Go.WideShapes Go.ChangeAt Go.RowKit
set_option linter.unusedVariables false
set_option maxRecDepth 100000
set_option maxHeartbeats 4000000 in
theorem ref13_number_go (s : ByteArray) (w : World) (hs : s.size ≤ 4) :
    Calls Tryz.prog 50 #[.string s, .int .i64 s.size] w fun e w' => e = .returned (.tuple #[.int .i64 (numVal s.data.toList s.size), .bool (numOk s.data.toList s.size)]) ∧ w = w' := by
  have hlen : s.data.toList.length = s.size := by simp
  have HOk := Lib.hid (show numOk s.data.toList s.size = s.data.toList.all isDig by unfold numOk; rw [hlen]; simp)
  have HV := Lib.hid (show numVal s.data.toList s.size = if s.data.toList.all isDig then numFold s.data.toList else 0 by unfold numVal; rw [HOk.out])
  generalize hvv : numVal s.data.toList s.size = vv at HV
  generalize hoo : numOk s.data.toList s.size = oo at HOk
  clear hlen hvv hoo
  go_enter Tryz.func50, Tryz.ntmps50
  go_wp2_with fail
  go_loop [6, 7] (fun n i => ∃ k : Nat, k ≤ s.size ∧ i = .int .i64 k ∧ n = .int .i64 (numFold (s.data.toList.take k)) ∧ Hid ((s.data.toList.take k).all isDig = true)) (fun _ i => s.size - (intOf i).toNat)
  case atStart => exact ⟨0, Nat.zero_le _, rfl, rfl, Lib.hid rfl⟩
  case round =>
    obtain ⟨k, hk, rfl, rfl, hA⟩ := hrel
    have hbd := numFold_bd _ hA.out
    have hlt4 : (s.data.toList.take k).length ≤ k := List.length_take_le _ _
    by_cases hlt : k < s.size
    · have hpow : (10 : Int) ^ (s.data.toList.take k).length ≤ 1000 := by
        rcases (show (s.data.toList.take k).length = 0 ∨ (s.data.toList.take k).length = 1 ∨ (s.data.toList.take k).length = 2 ∨ (s.data.toList.take k).length = 3 by omega) with h | h | h | h <;> rw [h] <;> decide
      have hF0 := hbd.1
      have hF1 : numFold (s.data.toList.take k) < 1000 := by omega
      have hsn := numFold_snoc (s.data.toList.take k) s[k]
      rw [← take_snoc' s k hlt] at hsn
      have hall : isDig s[k] = true → (s.data.toList.take (k + 1)).all isDig = true := fun h => by rw [take_snoc' s k hlt, List.all_append, hA.out]; simpa using h
      have hno := all_take s k hlt
      have HS := Lib.hid (And.intro hsn (And.intro hall hno))
      clear hsn hall hno hbd hpow hlt4
      by_cases h48 : 48 ≤ (s[k].toNat : Int)
      · by_cases h57 : (s[k].toNat : Int) ≤ 57
        · have hdig : isDig s[k] = true := by unfold isDig; simp; omega
          have HD := Lib.hid hdig
          clear hdig
          go_wp2_with fail
          go_round
          case rel => exact ⟨k + 1, by omega, by go_num, by rw [HS.out.1]; exact congrArg (Value.int .i64) (by omega), Lib.hid (HS.out.2.1 HD.out)⟩
          case measure => simp [intOf]; omega
        · have hf : isDig s[k] = false := by unfold isDig; simp; omega
          have e := HS.out.2.2 hf
          have ev : vv = 0 := by rw [HV.out, e]; rfl
          have eo : oo = false := by rw [HOk.out, e]
          clear e hf
          subst ev
          subst eo
          go_wp2_with fail
          go_ret2
          exact ⟨rfl, rfl⟩
      · have hf : isDig s[k] = false := by unfold isDig; simp; omega
        have e := HS.out.2.2 hf
        have ev : vv = 0 := by rw [HV.out, e]; rfl
        have eo : oo = false := by rw [HOk.out, e]
        clear e hf
        subst ev
        subst eo
        go_wp2_with fail
        go_ret2
        exact ⟨rfl, rfl⟩
    · obtain rfl : k = s.size := by omega
      have ht : s.data.toList.take s.size = s.data.toList := List.take_of_length_le (by simp)
      rw [ht] at hA hbd ⊢
      have ev : vv = numFold s.data.toList := by rw [HV.out, hA.out]; rfl
      have eo : oo = true := by rw [HOk.out, hA.out]
      clear ht hbd hlt4
      subst ev
      subst eo
      go_wp2_with fail
      go_ret2
      exact ⟨rfl, rfl⟩
theorem ref13_number (s : ByteArray) (M : Nat) (w : World) (hM : s.size = M) (h4 : M ≤ 4) :
    Calls Tryz.prog 50 #[.string s, .int .i64 M] w fun e w' => e = .returned (.tuple #[.int .i64 (numVal s.data.toList M), .bool (numOk s.data.toList M)]) ∧ w = w' := by
  subst hM
  exact ref13_number_go s w h4
theorem app1 (a : UInt8) (l : List UInt8) : (⟨#[a]⟩ : ByteArray) ++ ⟨l.toArray⟩ = ⟨(a :: l).toArray⟩ := by
  have : ((⟨#[a]⟩ : ByteArray) ++ ⟨l.toArray⟩).data.toList = (⟨(a :: l).toArray⟩ : ByteArray).data.toList := by simp
  cases h : ((⟨#[a]⟩ : ByteArray) ++ ⟨l.toArray⟩)
  rw [h] at this
  exact congrArg ByteArray.mk (Array.toList_inj.1 this)
theorem conv_byte1 (w : World) (x : Int) :
    (convert 105 9 (.slice (some ⟨w.heap.size, 0, none⟩) 1 1)).run Tryz.prog (w.alloc (.cells #[.int .u8 x] 5)) = .ok (.string ⟨#[UInt8.ofNat x.toNat]⟩) (w.alloc (.cells #[.int .u8 x] 5)) :=
  run_convert_bytes_arg (P := Tryz.prog) (w.alloc (.cells #[.int .u8 x] 5)) 105 5 Tryz.underlying105 Tryz.underlying5 w.heap.size 0 1 1 [x] rfl (by
    intro i hi
    rcases i with _ | i
    · exact World.cell?_alloc_mark w _ 5 _ 0
    · omega) 9 Tryz.underlying9
set_option maxHeartbeats 4000000 in
theorem ref13_digits_2 (n : Int) (h0 : 0 ≤ n) (h1 : n ≤ 9999) (w : World) :
    Calls Tryz.prog 42 #[.int .i64 n, .int .i64 2] w fun e w' => e = .returned (.string (digs n [10, 1])) ∧ Below w.heap.size w w' := by
  go_enter Tryz.func42, Tryz.ntmps42
  go_wp2_with fail
  go_loopw [0, 5, 6] (fun a c i wr => ∃ (k x : Int) (t : ByteArray), ((k = 0 ∧ n = x ∧ ⟨[].toArray⟩ = t) ∨ (k = 1 ∧ n / 10 = x ∧ ⟨[UInt8.ofNat (48 + n % 10).toNat].toArray⟩ = t) ∨ (k = 2 ∧ n / 100 = x ∧ ⟨[UInt8.ofNat (48 + n / 10 % 10).toNat, UInt8.ofNat (48 + n % 10).toNat].toArray⟩ = t)) ∧ a = .int .i64 x ∧ c = .string t ∧ i = .int .i64 k ∧ Below w.heap.size w wr) (fun _ _ i _ => (2 - intOf i).toNat)
  case atStart => exact ⟨0, n, _, .inl ⟨rfl, rfl, rfl⟩, rfl, rfl, rfl, Below.refl _ _⟩
  case round =>
    obtain ⟨k, x, t, hk, rfl, rfl, rfl, hB⟩ := hrel
    rcases hk with ⟨rfl, rfl, rfl⟩ | ⟨rfl, rfl, rfl⟩ | ⟨rfl, rfl, rfl⟩
    · have a0 : 0 ≤ n := by omega
      have b0 : 0 ≤ n % 10 := by omega
      have b1 : n % 10 < 10 := by omega
      have kc := conv_byte1 wr (48 + n % 10)
      go_wp2_with fail
      go_roundw
      case rel => exact ⟨1, n / 10, _, .inr (.inl ⟨rfl, by omega, (app1 _ _).symm⟩), rfl, rfl, rfl, baa hB _⟩
      case measure => simp [intOf]
    · have a0 : 0 ≤ n / 10 := by omega
      have b0 : 0 ≤ n / 10 % 10 := by omega
      have b1 : n / 10 % 10 < 10 := by omega
      have kc := conv_byte1 wr (48 + n / 10 % 10)
      go_wp2_with fail
      go_roundw
      case rel => exact ⟨2, n / 10 / 10, _, .inr (.inr (⟨rfl, by omega, (app1 _ _).symm⟩)), rfl, rfl, rfl, baa hB _⟩
      case measure => simp [intOf]
    · go_wp2_with fail
      go_ret
      refine ⟨?_, hB⟩
      first | rfl | (simp [digs, digB]; done)
set_option maxHeartbeats 4000000 in
theorem ref13_digits_4 (n : Int) (h0 : 0 ≤ n) (h1 : n ≤ 9999) (w : World) :
    Calls Tryz.prog 42 #[.int .i64 n, .int .i64 4] w fun e w' => e = .returned (.string (digs n [1000, 100, 10, 1])) ∧ Below w.heap.size w w' := by
  go_enter Tryz.func42, Tryz.ntmps42
  go_wp2_with fail
  go_loopw [0, 5, 6] (fun a c i wr => ∃ (k x : Int) (t : ByteArray), ((k = 0 ∧ n = x ∧ ⟨[].toArray⟩ = t) ∨ (k = 1 ∧ n / 10 = x ∧ ⟨[UInt8.ofNat (48 + n % 10).toNat].toArray⟩ = t) ∨ (k = 2 ∧ n / 100 = x ∧ ⟨[UInt8.ofNat (48 + n / 10 % 10).toNat, UInt8.ofNat (48 + n % 10).toNat].toArray⟩ = t) ∨ (k = 3 ∧ n / 1000 = x ∧ ⟨[UInt8.ofNat (48 + n / 100 % 10).toNat, UInt8.ofNat (48 + n / 10 % 10).toNat, UInt8.ofNat (48 + n % 10).toNat].toArray⟩ = t) ∨ (k = 4 ∧ n / 10000 = x ∧ ⟨[UInt8.ofNat (48 + n / 1000 % 10).toNat, UInt8.ofNat (48 + n / 100 % 10).toNat, UInt8.ofNat (48 + n / 10 % 10).toNat, UInt8.ofNat (48 + n % 10).toNat].toArray⟩ = t)) ∧ a = .int .i64 x ∧ c = .string t ∧ i = .int .i64 k ∧ Below w.heap.size w wr) (fun _ _ i _ => (4 - intOf i).toNat)
  case atStart => exact ⟨0, n, _, .inl ⟨rfl, rfl, rfl⟩, rfl, rfl, rfl, Below.refl _ _⟩
  case round =>
    obtain ⟨k, x, t, hk, rfl, rfl, rfl, hB⟩ := hrel
    rcases hk with ⟨rfl, rfl, rfl⟩ | ⟨rfl, rfl, rfl⟩ | ⟨rfl, rfl, rfl⟩ | ⟨rfl, rfl, rfl⟩ | ⟨rfl, rfl, rfl⟩
    · have a0 : 0 ≤ n := by omega
      have b0 : 0 ≤ n % 10 := by omega
      have b1 : n % 10 < 10 := by omega
      have kc := conv_byte1 wr (48 + n % 10)
      go_wp2_with fail
      go_roundw
      case rel => exact ⟨1, n / 10, _, .inr (.inl ⟨rfl, by omega, (app1 _ _).symm⟩), rfl, rfl, rfl, baa hB _⟩
      case measure => simp [intOf]
    · have a0 : 0 ≤ n / 10 := by omega
      have b0 : 0 ≤ n / 10 % 10 := by omega
      have b1 : n / 10 % 10 < 10 := by omega
      have kc := conv_byte1 wr (48 + n / 10 % 10)
      go_wp2_with fail
      go_roundw
      case rel => exact ⟨2, n / 10 / 10, _, .inr (.inr (.inl ⟨rfl, by omega, (app1 _ _).symm⟩)), rfl, rfl, rfl, baa hB _⟩
      case measure => simp [intOf]
    · have a0 : 0 ≤ n / 100 := by omega
      have b0 : 0 ≤ n / 100 % 10 := by omega
      have b1 : n / 100 % 10 < 10 := by omega
      have kc := conv_byte1 wr (48 + n / 100 % 10)
      go_wp2_with fail
      go_roundw
      case rel => exact ⟨3, n / 100 / 10, _, .inr (.inr (.inr (.inl ⟨rfl, by omega, (app1 _ _).symm⟩))), rfl, rfl, rfl, baa hB _⟩
      case measure => simp [intOf]
    · have a0 : 0 ≤ n / 1000 := by omega
      have b0 : 0 ≤ n / 1000 % 10 := by omega
      have b1 : n / 1000 % 10 < 10 := by omega
      have kc := conv_byte1 wr (48 + n / 1000 % 10)
      go_wp2_with fail
      go_roundw
      case rel => exact ⟨4, n / 1000 / 10, _, .inr (.inr (.inr (.inr (⟨rfl, by omega, (app1 _ _).symm⟩)))), rfl, rfl, rfl, baa hB _⟩
      case measure => simp [intOf]
    · go_wp2_with fail
      go_ret
      refine ⟨?_, hB⟩
      first | rfl | (simp [digs, digB]; done)
end Go.Proofs.YtafenpgafmdenaaGreatDoor
